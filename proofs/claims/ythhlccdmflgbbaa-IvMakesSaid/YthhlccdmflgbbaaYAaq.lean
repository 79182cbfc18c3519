/-
  Contracts and words that the statement's proof rests on, several texts in one: Cn.
-/
import Derived.Test.YthhlccdmflgbbaaYAap
/-
  What iv's None, Make, May, Point, All, Has, and Within do.
-/
namespace Go.Proofs.Ythhlccdmflgbbaa
open Go.RowKit
set_option linter.unusedVariables false
set_option linter.unusedSimpArgs false
set_option maxRecDepth 100000

theorem nInfE {w : World} (s : Bool) : Calls Try.prog 31 #[.bool s] w (fun e w' => e = .returned (.agg #[.int .i64 2, .bool s, .int .u64 0, .int .i64 0]) ∧ Below w.heap.size w w') := by
  refine (nInf (s := s) rfl).mono ?_
  rintro ee w2 ⟨K, s1, M, E, rfl, q, B⟩
  obtain ⟨rfl, rfl, rfl, rfl⟩ := q.uniq (fq_inf2 s)
  exact ⟨rfl, B⟩
theorem cmp_gtE {x y c : Int} (h : cmpI x y = c) : decide (0 < c) = decide (y < x) := by
  rw [← h]
  by_cases e : y < x
  · rw [decide_eq_true e]
    exact decide_eq_true (by rcases cmpI_tri x y with ⟨a, b⟩ | ⟨a, b⟩ | ⟨a, b⟩ <;> rw [b] <;> omega)
  · rw [decide_eq_false e]
    exact decide_eq_false (by rcases cmpI_tri x y with ⟨a, b⟩ | ⟨a, b⟩ | ⟨a, b⟩ <;> rw [b] <;> omega)
theorem cmp_geE {x y c : Int} (h : cmpI x y = c) : decide (0 ≤ c) = decide (y ≤ x) := by
  rw [← h]
  by_cases e : y ≤ x
  · rw [decide_eq_true e]
    exact decide_eq_true (by rcases cmpI_tri x y with ⟨a, b⟩ | ⟨a, b⟩ | ⟨a, b⟩ <;> rw [b] <;> omega)
  · rw [decide_eq_false e]
    exact decide_eq_false (by rcases cmpI_tri x y with ⟨a, b⟩ | ⟨a, b⟩ | ⟨a, b⟩ <;> rw [b] <;> omega)
set_option maxHeartbeats 2000000 in
theorem kvNone {w : World}  : Calls Try.prog 19 #[] w (PV w none) := by
  go_enter Try.func19, Try.ntmps19
  go_upto_region 1 with (fail)
  have XR := (Bo.newAt w (g := w.heap.size) (by simp) #[.bool false, .int .i64 0, .bool false, .int .u64 0, .int .i64 0, .int .i64 0, .bool false, .int .u64 0, .int .i64 0] 26)
  have HB := Lib.hid (bel1 w (.cells #[.bool false, .int .i64 0, .bool false, .int .u64 0, .int .i64 0, .int .i64 0, .bool false, .int .u64 0, .int .i64 0] 26))
  generalize hW1 : (w.alloc (.cells #[.bool false, .int .i64 0, .bool false, .int .u64 0, .int .i64 0, .int .i64 0, .bool false, .int .u64 0, .int .i64 0] 26)) = w1 at *
  clear hW1
  obtain ⟨xXR0, xXR1, xXR2, xXR3, xXR4, xXR5, xXR6, xXR7, xXR8⟩ := XR.ce9 rfl rfl rfl rfl rfl rfl rfl rfl rfl
  have zXR0 := XR.frozen
  go_wp2
  clear xXR0 zXR0 xXR1 xXR2 xXR3 xXR4 xXR5 xXR6 xXR7 xXR8
  have SX := StN.mk9 XR (.bool true) (.int .i64 0) (.bool false) (.int .u64 0) (.int .i64 0) (.int .i64 0) (.bool false) (.int .u64 0) (.int .i64 0)
  exact bodyPost_ret (v := .agg #[.bool true, .int .i64 0, .bool false, .int .u64 0, .int .i64 0, .int .i64 0, .bool false, .int .u64 0, .int .i64 0]) (by simp [results, Try.results19, go_sem, SX.box.cell]) rfl ⟨_, _, _, _, _, _, _, _, _, rfl, Ci.none, (SX.below HB.out (by omega))⟩
theorem kvNoneE {w : World} : Calls Try.prog 19 #[] w (fun e w' => e = .returned (.agg #[.bool true, .int .i64 0, .bool false, .int .u64 0, .int .i64 0, .int .i64 0, .bool false, .int .u64 0, .int .i64 0]) ∧ Below w.heap.size w w') := by
  refine kvNone.mono ?_
  rintro ee w2 ⟨e1, K1, s1, M1, E1, K1b, s1b, M1b, E1b, rfl, v1, B⟩
  obtain ⟨rfl, rfl, rfl, rfl, rfl, rfl, rfl, rfl, rfl⟩ := v1.uniq Ci.none
  exact ⟨rfl, B⟩
set_option maxHeartbeats 2000000 in
theorem kvOrN {w : World} {D M E : Int} {s : Bool} {r : Int} (hM : M < 18446744073709551616) (hr : rk D s M E = r) : Calls Try.prog 29 #[.agg #[.int .i64 D, .bool s, .int .u64 M, .int .i64 E]] w (PN w r) := by
  by_cases hm : MayQ D s M E
  · have HQ := rk_fq hM hm
    rw [hr] at HQ
    have HC := Lib.hid (show decide (MayQ D s M E) = true from decide_eq_true hm)
    clear hm hr hM
    go_enter Try.func29, Try.ntmps29
    go_upto_region 1 with (fail)
    have X1 := (Bo.newAt w (g := w.heap.size) (by simp) #[.int .i64 D, .bool s, .int .u64 M, .int .i64 E] 24).below (bel1 _ (.cells #[.int .i64 0, .bool false, .int .u64 0, .int .i64 0] 24))
    have XR := (Bo.newAt (w.alloc (.cells #[.int .i64 D, .bool s, .int .u64 M, .int .i64 E] 24)) (g := w.heap.size + 1) (by simp) #[.int .i64 0, .bool false, .int .u64 0, .int .i64 0] 24)
    have HB := Lib.hid (bel2 w (.cells #[.int .i64 D, .bool s, .int .u64 M, .int .i64 E] 24) (.cells #[.int .i64 0, .bool false, .int .u64 0, .int .i64 0] 24))
    generalize hW1 : ((w.alloc (.cells #[.int .i64 D, .bool s, .int .u64 M, .int .i64 E] 24)).alloc (.cells #[.int .i64 0, .bool false, .int .u64 0, .int .i64 0] 24)) = w1 at *
    clear hW1
    obtain ⟨xX10, xX11, xX12, xX13⟩ := X1.ce4 rfl rfl rfl rfl
    go_wp2_with fail
    refine (nMay HC.out).mono ?_
    rintro ee w2 ⟨rfl, B⟩
    clear xX10 xX11 xX12 xX13
    replace X1 := X1.below B
    replace XR := XR.below B
    replace HB := Lib.hid (bt HB.out B)
    clear B
    obtain ⟨xXR0, xXR1, xXR2, xXR3⟩ := XR.ce4 rfl rfl rfl rfl
    have zXR0 := XR.frozen
    obtain ⟨xX10, xX11, xX12, xX13⟩ := X1.ce4 rfl rfl rfl rfl
    go_wp2
    clear xXR0 zXR0 xXR1 xXR2 xXR3 xX10 xX11 xX12 xX13
    have SX := StN.mk4 XR (.int .i64 D) (.bool s) (.int .u64 M) (.int .i64 E)
    exact bodyPost_ret (v := .agg #[.int .i64 D, .bool s, .int .u64 M, .int .i64 E]) (by simp [results, Try.results29, go_sem, SX.box.cell]) rfl ⟨D, s, M, E, rfl, HQ, (SX.below HB.out (by omega))⟩
  · rw [rk_not hm] at hr
    subst hr
    have HC := Lib.hid (show decide (MayQ D s M E) = false from decide_eq_false hm)
    clear hm hM
    go_enter Try.func29, Try.ntmps29
    go_upto_region 1 with (fail)
    have X1 := (Bo.newAt w (g := w.heap.size) (by simp) #[.int .i64 D, .bool s, .int .u64 M, .int .i64 E] 24).below (bel1 _ (.cells #[.int .i64 0, .bool false, .int .u64 0, .int .i64 0] 24))
    have XR := (Bo.newAt (w.alloc (.cells #[.int .i64 D, .bool s, .int .u64 M, .int .i64 E] 24)) (g := w.heap.size + 1) (by simp) #[.int .i64 0, .bool false, .int .u64 0, .int .i64 0] 24)
    have HB := Lib.hid (bel2 w (.cells #[.int .i64 D, .bool s, .int .u64 M, .int .i64 E] 24) (.cells #[.int .i64 0, .bool false, .int .u64 0, .int .i64 0] 24))
    generalize hW1 : ((w.alloc (.cells #[.int .i64 D, .bool s, .int .u64 M, .int .i64 E] 24)).alloc (.cells #[.int .i64 0, .bool false, .int .u64 0, .int .i64 0] 24)) = w1 at *
    clear hW1
    obtain ⟨xX10, xX11, xX12, xX13⟩ := X1.ce4 rfl rfl rfl rfl
    go_wp2_with fail
    refine (nMay HC.out).mono ?_
    rintro ee w2 ⟨rfl, B⟩
    clear xX10 xX11 xX12 xX13
    replace X1 := X1.below B
    replace XR := XR.below B
    replace HB := Lib.hid (bt HB.out B)
    clear B
    obtain ⟨xXR0, xXR1, xXR2, xXR3⟩ := XR.ce4 rfl rfl rfl rfl
    have zXR0 := XR.frozen
    obtain ⟨xX10, xX11, xX12, xX13⟩ := X1.ce4 rfl rfl rfl rfl
    go_wp2
    clear xXR0 zXR0 xXR1 xXR2 xXR3 xX10 xX11 xX12 xX13
    have SX := StN.mk4 XR (.int .i64 0) (.bool false) (.int .u64 0) (.int .i64 0)
    exact bodyPost_ret (v := .agg #[.int .i64 0, .bool false, .int .u64 0, .int .i64 0]) (by simp [results, Try.results29, go_sem, SX.box.cell]) rfl ⟨_, _, _, _, rfl, Fq.nought, (SX.below HB.out (by omega))⟩
set_option maxHeartbeats 4000000 in
theorem kvMake {w : World} {D D' M M' E E' : Int} {s s' : Bool} {a b : Int} {x : Sp} (hM : M < 18446744073709551616) (hM' : M' < 18446744073709551616) (ha : rk D s M E = a) (hb : rk D' s' M' E' = b) (hx : mkI a b = x) : Calls Try.prog 9 #[.agg #[.int .i64 D, .bool s, .int .u64 M, .int .i64 E], .agg #[.int .i64 D', .bool s', .int .u64 M', .int .i64 E']] w (PV w x) := by
  have HA := Lib.hid ha
  have HBB := Lib.hid hb
  clear ha hb
  go_enter Try.func9, Try.ntmps9
  go_upto_region 1 with (fail)
  have X2 := (Bo.newAt w (g := w.heap.size) (by simp) #[.int .i64 D, .bool s, .int .u64 M, .int .i64 E] 24).below (bel2 _ (.cells #[.int .i64 D', .bool s', .int .u64 M', .int .i64 E'] 24) (.cells #[.bool false, .int .i64 0, .bool false, .int .u64 0, .int .i64 0, .int .i64 0, .bool false, .int .u64 0, .int .i64 0] 26))
  have X3 := (Bo.newAt (w.alloc (.cells #[.int .i64 D, .bool s, .int .u64 M, .int .i64 E] 24)) (g := w.heap.size + 1) (by simp) #[.int .i64 D', .bool s', .int .u64 M', .int .i64 E'] 24).below (bel1 _ (.cells #[.bool false, .int .i64 0, .bool false, .int .u64 0, .int .i64 0, .int .i64 0, .bool false, .int .u64 0, .int .i64 0] 26))
  have XR := (Bo.newAt ((w.alloc (.cells #[.int .i64 D, .bool s, .int .u64 M, .int .i64 E] 24)).alloc (.cells #[.int .i64 D', .bool s', .int .u64 M', .int .i64 E'] 24)) (g := w.heap.size + 1 + 1) (by simp) #[.bool false, .int .i64 0, .bool false, .int .u64 0, .int .i64 0, .int .i64 0, .bool false, .int .u64 0, .int .i64 0] 26)
  have HB := Lib.hid (bel3 w (.cells #[.int .i64 D, .bool s, .int .u64 M, .int .i64 E] 24) (.cells #[.int .i64 D', .bool s', .int .u64 M', .int .i64 E'] 24) (.cells #[.bool false, .int .i64 0, .bool false, .int .u64 0, .int .i64 0, .int .i64 0, .bool false, .int .u64 0, .int .i64 0] 26))
  generalize hW1 : (((w.alloc (.cells #[.int .i64 D, .bool s, .int .u64 M, .int .i64 E] 24)).alloc (.cells #[.int .i64 D', .bool s', .int .u64 M', .int .i64 E'] 24)).alloc (.cells #[.bool false, .int .i64 0, .bool false, .int .u64 0, .int .i64 0, .int .i64 0, .bool false, .int .u64 0, .int .i64 0] 26)) = w1 at *
  clear hW1
  refine Jo.region_joint (T := [0, 1, 2, 3]) (ds := [some 5, some 6, some 7, some 8, none, none]) (ls := [[], [0], [], [2], [], []]) (k := 6) (L := [(some 5, 0), (some 6, 1), (some 7, 2), (some 8, 3)]) (fuel := 2) (J := fun wj => Below (World.heap w1).size w1 wj)
    (F := [Jo.Fact.eq (.agg #[.int .i64 D, .bool s, .int .u64 M, .int .i64 E]), Jo.Fact.num a, Jo.Fact.eq (.agg #[.int .i64 D', .bool s', .int .u64 M', .int .i64 E']), Jo.Fact.num b, Jo.Fact.any, Jo.Fact.any])
    (by kernel_rfl) (by kernel_rfl) (by decide) rfl rfl (fun _ _ h b => bt h b) ((Below.refl _ _).drew) ?_ (fun vs w2 hJ hd => ?_)
  · refine Jo.jd 0 (some 5) [] (Jo.Fact.eq (.agg #[.int .i64 D, .bool s, .int .u64 M, .int .i64 E])) rfl rfl rfl rfl (fun vs wj hJ hd K hK => ?_) ?_
    · simp only [Jo.putl, Jo.ze, Act.put, Jo.za, Jo.zb, Jo.zc] at hK ⊢
      clear hd
      have xX20 := (X2.below hJ).a 0 (.int .i64 D) rfl
      have xX21 := (X2.below hJ).a 1 (.bool s) rfl
      have xX22 := (X2.below hJ).a 2 (.int .u64 M) rfl
      have xX23 := (X2.below hJ).a 3 (.int .i64 E) rfl
      go_simp
      exact hK.out _ _ rfl (Below.refl _ _)
    refine Jo.jd 1 (some 6) [(some 5, 0)] (Jo.Fact.num a) rfl rfl rfl rfl (fun vs wj hJ hd K hK => ?_) ?_
    · simp only [Jo.putl, Jo.zd, Jo.ze, Act.put, Jo.za, Jo.zb, Jo.zc] at hK ⊢
      rw [show vs 0 = _ from hd 0 (by decide)] at hK ⊢
      clear hd
      go_simp
      refine (kvOrN hM HA.out).mono ?_
      rintro ee wk ⟨K1, s1, M1, E1, rfl, q1, B⟩
      exact hK.out _ _ ⟨K1, s1, M1, E1, rfl, q1⟩ B
    refine Jo.jd 2 (some 7) [] (Jo.Fact.eq (.agg #[.int .i64 D', .bool s', .int .u64 M', .int .i64 E'])) rfl rfl rfl rfl (fun vs wj hJ hd K hK => ?_) ?_
    · simp only [Jo.putl, Jo.ze, Act.put, Jo.za, Jo.zb, Jo.zc] at hK ⊢
      clear hd
      have xX30 := (X3.below hJ).a 0 (.int .i64 D') rfl
      have xX31 := (X3.below hJ).a 1 (.bool s') rfl
      have xX32 := (X3.below hJ).a 2 (.int .u64 M') rfl
      have xX33 := (X3.below hJ).a 3 (.int .i64 E') rfl
      go_simp
      exact hK.out _ _ rfl (Below.refl _ _)
    refine Jo.jd 3 (some 8) [(some 7, 2)] (Jo.Fact.num b) rfl rfl rfl rfl (fun vs wj hJ hd K hK => ?_) ?_
    · simp only [Jo.putl, Jo.zd, Jo.ze, Act.put, Jo.za, Jo.zb, Jo.zc] at hK ⊢
      rw [show vs 2 = _ from hd 2 (by decide)] at hK ⊢
      clear hd
      go_simp
      refine (kvOrN hM' HBB.out).mono ?_
      rintro ee wk ⟨K2, s2, M2, E2, rfl, q2, B⟩
      exact hK.out _ _ ⟨K2, s2, M2, E2, rfl, q2⟩ B
    exact Jo.Steps.nil
  have d1 : (Jo.Fact.num a).P (vs 1) w2 := hd 1 (by decide)
  have d3 : (Jo.Fact.num b).P (vs 3) w2 := hd 3 (by decide)
  simp only [Jo.putl, Jo.zd, Jo.ze, Act.put, Jo.za, Jo.zb, Jo.zc]
  rw [show vs 0 = _ from hd 0 (by decide), show vs 2 = _ from hd 2 (by decide)]
  clear hd
  generalize vs 1 = u1 at d1 ⊢
  generalize vs 3 = u3 at d3 ⊢
  obtain ⟨K1, s1, M1, E1, rfl, q1⟩ := d1
  obtain ⟨K2, s2, M2, E2, rfl, q2⟩ := d3
  replace X2 := X2.below hJ
  replace X3 := X3.below hJ
  replace XR := XR.below hJ
  replace HB := Lib.hid (bt HB.out hJ)
  obtain ⟨xX20, xX21, xX22, xX23⟩ := X2.ce4 rfl rfl rfl rfl
  have zX20 := X2.frozen
  refine Jo.jnext (i := 4) (o := ⟨none, _, _, _, _, _⟩) (by kernel_rfl) rfl (fun K hK => ?_)
  go_simp
  refine hK.out _ _ ?_
  clear hK K xX20 zX20 xX21 xX22 xX23
  have SX := StN.mk4 X2 (.int .i64 K1) (.bool s1) (.int .u64 M1) (.int .i64 E1)
  replace X3 := X3.stn SX (by omega)
  replace XR := XR.stn SX (by omega)
  replace HB := Lib.hid (SX.below HB.out (by omega))
  replace X2 := SX.box
  clear SX
  generalize (World.setCell (World.setCell (World.setCell (World.setCell w2 ⟨w.heap.size, 0, none⟩ (.int .i64 K1)) ⟨w.heap.size, 1, none⟩ (.bool s1)) ⟨w.heap.size, 2, none⟩ (.int .u64 M1)) ⟨w.heap.size, 3, none⟩ (.int .i64 E1)) = w3 at *
  obtain ⟨xX30, xX31, xX32, xX33⟩ := X3.ce4 rfl rfl rfl rfl
  have zX30 := X3.frozen
  refine Jo.jnext (i := 5) (o := ⟨none, _, _, _, _, _⟩) (by kernel_rfl) rfl (fun K hK => ?_)
  go_simp
  refine hK.out _ _ ?_
  clear hK K xX30 zX30 xX31 xX32 xX33
  have SX := StN.mk4 X3 (.int .i64 K2) (.bool s2) (.int .u64 M2) (.int .i64 E2)
  replace X2 := X2.stn SX (by omega)
  replace XR := XR.stn SX (by omega)
  replace HB := Lib.hid (SX.below HB.out (by omega))
  replace X3 := SX.box
  clear SX
  generalize (World.setCell (World.setCell (World.setCell (World.setCell w3 ⟨w.heap.size + 1, 0, none⟩ (.int .i64 K2)) ⟨w.heap.size + 1, 1, none⟩ (.bool s2)) ⟨w.heap.size + 1, 2, none⟩ (.int .u64 M2)) ⟨w.heap.size + 1, 3, none⟩ (.int .i64 E2)) = w4 at *
  refine Jo.jdone (by kernel_rfl) ?_
  clear HA HBB hM hM'
  obtain ⟨c, hc⟩ : ∃ c, cmpI a b = c := ⟨_, rfl⟩
  have hg := cmp_gtE hc
  have HC : Hid (cmpI (rk K1 s1 M1 E1) (rk K2 s2 M2 E2) = c) := Lib.hid (by rw [q1.rk, q2.rk]; exact hc)
  clear hc
  by_cases hgt : b < a
  · rw [mkI_none (by omega)] at hx
    obtain rfl : none = x := hx
    rw [decide_eq_true hgt] at hg
    have HC0 := Lib.hid hg
    clear hg hgt
    go_wp2
    refine Jo.region_joint (T := [0, 1, 2, 3, 4, 5, 6, 7, 8, 9, 10, 11, 12, 13]) (ds := [some 9, some 10, some 11, some 12, some 13, some 14, some 15, some 16, some 17, some 18, some 19, some 20, some 21, some 22]) (ls := [[], [], [0, 1], [2], [3], [4], [4], [4, 5, 6], [4, 7], [8], [9], [9], [9, 10, 11], [9, 12]]) (k := 14) (L := [(some 9, 0), (some 10, 1), (some 11, 2), (some 12, 3), (some 13, 4), (some 14, 5), (some 15, 6), (some 16, 7), (some 17, 8), (some 18, 9), (some 19, 10), (some 20, 11), (some 21, 12), (some 22, 13)]) (fuel := 0) (J := fun wj => Below (World.heap w4).size w4 wj)
      (F := [Jo.Fact.eq (.agg #[.int .i64 K1, .bool s1, .int .u64 M1, .int .i64 E1]), Jo.Fact.eq (.agg #[.int .i64 K2, .bool s2, .int .u64 M2, .int .i64 E2]), Jo.Fact.eq (.int .i64 c), Jo.Fact.eq (.bool true), Jo.Fact.eq (.bool true), Jo.Fact.eq undef, Jo.Fact.eq undef, Jo.Fact.eq undef, Jo.Fact.eq (.bool true), Jo.Fact.eq (.bool true), Jo.Fact.eq undef, Jo.Fact.eq undef, Jo.Fact.eq undef, Jo.Fact.eq (.bool true)])
      (by kernel_rfl) (by kernel_rfl) (by decide) rfl rfl (fun _ _ h b => bt h b) ((Below.refl _ _).drew) ?_ (fun vs w8 hJ hd => ?_)
    · refine Jo.jd 0 (some 9) [] (Jo.Fact.eq (.agg #[.int .i64 K1, .bool s1, .int .u64 M1, .int .i64 E1])) rfl rfl rfl rfl (fun vs wj hJ hd K hK => ?_) ?_
      · simp only [Jo.putl, Jo.ze, Act.put, Jo.za, Jo.zb, Jo.zc] at hK ⊢
        clear hd
        have xX20 := (X2.below hJ).a 0 (.int .i64 K1) rfl
        have xX21 := (X2.below hJ).a 1 (.bool s1) rfl
        have xX22 := (X2.below hJ).a 2 (.int .u64 M1) rfl
        have xX23 := (X2.below hJ).a 3 (.int .i64 E1) rfl
        go_simp
        exact hK.out _ _ rfl (Below.refl _ _)
      refine Jo.jd 1 (some 10) [] (Jo.Fact.eq (.agg #[.int .i64 K2, .bool s2, .int .u64 M2, .int .i64 E2])) rfl rfl rfl rfl (fun vs wj hJ hd K hK => ?_) ?_
      · simp only [Jo.putl, Jo.ze, Act.put, Jo.za, Jo.zb, Jo.zc] at hK ⊢
        clear hd
        have xX30 := (X3.below hJ).a 0 (.int .i64 K2) rfl
        have xX31 := (X3.below hJ).a 1 (.bool s2) rfl
        have xX32 := (X3.below hJ).a 2 (.int .u64 M2) rfl
        have xX33 := (X3.below hJ).a 3 (.int .i64 E2) rfl
        go_simp
        exact hK.out _ _ rfl (Below.refl _ _)
      refine Jo.jd 2 (some 11) [(some 9, 0), (some 10, 1)] (Jo.Fact.eq (.int .i64 c)) rfl rfl rfl rfl (fun vs wj hJ hd K hK => ?_) ?_
      · simp only [Jo.putl, Jo.zd, Jo.ze, Act.put, Jo.za, Jo.zb, Jo.zc] at hK ⊢
        rw [show vs 0 = _ from hd 0 (by decide), show vs 1 = _ from hd 1 (by decide)] at hK ⊢
        clear hd
        go_simp
        refine (nCmp q1.top q2.top HC.out).mono ?_
        rintro ee wk ⟨rfl, B⟩
        exact hK.out _ _ rfl B
      refine Jo.jd 3 (some 12) [(some 11, 2)] (Jo.Fact.eq (.bool true)) rfl rfl rfl rfl (fun vs wj hJ hd K hK => ?_) ?_
      · simp only [Jo.putl, Jo.zd, Jo.ze, Act.put, Jo.za, Jo.zb, Jo.zc] at hK ⊢
        rw [show vs 2 = _ from hd 2 (by decide)] at hK ⊢
        clear hd
        have hc0 := HC0.out
        go_simp
        exact hK.out _ _ (by first | rfl | (show Value.bool _ = Value.bool _; rw [hc0]) | simp_all) (Below.refl _ _)
      refine Jo.jd 4 (some 13) [(some 12, 3)] (Jo.Fact.eq (.bool true)) rfl rfl rfl rfl (fun vs wj hJ hd K hK => ?_) ?_
      · simp only [Jo.putl, Jo.zd, Jo.ze, Act.put, Jo.za, Jo.zb, Jo.zc] at hK ⊢
        rw [show vs 3 = _ from hd 3 (by decide)] at hK ⊢
        clear hd
        go_simp
        exact hK.out _ _ rfl (Below.refl _ _)
      refine Jo.jd 5 (some 14) [(some 13, 4)] (Jo.Fact.eq undef) rfl rfl rfl rfl (fun vs wj hJ hd K hK => ?_) ?_
      · simp only [Jo.putl, Jo.zd, Jo.ze, Act.put, Jo.za, Jo.zb, Jo.zc] at hK ⊢
        rw [show vs 4 = _ from hd 4 (by decide)] at hK ⊢
        clear hd
        go_simp
        exact hK.out _ _ rfl (Below.refl _ _)
      refine Jo.jd 6 (some 15) [(some 13, 4)] (Jo.Fact.eq undef) rfl rfl rfl rfl (fun vs wj hJ hd K hK => ?_) ?_
      · simp only [Jo.putl, Jo.zd, Jo.ze, Act.put, Jo.za, Jo.zb, Jo.zc] at hK ⊢
        rw [show vs 4 = _ from hd 4 (by decide)] at hK ⊢
        clear hd
        go_simp
        exact hK.out _ _ rfl (Below.refl _ _)
      refine Jo.jd 7 (some 16) [(some 13, 4), (some 14, 5), (some 15, 6)] (Jo.Fact.eq undef) rfl rfl rfl rfl (fun vs wj hJ hd K hK => ?_) ?_
      · have d5 : (Jo.Fact.eq undef).P (vs 5) wj := hd 5 (by decide)
        have d6 : (Jo.Fact.eq undef).P (vs 6) wj := hd 6 (by decide)
        simp only [Jo.putl, Jo.zd, Jo.ze, Act.put, Jo.za, Jo.zb, Jo.zc] at hK ⊢
        rw [show vs 4 = _ from hd 4 (by decide)] at hK ⊢
        clear hd
        generalize vs 5 = u5 at hK d5 ⊢
        generalize vs 6 = u6 at hK d6 ⊢
        replace d5 : u5 = _ := d5
        subst d5
        replace d6 : u6 = _ := d6
        subst d6
        go_simp
        exact hK.out _ _ rfl (Below.refl _ _)
      refine Jo.jd 8 (some 17) [(some 13, 4), (some 16, 7)] (Jo.Fact.eq (.bool true)) rfl rfl rfl rfl (fun vs wj hJ hd K hK => ?_) ?_
      · have d7 : (Jo.Fact.eq undef).P (vs 7) wj := hd 7 (by decide)
        simp only [Jo.putl, Jo.zd, Jo.ze, Act.put, Jo.za, Jo.zb, Jo.zc] at hK ⊢
        rw [show vs 4 = _ from hd 4 (by decide)] at hK ⊢
        clear hd
        generalize vs 7 = u7 at hK d7 ⊢
        replace d7 : u7 = _ := d7
        subst d7
        go_simp
        exact hK.out _ _ rfl (Below.refl _ _)
      refine Jo.jd 9 (some 18) [(some 17, 8)] (Jo.Fact.eq (.bool true)) rfl rfl rfl rfl (fun vs wj hJ hd K hK => ?_) ?_
      · simp only [Jo.putl, Jo.zd, Jo.ze, Act.put, Jo.za, Jo.zb, Jo.zc] at hK ⊢
        rw [show vs 8 = _ from hd 8 (by decide)] at hK ⊢
        clear hd
        go_simp
        exact hK.out _ _ rfl (Below.refl _ _)
      refine Jo.jd 10 (some 19) [(some 18, 9)] (Jo.Fact.eq undef) rfl rfl rfl rfl (fun vs wj hJ hd K hK => ?_) ?_
      · simp only [Jo.putl, Jo.zd, Jo.ze, Act.put, Jo.za, Jo.zb, Jo.zc] at hK ⊢
        rw [show vs 9 = _ from hd 9 (by decide)] at hK ⊢
        clear hd
        go_simp
        exact hK.out _ _ rfl (Below.refl _ _)
      refine Jo.jd 11 (some 20) [(some 18, 9)] (Jo.Fact.eq undef) rfl rfl rfl rfl (fun vs wj hJ hd K hK => ?_) ?_
      · simp only [Jo.putl, Jo.zd, Jo.ze, Act.put, Jo.za, Jo.zb, Jo.zc] at hK ⊢
        rw [show vs 9 = _ from hd 9 (by decide)] at hK ⊢
        clear hd
        go_simp
        exact hK.out _ _ rfl (Below.refl _ _)
      refine Jo.jd 12 (some 21) [(some 18, 9), (some 19, 10), (some 20, 11)] (Jo.Fact.eq undef) rfl rfl rfl rfl (fun vs wj hJ hd K hK => ?_) ?_
      · have d10 : (Jo.Fact.eq undef).P (vs 10) wj := hd 10 (by decide)
        have d11 : (Jo.Fact.eq undef).P (vs 11) wj := hd 11 (by decide)
        simp only [Jo.putl, Jo.zd, Jo.ze, Act.put, Jo.za, Jo.zb, Jo.zc] at hK ⊢
        rw [show vs 9 = _ from hd 9 (by decide)] at hK ⊢
        clear hd
        generalize vs 10 = u10 at hK d10 ⊢
        generalize vs 11 = u11 at hK d11 ⊢
        replace d10 : u10 = _ := d10
        subst d10
        replace d11 : u11 = _ := d11
        subst d11
        go_simp
        exact hK.out _ _ rfl (Below.refl _ _)
      refine Jo.jd 13 (some 22) [(some 18, 9), (some 21, 12)] (Jo.Fact.eq (.bool true)) rfl rfl rfl rfl (fun vs wj hJ hd K hK => ?_) ?_
      · have d12 : (Jo.Fact.eq undef).P (vs 12) wj := hd 12 (by decide)
        simp only [Jo.putl, Jo.zd, Jo.ze, Act.put, Jo.za, Jo.zb, Jo.zc] at hK ⊢
        rw [show vs 9 = _ from hd 9 (by decide)] at hK ⊢
        clear hd
        generalize vs 12 = u12 at hK d12 ⊢
        replace d12 : u12 = _ := d12
        subst d12
        go_simp
        exact hK.out _ _ rfl (Below.refl _ _)
      exact Jo.Steps.nil
    have d5 : (Jo.Fact.eq undef).P (vs 5) w8 := hd 5 (by decide)
    have d6 : (Jo.Fact.eq undef).P (vs 6) w8 := hd 6 (by decide)
    have d7 : (Jo.Fact.eq undef).P (vs 7) w8 := hd 7 (by decide)
    have d10 : (Jo.Fact.eq undef).P (vs 10) w8 := hd 10 (by decide)
    have d11 : (Jo.Fact.eq undef).P (vs 11) w8 := hd 11 (by decide)
    have d12 : (Jo.Fact.eq undef).P (vs 12) w8 := hd 12 (by decide)
    simp only [Jo.putl, Jo.zd, Jo.ze, Act.put, Jo.za, Jo.zb, Jo.zc]
    rw [show vs 0 = _ from hd 0 (by decide), show vs 1 = _ from hd 1 (by decide), show vs 2 = _ from hd 2 (by decide), show vs 3 = _ from hd 3 (by decide), show vs 4 = _ from hd 4 (by decide), show vs 8 = _ from hd 8 (by decide), show vs 9 = _ from hd 9 (by decide), show vs 13 = _ from hd 13 (by decide)]
    clear hd
    generalize vs 5 = u5 at d5 ⊢
    generalize vs 6 = u6 at d6 ⊢
    generalize vs 7 = u7 at d7 ⊢
    generalize vs 10 = u10 at d10 ⊢
    generalize vs 11 = u11 at d11 ⊢
    generalize vs 12 = u12 at d12 ⊢
    replace d5 : u5 = _ := d5
    subst d5
    replace d6 : u6 = _ := d6
    subst d6
    replace d7 : u7 = _ := d7
    subst d7
    replace d10 : u10 = _ := d10
    subst d10
    replace d11 : u11 = _ := d11
    subst d11
    replace d12 : u12 = _ := d12
    subst d12
    replace X2 := X2.below hJ
    replace X3 := X3.below hJ
    replace XR := XR.below hJ
    replace HB := Lib.hid (bt HB.out hJ)
    refine Jo.jdone (by kernel_rfl) ?_
    go_wp2_with fail
    refine (kvNoneE).mono ?_
    rintro ee w9 ⟨rfl, B⟩
    replace X2 := X2.below B
    replace X3 := X3.below B
    replace XR := XR.below B
    replace HB := Lib.hid (bt HB.out B)
    clear B
    obtain ⟨xXR0, xXR1, xXR2, xXR3, xXR4, xXR5, xXR6, xXR7, xXR8⟩ := XR.ce9 rfl rfl rfl rfl rfl rfl rfl rfl rfl
    have zXR0 := XR.frozen
    go_wp2
    clear xXR0 zXR0 xXR1 xXR2 xXR3 xXR4 xXR5 xXR6 xXR7 xXR8
    have SX := StN.mk9 XR (.bool true) (.int .i64 0) (.bool false) (.int .u64 0) (.int .i64 0) (.int .i64 0) (.bool false) (.int .u64 0) (.int .i64 0)
    exact bodyPost_ret (v := .agg #[.bool true, .int .i64 0, .bool false, .int .u64 0, .int .i64 0, .int .i64 0, .bool false, .int .u64 0, .int .i64 0]) (by simp [results, Try.results9, go_sem, SX.box.cell]) rfl ⟨_, _, _, _, _, _, _, _, _, rfl, Ci.none, (SX.below HB.out (by omega))⟩
  · rw [decide_eq_false hgt] at hg
    have HC0 := Lib.hid hg
    clear hg
    by_cases ht : a = 19342822337206103650074625
    · subst ht
      rw [mkI_none (by omega)] at hx
      obtain rfl : none = x := hx
      obtain ⟨rfl, rfl, rfl, rfl⟩ := q1.uniq (show Fq 2 false 0 0 19342822337206103650074625 from fq_inf2 false)
      clear hgt
      go_wp2
      refine Jo.region_joint (T := [0, 1, 2, 3, 4, 5, 6, 7, 8, 9, 10, 11, 12, 13]) (ds := [some 9, some 10, some 11, some 12, some 13, some 14, some 15, some 16, some 17, some 18, some 19, some 20, some 21, some 22]) (ls := [[], [], [0, 1], [2], [3], [4], [4], [4, 5, 6], [4, 7], [8], [9], [9], [9, 10, 11], [9, 12]]) (k := 14) (L := [(some 9, 0), (some 10, 1), (some 11, 2), (some 12, 3), (some 13, 4), (some 14, 5), (some 15, 6), (some 16, 7), (some 17, 8), (some 18, 9), (some 19, 10), (some 20, 11), (some 21, 12), (some 22, 13)]) (fuel := 0) (J := fun wj => Below (World.heap w4).size w4 wj)
        (F := [Jo.Fact.eq (.agg #[.int .i64 2, .bool false, .int .u64 0, .int .i64 0]), Jo.Fact.eq (.agg #[.int .i64 K2, .bool s2, .int .u64 M2, .int .i64 E2]), Jo.Fact.eq (.int .i64 c), Jo.Fact.eq (.bool false), Jo.Fact.eq (.bool false), Jo.Fact.eq (.agg #[.int .i64 2, .bool false, .int .u64 0, .int .i64 0]), Jo.Fact.eq (.agg #[.int .i64 2, .bool false, .int .u64 0, .int .i64 0]), Jo.Fact.eq (.bool true), Jo.Fact.eq (.bool true), Jo.Fact.eq (.bool true), Jo.Fact.eq undef, Jo.Fact.eq undef, Jo.Fact.eq undef, Jo.Fact.eq (.bool true)])
        (by kernel_rfl) (by kernel_rfl) (by decide) rfl rfl (fun _ _ h b => bt h b) ((Below.refl _ _).drew) ?_ (fun vs w8 hJ hd => ?_)
      · refine Jo.jd 0 (some 9) [] (Jo.Fact.eq (.agg #[.int .i64 2, .bool false, .int .u64 0, .int .i64 0])) rfl rfl rfl rfl (fun vs wj hJ hd K hK => ?_) ?_
        · simp only [Jo.putl, Jo.ze, Act.put, Jo.za, Jo.zb, Jo.zc] at hK ⊢
          clear hd
          have xX20 := (X2.below hJ).a 0 (.int .i64 2) rfl
          have xX21 := (X2.below hJ).a 1 (.bool false) rfl
          have xX22 := (X2.below hJ).a 2 (.int .u64 0) rfl
          have xX23 := (X2.below hJ).a 3 (.int .i64 0) rfl
          go_simp
          exact hK.out _ _ rfl (Below.refl _ _)
        refine Jo.jd 1 (some 10) [] (Jo.Fact.eq (.agg #[.int .i64 K2, .bool s2, .int .u64 M2, .int .i64 E2])) rfl rfl rfl rfl (fun vs wj hJ hd K hK => ?_) ?_
        · simp only [Jo.putl, Jo.ze, Act.put, Jo.za, Jo.zb, Jo.zc] at hK ⊢
          clear hd
          have xX30 := (X3.below hJ).a 0 (.int .i64 K2) rfl
          have xX31 := (X3.below hJ).a 1 (.bool s2) rfl
          have xX32 := (X3.below hJ).a 2 (.int .u64 M2) rfl
          have xX33 := (X3.below hJ).a 3 (.int .i64 E2) rfl
          go_simp
          exact hK.out _ _ rfl (Below.refl _ _)
        refine Jo.jd 2 (some 11) [(some 9, 0), (some 10, 1)] (Jo.Fact.eq (.int .i64 c)) rfl rfl rfl rfl (fun vs wj hJ hd K hK => ?_) ?_
        · simp only [Jo.putl, Jo.zd, Jo.ze, Act.put, Jo.za, Jo.zb, Jo.zc] at hK ⊢
          rw [show vs 0 = _ from hd 0 (by decide), show vs 1 = _ from hd 1 (by decide)] at hK ⊢
          clear hd
          go_simp
          refine (nCmp q1.top q2.top HC.out).mono ?_
          rintro ee wk ⟨rfl, B⟩
          exact hK.out _ _ rfl B
        refine Jo.jd 3 (some 12) [(some 11, 2)] (Jo.Fact.eq (.bool false)) rfl rfl rfl rfl (fun vs wj hJ hd K hK => ?_) ?_
        · simp only [Jo.putl, Jo.zd, Jo.ze, Act.put, Jo.za, Jo.zb, Jo.zc] at hK ⊢
          rw [show vs 2 = _ from hd 2 (by decide)] at hK ⊢
          clear hd
          have hc0 := HC0.out
          go_simp
          exact hK.out _ _ (by first | rfl | (show Value.bool _ = Value.bool _; rw [hc0]) | simp_all) (Below.refl _ _)
        refine Jo.jd 4 (some 13) [(some 12, 3)] (Jo.Fact.eq (.bool false)) rfl rfl rfl rfl (fun vs wj hJ hd K hK => ?_) ?_
        · simp only [Jo.putl, Jo.zd, Jo.ze, Act.put, Jo.za, Jo.zb, Jo.zc] at hK ⊢
          rw [show vs 3 = _ from hd 3 (by decide)] at hK ⊢
          clear hd
          go_simp
          exact hK.out _ _ rfl (Below.refl _ _)
        refine Jo.jd 5 (some 14) [(some 13, 4)] (Jo.Fact.eq (.agg #[.int .i64 2, .bool false, .int .u64 0, .int .i64 0])) rfl rfl rfl rfl (fun vs wj hJ hd K hK => ?_) ?_
        · simp only [Jo.putl, Jo.zd, Jo.ze, Act.put, Jo.za, Jo.zb, Jo.zc] at hK ⊢
          rw [show vs 4 = _ from hd 4 (by decide)] at hK ⊢
          clear hd
          have xX20 := (X2.below hJ).a 0 (.int .i64 2) rfl
          have xX21 := (X2.below hJ).a 1 (.bool false) rfl
          have xX22 := (X2.below hJ).a 2 (.int .u64 0) rfl
          have xX23 := (X2.below hJ).a 3 (.int .i64 0) rfl
          go_simp
          exact hK.out _ _ rfl (Below.refl _ _)
        refine Jo.jd 6 (some 15) [(some 13, 4)] (Jo.Fact.eq (.agg #[.int .i64 2, .bool false, .int .u64 0, .int .i64 0])) rfl rfl rfl rfl (fun vs wj hJ hd K hK => ?_) ?_
        · simp only [Jo.putl, Jo.zd, Jo.ze, Act.put, Jo.za, Jo.zb, Jo.zc] at hK ⊢
          rw [show vs 4 = _ from hd 4 (by decide)] at hK ⊢
          clear hd
          go_simp
          refine (nInfE false).mono ?_
          rintro ee wk ⟨rfl, B⟩
          exact hK.out _ _ rfl B
        refine Jo.jd 7 (some 16) [(some 13, 4), (some 14, 5), (some 15, 6)] (Jo.Fact.eq (.bool true)) rfl rfl rfl rfl (fun vs wj hJ hd K hK => ?_) ?_
        · simp only [Jo.putl, Jo.zd, Jo.ze, Act.put, Jo.za, Jo.zb, Jo.zc] at hK ⊢
          rw [show vs 4 = _ from hd 4 (by decide), show vs 5 = _ from hd 5 (by decide), show vs 6 = _ from hd 6 (by decide)] at hK ⊢
          clear hd
          go_simp
          repeat' split
          all_goals exact hK.out _ _ (congrArg Value.bool (by first | rfl | (exfalso; simp_all) | simp_all)) (Below.refl _ _)
        refine Jo.jd 8 (some 17) [(some 13, 4), (some 16, 7)] (Jo.Fact.eq (.bool true)) rfl rfl rfl rfl (fun vs wj hJ hd K hK => ?_) ?_
        · simp only [Jo.putl, Jo.zd, Jo.ze, Act.put, Jo.za, Jo.zb, Jo.zc] at hK ⊢
          rw [show vs 4 = _ from hd 4 (by decide), show vs 7 = _ from hd 7 (by decide)] at hK ⊢
          clear hd
          go_simp
          exact hK.out _ _ rfl (Below.refl _ _)
        refine Jo.jd 9 (some 18) [(some 17, 8)] (Jo.Fact.eq (.bool true)) rfl rfl rfl rfl (fun vs wj hJ hd K hK => ?_) ?_
        · simp only [Jo.putl, Jo.zd, Jo.ze, Act.put, Jo.za, Jo.zb, Jo.zc] at hK ⊢
          rw [show vs 8 = _ from hd 8 (by decide)] at hK ⊢
          clear hd
          go_simp
          exact hK.out _ _ rfl (Below.refl _ _)
        refine Jo.jd 10 (some 19) [(some 18, 9)] (Jo.Fact.eq undef) rfl rfl rfl rfl (fun vs wj hJ hd K hK => ?_) ?_
        · simp only [Jo.putl, Jo.zd, Jo.ze, Act.put, Jo.za, Jo.zb, Jo.zc] at hK ⊢
          rw [show vs 9 = _ from hd 9 (by decide)] at hK ⊢
          clear hd
          go_simp
          exact hK.out _ _ rfl (Below.refl _ _)
        refine Jo.jd 11 (some 20) [(some 18, 9)] (Jo.Fact.eq undef) rfl rfl rfl rfl (fun vs wj hJ hd K hK => ?_) ?_
        · simp only [Jo.putl, Jo.zd, Jo.ze, Act.put, Jo.za, Jo.zb, Jo.zc] at hK ⊢
          rw [show vs 9 = _ from hd 9 (by decide)] at hK ⊢
          clear hd
          go_simp
          exact hK.out _ _ rfl (Below.refl _ _)
        refine Jo.jd 12 (some 21) [(some 18, 9), (some 19, 10), (some 20, 11)] (Jo.Fact.eq undef) rfl rfl rfl rfl (fun vs wj hJ hd K hK => ?_) ?_
        · have d10 : (Jo.Fact.eq undef).P (vs 10) wj := hd 10 (by decide)
          have d11 : (Jo.Fact.eq undef).P (vs 11) wj := hd 11 (by decide)
          simp only [Jo.putl, Jo.zd, Jo.ze, Act.put, Jo.za, Jo.zb, Jo.zc] at hK ⊢
          rw [show vs 9 = _ from hd 9 (by decide)] at hK ⊢
          clear hd
          generalize vs 10 = u10 at hK d10 ⊢
          generalize vs 11 = u11 at hK d11 ⊢
          replace d10 : u10 = _ := d10
          subst d10
          replace d11 : u11 = _ := d11
          subst d11
          go_simp
          exact hK.out _ _ rfl (Below.refl _ _)
        refine Jo.jd 13 (some 22) [(some 18, 9), (some 21, 12)] (Jo.Fact.eq (.bool true)) rfl rfl rfl rfl (fun vs wj hJ hd K hK => ?_) ?_
        · have d12 : (Jo.Fact.eq undef).P (vs 12) wj := hd 12 (by decide)
          simp only [Jo.putl, Jo.zd, Jo.ze, Act.put, Jo.za, Jo.zb, Jo.zc] at hK ⊢
          rw [show vs 9 = _ from hd 9 (by decide)] at hK ⊢
          clear hd
          generalize vs 12 = u12 at hK d12 ⊢
          replace d12 : u12 = _ := d12
          subst d12
          go_simp
          exact hK.out _ _ rfl (Below.refl _ _)
        exact Jo.Steps.nil
      have d10 : (Jo.Fact.eq undef).P (vs 10) w8 := hd 10 (by decide)
      have d11 : (Jo.Fact.eq undef).P (vs 11) w8 := hd 11 (by decide)
      have d12 : (Jo.Fact.eq undef).P (vs 12) w8 := hd 12 (by decide)
      simp only [Jo.putl, Jo.zd, Jo.ze, Act.put, Jo.za, Jo.zb, Jo.zc]
      rw [show vs 0 = _ from hd 0 (by decide), show vs 1 = _ from hd 1 (by decide), show vs 2 = _ from hd 2 (by decide), show vs 3 = _ from hd 3 (by decide), show vs 4 = _ from hd 4 (by decide), show vs 5 = _ from hd 5 (by decide), show vs 6 = _ from hd 6 (by decide), show vs 7 = _ from hd 7 (by decide), show vs 8 = _ from hd 8 (by decide), show vs 9 = _ from hd 9 (by decide), show vs 13 = _ from hd 13 (by decide)]
      clear hd
      generalize vs 10 = u10 at d10 ⊢
      generalize vs 11 = u11 at d11 ⊢
      generalize vs 12 = u12 at d12 ⊢
      replace d10 : u10 = _ := d10
      subst d10
      replace d11 : u11 = _ := d11
      subst d11
      replace d12 : u12 = _ := d12
      subst d12
      replace X2 := X2.below hJ
      replace X3 := X3.below hJ
      replace XR := XR.below hJ
      replace HB := Lib.hid (bt HB.out hJ)
      refine Jo.jdone (by kernel_rfl) ?_
      go_wp2_with fail
      refine (kvNoneE).mono ?_
      rintro ee w9 ⟨rfl, B⟩
      replace X2 := X2.below B
      replace X3 := X3.below B
      replace XR := XR.below B
      replace HB := Lib.hid (bt HB.out B)
      clear B
      obtain ⟨xXR0, xXR1, xXR2, xXR3, xXR4, xXR5, xXR6, xXR7, xXR8⟩ := XR.ce9 rfl rfl rfl rfl rfl rfl rfl rfl rfl
      have zXR0 := XR.frozen
      go_wp2
      clear xXR0 zXR0 xXR1 xXR2 xXR3 xXR4 xXR5 xXR6 xXR7 xXR8
      have SX := StN.mk9 XR (.bool true) (.int .i64 0) (.bool false) (.int .u64 0) (.int .i64 0) (.int .i64 0) (.bool false) (.int .u64 0) (.int .i64 0)
      exact bodyPost_ret (v := .agg #[.bool true, .int .i64 0, .bool false, .int .u64 0, .int .i64 0, .int .i64 0, .bool false, .int .u64 0, .int .i64 0]) (by simp [results, Try.results9, go_sem, SX.box.cell]) rfl ⟨_, _, _, _, _, _, _, _, _, rfl, Ci.none, (SX.below HB.out (by omega))⟩
    · have HN1 : Hid (¬ (K1 = 2 ∧ s1 = false ∧ M1 = 0 ∧ E1 = 0)) := Lib.hid (by
        rintro ⟨rfl, rfl, rfl, rfl⟩
        exact ht (by rw [← q1.rk]; exact (fq_inf2 false).rk))
      by_cases hb : b = -19342822337206103650074625
      · subst hb
        rw [mkI_none (by omega)] at hx
        obtain rfl : none = x := hx
        obtain ⟨rfl, rfl, rfl, rfl⟩ := q2.uniq (show Fq 2 true 0 0 (-19342822337206103650074625) from fq_inf2 true)
        clear hgt ht
        go_wp2
        refine Jo.region_joint (T := [0, 1, 2, 3, 4, 5, 6, 7, 8, 9, 10, 11, 12, 13]) (ds := [some 9, some 10, some 11, some 12, some 13, some 14, some 15, some 16, some 17, some 18, some 19, some 20, some 21, some 22]) (ls := [[], [], [0, 1], [2], [3], [4], [4], [4, 5, 6], [4, 7], [8], [9], [9], [9, 10, 11], [9, 12]]) (k := 14) (L := [(some 9, 0), (some 10, 1), (some 11, 2), (some 12, 3), (some 13, 4), (some 14, 5), (some 15, 6), (some 16, 7), (some 17, 8), (some 18, 9), (some 19, 10), (some 20, 11), (some 21, 12), (some 22, 13)]) (fuel := 0) (J := fun wj => Below (World.heap w4).size w4 wj)
          (F := [Jo.Fact.eq (.agg #[.int .i64 K1, .bool s1, .int .u64 M1, .int .i64 E1]), Jo.Fact.eq (.agg #[.int .i64 2, .bool true, .int .u64 0, .int .i64 0]), Jo.Fact.eq (.int .i64 c), Jo.Fact.eq (.bool false), Jo.Fact.eq (.bool false), Jo.Fact.eq (.agg #[.int .i64 K1, .bool s1, .int .u64 M1, .int .i64 E1]), Jo.Fact.eq (.agg #[.int .i64 2, .bool false, .int .u64 0, .int .i64 0]), Jo.Fact.eq (.bool false), Jo.Fact.eq (.bool false), Jo.Fact.eq (.bool false), Jo.Fact.eq (.agg #[.int .i64 2, .bool true, .int .u64 0, .int .i64 0]), Jo.Fact.eq (.agg #[.int .i64 2, .bool true, .int .u64 0, .int .i64 0]), Jo.Fact.eq (.bool true), Jo.Fact.eq (.bool true)])
          (by kernel_rfl) (by kernel_rfl) (by decide) rfl rfl (fun _ _ h b => bt h b) ((Below.refl _ _).drew) ?_ (fun vs w8 hJ hd => ?_)
        · refine Jo.jd 0 (some 9) [] (Jo.Fact.eq (.agg #[.int .i64 K1, .bool s1, .int .u64 M1, .int .i64 E1])) rfl rfl rfl rfl (fun vs wj hJ hd K hK => ?_) ?_
          · simp only [Jo.putl, Jo.ze, Act.put, Jo.za, Jo.zb, Jo.zc] at hK ⊢
            clear hd
            have xX20 := (X2.below hJ).a 0 (.int .i64 K1) rfl
            have xX21 := (X2.below hJ).a 1 (.bool s1) rfl
            have xX22 := (X2.below hJ).a 2 (.int .u64 M1) rfl
            have xX23 := (X2.below hJ).a 3 (.int .i64 E1) rfl
            go_simp
            exact hK.out _ _ rfl (Below.refl _ _)
          refine Jo.jd 1 (some 10) [] (Jo.Fact.eq (.agg #[.int .i64 2, .bool true, .int .u64 0, .int .i64 0])) rfl rfl rfl rfl (fun vs wj hJ hd K hK => ?_) ?_
          · simp only [Jo.putl, Jo.ze, Act.put, Jo.za, Jo.zb, Jo.zc] at hK ⊢
            clear hd
            have xX30 := (X3.below hJ).a 0 (.int .i64 2) rfl
            have xX31 := (X3.below hJ).a 1 (.bool true) rfl
            have xX32 := (X3.below hJ).a 2 (.int .u64 0) rfl
            have xX33 := (X3.below hJ).a 3 (.int .i64 0) rfl
            go_simp
            exact hK.out _ _ rfl (Below.refl _ _)
          refine Jo.jd 2 (some 11) [(some 9, 0), (some 10, 1)] (Jo.Fact.eq (.int .i64 c)) rfl rfl rfl rfl (fun vs wj hJ hd K hK => ?_) ?_
          · simp only [Jo.putl, Jo.zd, Jo.ze, Act.put, Jo.za, Jo.zb, Jo.zc] at hK ⊢
            rw [show vs 0 = _ from hd 0 (by decide), show vs 1 = _ from hd 1 (by decide)] at hK ⊢
            clear hd
            go_simp
            refine (nCmp q1.top q2.top HC.out).mono ?_
            rintro ee wk ⟨rfl, B⟩
            exact hK.out _ _ rfl B
          refine Jo.jd 3 (some 12) [(some 11, 2)] (Jo.Fact.eq (.bool false)) rfl rfl rfl rfl (fun vs wj hJ hd K hK => ?_) ?_
          · simp only [Jo.putl, Jo.zd, Jo.ze, Act.put, Jo.za, Jo.zb, Jo.zc] at hK ⊢
            rw [show vs 2 = _ from hd 2 (by decide)] at hK ⊢
            clear hd
            have hc0 := HC0.out
            go_simp
            exact hK.out _ _ (by first | rfl | (show Value.bool _ = Value.bool _; rw [hc0]) | simp_all) (Below.refl _ _)
          refine Jo.jd 4 (some 13) [(some 12, 3)] (Jo.Fact.eq (.bool false)) rfl rfl rfl rfl (fun vs wj hJ hd K hK => ?_) ?_
          · simp only [Jo.putl, Jo.zd, Jo.ze, Act.put, Jo.za, Jo.zb, Jo.zc] at hK ⊢
            rw [show vs 3 = _ from hd 3 (by decide)] at hK ⊢
            clear hd
            go_simp
            exact hK.out _ _ rfl (Below.refl _ _)
          refine Jo.jd 5 (some 14) [(some 13, 4)] (Jo.Fact.eq (.agg #[.int .i64 K1, .bool s1, .int .u64 M1, .int .i64 E1])) rfl rfl rfl rfl (fun vs wj hJ hd K hK => ?_) ?_
          · simp only [Jo.putl, Jo.zd, Jo.ze, Act.put, Jo.za, Jo.zb, Jo.zc] at hK ⊢
            rw [show vs 4 = _ from hd 4 (by decide)] at hK ⊢
            clear hd
            have xX20 := (X2.below hJ).a 0 (.int .i64 K1) rfl
            have xX21 := (X2.below hJ).a 1 (.bool s1) rfl
            have xX22 := (X2.below hJ).a 2 (.int .u64 M1) rfl
            have xX23 := (X2.below hJ).a 3 (.int .i64 E1) rfl
            go_simp
            exact hK.out _ _ rfl (Below.refl _ _)
          refine Jo.jd 6 (some 15) [(some 13, 4)] (Jo.Fact.eq (.agg #[.int .i64 2, .bool false, .int .u64 0, .int .i64 0])) rfl rfl rfl rfl (fun vs wj hJ hd K hK => ?_) ?_
          · simp only [Jo.putl, Jo.zd, Jo.ze, Act.put, Jo.za, Jo.zb, Jo.zc] at hK ⊢
            rw [show vs 4 = _ from hd 4 (by decide)] at hK ⊢
            clear hd
            go_simp
            refine (nInfE false).mono ?_
            rintro ee wk ⟨rfl, B⟩
            exact hK.out _ _ rfl B
          refine Jo.jd 7 (some 16) [(some 13, 4), (some 14, 5), (some 15, 6)] (Jo.Fact.eq (.bool false)) rfl rfl rfl rfl (fun vs wj hJ hd K hK => ?_) ?_
          · simp only [Jo.putl, Jo.zd, Jo.ze, Act.put, Jo.za, Jo.zb, Jo.zc] at hK ⊢
            rw [show vs 4 = _ from hd 4 (by decide), show vs 5 = _ from hd 5 (by decide), show vs 6 = _ from hd 6 (by decide)] at hK ⊢
            clear hd
            have hne := HN1.out
            go_simp
            repeat' split
            all_goals exact hK.out _ _ (congrArg Value.bool (by first | rfl | (exfalso; simp_all))) (Below.refl _ _)
          refine Jo.jd 8 (some 17) [(some 13, 4), (some 16, 7)] (Jo.Fact.eq (.bool false)) rfl rfl rfl rfl (fun vs wj hJ hd K hK => ?_) ?_
          · simp only [Jo.putl, Jo.zd, Jo.ze, Act.put, Jo.za, Jo.zb, Jo.zc] at hK ⊢
            rw [show vs 4 = _ from hd 4 (by decide), show vs 7 = _ from hd 7 (by decide)] at hK ⊢
            clear hd
            go_simp
            exact hK.out _ _ rfl (Below.refl _ _)
          refine Jo.jd 9 (some 18) [(some 17, 8)] (Jo.Fact.eq (.bool false)) rfl rfl rfl rfl (fun vs wj hJ hd K hK => ?_) ?_
          · simp only [Jo.putl, Jo.zd, Jo.ze, Act.put, Jo.za, Jo.zb, Jo.zc] at hK ⊢
            rw [show vs 8 = _ from hd 8 (by decide)] at hK ⊢
            clear hd
            go_simp
            exact hK.out _ _ rfl (Below.refl _ _)
          refine Jo.jd 10 (some 19) [(some 18, 9)] (Jo.Fact.eq (.agg #[.int .i64 2, .bool true, .int .u64 0, .int .i64 0])) rfl rfl rfl rfl (fun vs wj hJ hd K hK => ?_) ?_
          · simp only [Jo.putl, Jo.zd, Jo.ze, Act.put, Jo.za, Jo.zb, Jo.zc] at hK ⊢
            rw [show vs 9 = _ from hd 9 (by decide)] at hK ⊢
            clear hd
            have xX30 := (X3.below hJ).a 0 (.int .i64 2) rfl
            have xX31 := (X3.below hJ).a 1 (.bool true) rfl
            have xX32 := (X3.below hJ).a 2 (.int .u64 0) rfl
            have xX33 := (X3.below hJ).a 3 (.int .i64 0) rfl
            go_simp
            exact hK.out _ _ rfl (Below.refl _ _)
          refine Jo.jd 11 (some 20) [(some 18, 9)] (Jo.Fact.eq (.agg #[.int .i64 2, .bool true, .int .u64 0, .int .i64 0])) rfl rfl rfl rfl (fun vs wj hJ hd K hK => ?_) ?_
          · simp only [Jo.putl, Jo.zd, Jo.ze, Act.put, Jo.za, Jo.zb, Jo.zc] at hK ⊢
            rw [show vs 9 = _ from hd 9 (by decide)] at hK ⊢
            clear hd
            go_simp
            refine (nInfE true).mono ?_
            rintro ee wk ⟨rfl, B⟩
            exact hK.out _ _ rfl B
          refine Jo.jd 12 (some 21) [(some 18, 9), (some 19, 10), (some 20, 11)] (Jo.Fact.eq (.bool true)) rfl rfl rfl rfl (fun vs wj hJ hd K hK => ?_) ?_
          · simp only [Jo.putl, Jo.zd, Jo.ze, Act.put, Jo.za, Jo.zb, Jo.zc] at hK ⊢
            rw [show vs 9 = _ from hd 9 (by decide), show vs 10 = _ from hd 10 (by decide), show vs 11 = _ from hd 11 (by decide)] at hK ⊢
            clear hd
            go_simp
            repeat' split
            all_goals exact hK.out _ _ (congrArg Value.bool (by first | rfl | (exfalso; simp_all) | simp_all)) (Below.refl _ _)
          refine Jo.jd 13 (some 22) [(some 18, 9), (some 21, 12)] (Jo.Fact.eq (.bool true)) rfl rfl rfl rfl (fun vs wj hJ hd K hK => ?_) ?_
          · simp only [Jo.putl, Jo.zd, Jo.ze, Act.put, Jo.za, Jo.zb, Jo.zc] at hK ⊢
            rw [show vs 9 = _ from hd 9 (by decide), show vs 12 = _ from hd 12 (by decide)] at hK ⊢
            clear hd
            go_simp
            exact hK.out _ _ rfl (Below.refl _ _)
          exact Jo.Steps.nil
        simp only [Jo.putl, Jo.zd, Jo.ze, Act.put, Jo.za, Jo.zb, Jo.zc]
        rw [show vs 0 = _ from hd 0 (by decide), show vs 1 = _ from hd 1 (by decide), show vs 2 = _ from hd 2 (by decide), show vs 3 = _ from hd 3 (by decide), show vs 4 = _ from hd 4 (by decide), show vs 5 = _ from hd 5 (by decide), show vs 6 = _ from hd 6 (by decide), show vs 7 = _ from hd 7 (by decide), show vs 8 = _ from hd 8 (by decide), show vs 9 = _ from hd 9 (by decide), show vs 10 = _ from hd 10 (by decide), show vs 11 = _ from hd 11 (by decide), show vs 12 = _ from hd 12 (by decide), show vs 13 = _ from hd 13 (by decide)]
        clear hd
        replace X2 := X2.below hJ
        replace X3 := X3.below hJ
        replace XR := XR.below hJ
        replace HB := Lib.hid (bt HB.out hJ)
        refine Jo.jdone (by kernel_rfl) ?_
        go_wp2_with fail
        refine (kvNoneE).mono ?_
        rintro ee w9 ⟨rfl, B⟩
        replace X2 := X2.below B
        replace X3 := X3.below B
        replace XR := XR.below B
        replace HB := Lib.hid (bt HB.out B)
        clear B
        obtain ⟨xXR0, xXR1, xXR2, xXR3, xXR4, xXR5, xXR6, xXR7, xXR8⟩ := XR.ce9 rfl rfl rfl rfl rfl rfl rfl rfl rfl
        have zXR0 := XR.frozen
        go_wp2
        clear xXR0 zXR0 xXR1 xXR2 xXR3 xXR4 xXR5 xXR6 xXR7 xXR8
        have SX := StN.mk9 XR (.bool true) (.int .i64 0) (.bool false) (.int .u64 0) (.int .i64 0) (.int .i64 0) (.bool false) (.int .u64 0) (.int .i64 0)
        exact bodyPost_ret (v := .agg #[.bool true, .int .i64 0, .bool false, .int .u64 0, .int .i64 0, .int .i64 0, .bool false, .int .u64 0, .int .i64 0]) (by simp [results, Try.results9, go_sem, SX.box.cell]) rfl ⟨_, _, _, _, _, _, _, _, _, rfl, Ci.none, (SX.below HB.out (by omega))⟩
      · have HN2 : Hid (¬ (K2 = 2 ∧ s2 = true ∧ M2 = 0 ∧ E2 = 0)) := Lib.hid (by
          rintro ⟨rfl, rfl, rfl, rfl⟩
          exact hb (by rw [← q2.rk]; exact (fq_inf2 true).rk))
        have g1 := q1.bd
        have g2 := q2.bd
        have g3 : a ≤ b := by omega
        have g4 : a < 19342822337206103650074625 := by omega
        have g5 : -19342822337206103650074625 < b := by omega
        rw [mkI_some g3 g4 g5] at hx
        obtain rfl : some (a, b) = x := hx
        have HV : Ci false K1 s1 M1 E1 K2 s2 M2 E2 (some (a, b)) := ⟨rfl, q1, q2, g3, g4, g5⟩
        clear hgt ht hb g1 g2 g3 g4 g5
        go_wp2
        refine Jo.region_joint (T := [0, 1, 2, 3, 4, 5, 6, 7, 8, 9, 10, 11, 12, 13]) (ds := [some 9, some 10, some 11, some 12, some 13, some 14, some 15, some 16, some 17, some 18, some 19, some 20, some 21, some 22]) (ls := [[], [], [0, 1], [2], [3], [4], [4], [4, 5, 6], [4, 7], [8], [9], [9], [9, 10, 11], [9, 12]]) (k := 14) (L := [(some 9, 0), (some 10, 1), (some 11, 2), (some 12, 3), (some 13, 4), (some 14, 5), (some 15, 6), (some 16, 7), (some 17, 8), (some 18, 9), (some 19, 10), (some 20, 11), (some 21, 12), (some 22, 13)]) (fuel := 0) (J := fun wj => Below (World.heap w4).size w4 wj)
          (F := [Jo.Fact.eq (.agg #[.int .i64 K1, .bool s1, .int .u64 M1, .int .i64 E1]), Jo.Fact.eq (.agg #[.int .i64 K2, .bool s2, .int .u64 M2, .int .i64 E2]), Jo.Fact.eq (.int .i64 c), Jo.Fact.eq (.bool false), Jo.Fact.eq (.bool false), Jo.Fact.eq (.agg #[.int .i64 K1, .bool s1, .int .u64 M1, .int .i64 E1]), Jo.Fact.eq (.agg #[.int .i64 2, .bool false, .int .u64 0, .int .i64 0]), Jo.Fact.eq (.bool false), Jo.Fact.eq (.bool false), Jo.Fact.eq (.bool false), Jo.Fact.eq (.agg #[.int .i64 K2, .bool s2, .int .u64 M2, .int .i64 E2]), Jo.Fact.eq (.agg #[.int .i64 2, .bool true, .int .u64 0, .int .i64 0]), Jo.Fact.eq (.bool false), Jo.Fact.eq (.bool false)])
          (by kernel_rfl) (by kernel_rfl) (by decide) rfl rfl (fun _ _ h b => bt h b) ((Below.refl _ _).drew) ?_ (fun vs w8 hJ hd => ?_)
        · refine Jo.jd 0 (some 9) [] (Jo.Fact.eq (.agg #[.int .i64 K1, .bool s1, .int .u64 M1, .int .i64 E1])) rfl rfl rfl rfl (fun vs wj hJ hd K hK => ?_) ?_
          · simp only [Jo.putl, Jo.ze, Act.put, Jo.za, Jo.zb, Jo.zc] at hK ⊢
            clear hd
            have xX20 := (X2.below hJ).a 0 (.int .i64 K1) rfl
            have xX21 := (X2.below hJ).a 1 (.bool s1) rfl
            have xX22 := (X2.below hJ).a 2 (.int .u64 M1) rfl
            have xX23 := (X2.below hJ).a 3 (.int .i64 E1) rfl
            go_simp
            exact hK.out _ _ rfl (Below.refl _ _)
          refine Jo.jd 1 (some 10) [] (Jo.Fact.eq (.agg #[.int .i64 K2, .bool s2, .int .u64 M2, .int .i64 E2])) rfl rfl rfl rfl (fun vs wj hJ hd K hK => ?_) ?_
          · simp only [Jo.putl, Jo.ze, Act.put, Jo.za, Jo.zb, Jo.zc] at hK ⊢
            clear hd
            have xX30 := (X3.below hJ).a 0 (.int .i64 K2) rfl
            have xX31 := (X3.below hJ).a 1 (.bool s2) rfl
            have xX32 := (X3.below hJ).a 2 (.int .u64 M2) rfl
            have xX33 := (X3.below hJ).a 3 (.int .i64 E2) rfl
            go_simp
            exact hK.out _ _ rfl (Below.refl _ _)
          refine Jo.jd 2 (some 11) [(some 9, 0), (some 10, 1)] (Jo.Fact.eq (.int .i64 c)) rfl rfl rfl rfl (fun vs wj hJ hd K hK => ?_) ?_
          · simp only [Jo.putl, Jo.zd, Jo.ze, Act.put, Jo.za, Jo.zb, Jo.zc] at hK ⊢
            rw [show vs 0 = _ from hd 0 (by decide), show vs 1 = _ from hd 1 (by decide)] at hK ⊢
            clear hd
            go_simp
            refine (nCmp q1.top q2.top HC.out).mono ?_
            rintro ee wk ⟨rfl, B⟩
            exact hK.out _ _ rfl B
          refine Jo.jd 3 (some 12) [(some 11, 2)] (Jo.Fact.eq (.bool false)) rfl rfl rfl rfl (fun vs wj hJ hd K hK => ?_) ?_
          · simp only [Jo.putl, Jo.zd, Jo.ze, Act.put, Jo.za, Jo.zb, Jo.zc] at hK ⊢
            rw [show vs 2 = _ from hd 2 (by decide)] at hK ⊢
            clear hd
            have hc0 := HC0.out
            go_simp
            exact hK.out _ _ (by first | rfl | (show Value.bool _ = Value.bool _; rw [hc0]) | simp_all) (Below.refl _ _)
          refine Jo.jd 4 (some 13) [(some 12, 3)] (Jo.Fact.eq (.bool false)) rfl rfl rfl rfl (fun vs wj hJ hd K hK => ?_) ?_
          · simp only [Jo.putl, Jo.zd, Jo.ze, Act.put, Jo.za, Jo.zb, Jo.zc] at hK ⊢
            rw [show vs 3 = _ from hd 3 (by decide)] at hK ⊢
            clear hd
            go_simp
            exact hK.out _ _ rfl (Below.refl _ _)
          refine Jo.jd 5 (some 14) [(some 13, 4)] (Jo.Fact.eq (.agg #[.int .i64 K1, .bool s1, .int .u64 M1, .int .i64 E1])) rfl rfl rfl rfl (fun vs wj hJ hd K hK => ?_) ?_
          · simp only [Jo.putl, Jo.zd, Jo.ze, Act.put, Jo.za, Jo.zb, Jo.zc] at hK ⊢
            rw [show vs 4 = _ from hd 4 (by decide)] at hK ⊢
            clear hd
            have xX20 := (X2.below hJ).a 0 (.int .i64 K1) rfl
            have xX21 := (X2.below hJ).a 1 (.bool s1) rfl
            have xX22 := (X2.below hJ).a 2 (.int .u64 M1) rfl
            have xX23 := (X2.below hJ).a 3 (.int .i64 E1) rfl
            go_simp
            exact hK.out _ _ rfl (Below.refl _ _)
          refine Jo.jd 6 (some 15) [(some 13, 4)] (Jo.Fact.eq (.agg #[.int .i64 2, .bool false, .int .u64 0, .int .i64 0])) rfl rfl rfl rfl (fun vs wj hJ hd K hK => ?_) ?_
          · simp only [Jo.putl, Jo.zd, Jo.ze, Act.put, Jo.za, Jo.zb, Jo.zc] at hK ⊢
            rw [show vs 4 = _ from hd 4 (by decide)] at hK ⊢
            clear hd
            go_simp
            refine (nInfE false).mono ?_
            rintro ee wk ⟨rfl, B⟩
            exact hK.out _ _ rfl B
          refine Jo.jd 7 (some 16) [(some 13, 4), (some 14, 5), (some 15, 6)] (Jo.Fact.eq (.bool false)) rfl rfl rfl rfl (fun vs wj hJ hd K hK => ?_) ?_
          · simp only [Jo.putl, Jo.zd, Jo.ze, Act.put, Jo.za, Jo.zb, Jo.zc] at hK ⊢
            rw [show vs 4 = _ from hd 4 (by decide), show vs 5 = _ from hd 5 (by decide), show vs 6 = _ from hd 6 (by decide)] at hK ⊢
            clear hd
            have hne := HN1.out
            go_simp
            repeat' split
            all_goals exact hK.out _ _ (congrArg Value.bool (by first | rfl | (exfalso; simp_all))) (Below.refl _ _)
          refine Jo.jd 8 (some 17) [(some 13, 4), (some 16, 7)] (Jo.Fact.eq (.bool false)) rfl rfl rfl rfl (fun vs wj hJ hd K hK => ?_) ?_
          · simp only [Jo.putl, Jo.zd, Jo.ze, Act.put, Jo.za, Jo.zb, Jo.zc] at hK ⊢
            rw [show vs 4 = _ from hd 4 (by decide), show vs 7 = _ from hd 7 (by decide)] at hK ⊢
            clear hd
            go_simp
            exact hK.out _ _ rfl (Below.refl _ _)
          refine Jo.jd 9 (some 18) [(some 17, 8)] (Jo.Fact.eq (.bool false)) rfl rfl rfl rfl (fun vs wj hJ hd K hK => ?_) ?_
          · simp only [Jo.putl, Jo.zd, Jo.ze, Act.put, Jo.za, Jo.zb, Jo.zc] at hK ⊢
            rw [show vs 8 = _ from hd 8 (by decide)] at hK ⊢
            clear hd
            go_simp
            exact hK.out _ _ rfl (Below.refl _ _)
          refine Jo.jd 10 (some 19) [(some 18, 9)] (Jo.Fact.eq (.agg #[.int .i64 K2, .bool s2, .int .u64 M2, .int .i64 E2])) rfl rfl rfl rfl (fun vs wj hJ hd K hK => ?_) ?_
          · simp only [Jo.putl, Jo.zd, Jo.ze, Act.put, Jo.za, Jo.zb, Jo.zc] at hK ⊢
            rw [show vs 9 = _ from hd 9 (by decide)] at hK ⊢
            clear hd
            have xX30 := (X3.below hJ).a 0 (.int .i64 K2) rfl
            have xX31 := (X3.below hJ).a 1 (.bool s2) rfl
            have xX32 := (X3.below hJ).a 2 (.int .u64 M2) rfl
            have xX33 := (X3.below hJ).a 3 (.int .i64 E2) rfl
            go_simp
            exact hK.out _ _ rfl (Below.refl _ _)
          refine Jo.jd 11 (some 20) [(some 18, 9)] (Jo.Fact.eq (.agg #[.int .i64 2, .bool true, .int .u64 0, .int .i64 0])) rfl rfl rfl rfl (fun vs wj hJ hd K hK => ?_) ?_
          · simp only [Jo.putl, Jo.zd, Jo.ze, Act.put, Jo.za, Jo.zb, Jo.zc] at hK ⊢
            rw [show vs 9 = _ from hd 9 (by decide)] at hK ⊢
            clear hd
            go_simp
            refine (nInfE true).mono ?_
            rintro ee wk ⟨rfl, B⟩
            exact hK.out _ _ rfl B
          refine Jo.jd 12 (some 21) [(some 18, 9), (some 19, 10), (some 20, 11)] (Jo.Fact.eq (.bool false)) rfl rfl rfl rfl (fun vs wj hJ hd K hK => ?_) ?_
          · simp only [Jo.putl, Jo.zd, Jo.ze, Act.put, Jo.za, Jo.zb, Jo.zc] at hK ⊢
            rw [show vs 9 = _ from hd 9 (by decide), show vs 10 = _ from hd 10 (by decide), show vs 11 = _ from hd 11 (by decide)] at hK ⊢
            clear hd
            have hne := HN2.out
            go_simp
            repeat' split
            all_goals exact hK.out _ _ (congrArg Value.bool (by first | rfl | (exfalso; simp_all))) (Below.refl _ _)
          refine Jo.jd 13 (some 22) [(some 18, 9), (some 21, 12)] (Jo.Fact.eq (.bool false)) rfl rfl rfl rfl (fun vs wj hJ hd K hK => ?_) ?_
          · simp only [Jo.putl, Jo.zd, Jo.ze, Act.put, Jo.za, Jo.zb, Jo.zc] at hK ⊢
            rw [show vs 9 = _ from hd 9 (by decide), show vs 12 = _ from hd 12 (by decide)] at hK ⊢
            clear hd
            go_simp
            exact hK.out _ _ rfl (Below.refl _ _)
          exact Jo.Steps.nil
        simp only [Jo.putl, Jo.zd, Jo.ze, Act.put, Jo.za, Jo.zb, Jo.zc]
        rw [show vs 0 = _ from hd 0 (by decide), show vs 1 = _ from hd 1 (by decide), show vs 2 = _ from hd 2 (by decide), show vs 3 = _ from hd 3 (by decide), show vs 4 = _ from hd 4 (by decide), show vs 5 = _ from hd 5 (by decide), show vs 6 = _ from hd 6 (by decide), show vs 7 = _ from hd 7 (by decide), show vs 8 = _ from hd 8 (by decide), show vs 9 = _ from hd 9 (by decide), show vs 10 = _ from hd 10 (by decide), show vs 11 = _ from hd 11 (by decide), show vs 12 = _ from hd 12 (by decide), show vs 13 = _ from hd 13 (by decide)]
        clear hd
        replace X2 := X2.below hJ
        replace X3 := X3.below hJ
        replace XR := XR.below hJ
        replace HB := Lib.hid (bt HB.out hJ)
        refine Jo.jdone (by kernel_rfl) ?_
        obtain ⟨xXR0, xXR1, xXR2, xXR3, xXR4, xXR5, xXR6, xXR7, xXR8⟩ := XR.ce9 rfl rfl rfl rfl rfl rfl rfl rfl rfl
        have zXR0 := XR.frozen
        obtain ⟨xX20, xX21, xX22, xX23⟩ := X2.ce4 rfl rfl rfl rfl
        obtain ⟨xX30, xX31, xX32, xX33⟩ := X3.ce4 rfl rfl rfl rfl
        go_wp2
        clear xXR0 zXR0 xXR1 xXR2 xXR3 xXR4 xXR5 xXR6 xXR7 xXR8 xX20 xX21 xX22 xX23 xX30 xX31 xX32 xX33
        have SX := StN.mk9 XR (.bool false) (.int .i64 K1) (.bool s1) (.int .u64 M1) (.int .i64 E1) (.int .i64 K2) (.bool s2) (.int .u64 M2) (.int .i64 E2)
        exact bodyPost_ret (v := .agg #[.bool false, .int .i64 K1, .bool s1, .int .u64 M1, .int .i64 E1, .int .i64 K2, .bool s2, .int .u64 M2, .int .i64 E2]) (by simp [results, Try.results9, go_sem, SX.box.cell]) rfl ⟨_, _, _, _, _, _, _, _, _, rfl, HV, (SX.below HB.out (by omega))⟩
set_option maxHeartbeats 2000000 in
theorem kvPoint {w : World} {D M E : Int} {s : Bool} {a : Int} {x : Sp} (hM : M < 18446744073709551616) (ha : rk D s M E = a) (hx : mkI a a = x) : Calls Try.prog 17 #[.agg #[.int .i64 D, .bool s, .int .u64 M, .int .i64 E]] w (PV w x) := by
  have HA := Lib.hid ha
  have HX := Lib.hid hx
  clear ha hx
  go_enter Try.func17, Try.ntmps17
  go_upto_region 1 with (fail)
  have X1 := (Bo.newAt w (g := w.heap.size) (by simp) #[.int .i64 D, .bool s, .int .u64 M, .int .i64 E] 24).below (bel1 _ (.cells #[.bool false, .int .i64 0, .bool false, .int .u64 0, .int .i64 0, .int .i64 0, .bool false, .int .u64 0, .int .i64 0] 26))
  have XR := (Bo.newAt (w.alloc (.cells #[.int .i64 D, .bool s, .int .u64 M, .int .i64 E] 24)) (g := w.heap.size + 1) (by simp) #[.bool false, .int .i64 0, .bool false, .int .u64 0, .int .i64 0, .int .i64 0, .bool false, .int .u64 0, .int .i64 0] 26)
  have HB := Lib.hid (bel2 w (.cells #[.int .i64 D, .bool s, .int .u64 M, .int .i64 E] 24) (.cells #[.bool false, .int .i64 0, .bool false, .int .u64 0, .int .i64 0, .int .i64 0, .bool false, .int .u64 0, .int .i64 0] 26))
  generalize hW1 : ((w.alloc (.cells #[.int .i64 D, .bool s, .int .u64 M, .int .i64 E] 24)).alloc (.cells #[.bool false, .int .i64 0, .bool false, .int .u64 0, .int .i64 0, .int .i64 0, .bool false, .int .u64 0, .int .i64 0] 26)) = w1 at *
  clear hW1
  obtain ⟨xX10, xX11, xX12, xX13⟩ := X1.ce4 rfl rfl rfl rfl
  go_wp2_with fail
  refine (kvMake hM hM HA.out HA.out HX.out).mono ?_
  rintro ee w2 ⟨e2, K2, s2, M2, E2, K2b, s2b, M2b, E2b, rfl, v2, B⟩
  clear xX10 xX11 xX12 xX13
  replace X1 := X1.below B
  replace XR := XR.below B
  replace HB := Lib.hid (bt HB.out B)
  clear B
  obtain ⟨xXR0, xXR1, xXR2, xXR3, xXR4, xXR5, xXR6, xXR7, xXR8⟩ := XR.ce9 rfl rfl rfl rfl rfl rfl rfl rfl rfl
  have zXR0 := XR.frozen
  go_wp2
  clear xXR0 zXR0 xXR1 xXR2 xXR3 xXR4 xXR5 xXR6 xXR7 xXR8
  have SX := StN.mk9 XR (.bool e2) (.int .i64 K2) (.bool s2) (.int .u64 M2) (.int .i64 E2) (.int .i64 K2b) (.bool s2b) (.int .u64 M2b) (.int .i64 E2b)
  exact bodyPost_ret (v := .agg #[.bool e2, .int .i64 K2, .bool s2, .int .u64 M2, .int .i64 E2, .int .i64 K2b, .bool s2b, .int .u64 M2b, .int .i64 E2b]) (by simp [results, Try.results17, go_sem, SX.box.cell]) rfl ⟨_, _, _, _, _, _, _, _, _, rfl, v2, (SX.below HB.out (by omega))⟩
set_option maxHeartbeats 2000000 in
theorem kvAll {w : World}  : Calls Try.prog 21 #[] w (PV w allI) := by
  have HI := Lib.hid (mkI_some (a := -19342822337206103650074625) (b := 19342822337206103650074625) (by omega) (by omega) (by omega))
  go_enter Try.func21, Try.ntmps21
  go_upto_region 1 with (fail)
  have XR := (Bo.newAt w (g := w.heap.size) (by simp) #[.bool false, .int .i64 0, .bool false, .int .u64 0, .int .i64 0, .int .i64 0, .bool false, .int .u64 0, .int .i64 0] 26)
  have HB := Lib.hid (bel1 w (.cells #[.bool false, .int .i64 0, .bool false, .int .u64 0, .int .i64 0, .int .i64 0, .bool false, .int .u64 0, .int .i64 0] 26))
  generalize hW1 : (w.alloc (.cells #[.bool false, .int .i64 0, .bool false, .int .u64 0, .int .i64 0, .int .i64 0, .bool false, .int .u64 0, .int .i64 0] 26)) = w1 at *
  clear hW1
  go_wp2_with fail
  refine (nInfE true).mono ?_
  rintro ee w2 ⟨rfl, B⟩
  replace XR := XR.below B
  replace HB := Lib.hid (bt HB.out B)
  clear B
  go_wp2_with fail
  refine (nInfE false).mono ?_
  rintro ee w3 ⟨rfl, B⟩
  replace XR := XR.below B
  replace HB := Lib.hid (bt HB.out B)
  clear B
  go_wp2_with fail
  refine (kvMake (a := -19342822337206103650074625) (b := 19342822337206103650074625) (by decide) (by decide) (fq_inf2 true).rk (fq_inf2 false).rk HI.out).mono ?_
  rintro ee w4 ⟨e2, K2, s2, M2, E2, K2b, s2b, M2b, E2b, rfl, v2, B⟩
  replace XR := XR.below B
  replace HB := Lib.hid (bt HB.out B)
  clear B
  obtain ⟨xXR0, xXR1, xXR2, xXR3, xXR4, xXR5, xXR6, xXR7, xXR8⟩ := XR.ce9 rfl rfl rfl rfl rfl rfl rfl rfl rfl
  have zXR0 := XR.frozen
  go_wp2
  clear xXR0 zXR0 xXR1 xXR2 xXR3 xXR4 xXR5 xXR6 xXR7 xXR8
  have SX := StN.mk9 XR (.bool e2) (.int .i64 K2) (.bool s2) (.int .u64 M2) (.int .i64 E2) (.int .i64 K2b) (.bool s2b) (.int .u64 M2b) (.int .i64 E2b)
  exact bodyPost_ret (v := .agg #[.bool e2, .int .i64 K2, .bool s2, .int .u64 M2, .int .i64 E2, .int .i64 K2b, .bool s2b, .int .u64 M2b, .int .i64 E2b]) (by simp [results, Try.results21, go_sem, SX.box.cell]) rfl ⟨_, _, _, _, _, _, _, _, _, rfl, v2, (SX.below HB.out (by omega))⟩
theorem may_make {e : Bool} {D M E D' M' E' : Int} {s s' : Bool} {e4 : Bool} {K4 M4 E4 K4b M4b E4b : Int} {s4 s4b : Bool} (hM : M < 18446744073709551616) (hM' : M' < 18446744073709551616) (v : Ci e4 K4 s4 M4 E4 K4b s4b M4b E4b (mkI (rk D s M E) (rk D' s' M' E'))) (h1 : ¬ (e = true ∧ D = 0 ∧ s = false ∧ M = 0 ∧ E = 0 ∧ D' = 0 ∧ s' = false ∧ M' = 0 ∧ E' = 0)) : (e = e4 ∧ D = K4 ∧ s = s4 ∧ M = M4 ∧ E = E4 ∧ D' = K4b ∧ s' = s4b ∧ M' = M4b ∧ E' = E4b) ↔ mayI e D s M E D' s' M' E' = true := by
  constructor
  · rintro ⟨rfl, rfl, rfl, rfl, rfl, rfl, rfl, rfl, rfl⟩
    exact v.may
  · intro h
    have c := mayI_ci hM hM' h
    cases e
    · have h2 : decide (rkI false D s M E D' s' M' E' ≠ none) = true := h
      rw [rkI_f] at c
      rw [decide_eq_true_iff, rkI_f] at h2
      by_cases hq : MayQ D s M E ∧ MayQ D' s' M' E'
      · rw [if_pos hq] at c
        exact c.uniq v
      · rw [if_neg hq] at h2
        exact absurd rfl h2
    · rw [rkI_t] at c
      exact absurd (c.uniq Ci.none) h1
set_option maxHeartbeats 4000000 in
theorem kvMay {w : World} {e : Bool} {D M E D' M' E' : Int} {s s' : Bool} {r : Bool} (hM : M < 18446744073709551616) (hM' : M' < 18446744073709551616) (hr : mayI e D s M E D' s' M' E' = r) : Calls Try.prog 11 #[.agg #[.bool e, .int .i64 D, .bool s, .int .u64 M, .int .i64 E, .int .i64 D', .bool s', .int .u64 M', .int .i64 E']] w (PB w r) := by
  by_cases h1 : e = true ∧ D = 0 ∧ s = false ∧ M = 0 ∧ E = 0 ∧ D' = 0 ∧ s' = false ∧ M' = 0 ∧ E' = 0
  · obtain ⟨rfl, rfl, rfl, rfl, rfl, rfl, rfl, rfl, rfl⟩ := h1
    obtain rfl : true = r := Ci.none.may.symm.trans hr
    clear hr
    go_enter Try.func11, Try.ntmps11
    go_upto_region 1 with (fail)
    have X1 := (Bo.newAt w (g := w.heap.size) (by simp) #[.bool true, .int .i64 0, .bool false, .int .u64 0, .int .i64 0, .int .i64 0, .bool false, .int .u64 0, .int .i64 0] 26)
    have HB := Lib.hid (bel1 w (.cells #[.bool true, .int .i64 0, .bool false, .int .u64 0, .int .i64 0, .int .i64 0, .bool false, .int .u64 0, .int .i64 0] 26))
    generalize hW1 : (w.alloc (.cells #[.bool true, .int .i64 0, .bool false, .int .u64 0, .int .i64 0, .int .i64 0, .bool false, .int .u64 0, .int .i64 0] 26)) = w1 at *
    clear hW1
    refine Jo.region_joint (T := [0, 1, 2, 3, 4, 5, 6, 7, 8, 9, 10, 11, 12]) (ds := [some 3, some 4, some 5, some 6, some 7, some 8, some 9, some 10, some 11, some 12, some 13, some 14, some 2]) (ls := [[], [], [0, 1], [2], [3], [3], [3, 5], [3], [3, 7], [3, 6, 8], [3, 4, 9], [3, 10], [11]]) (k := 13) (L := [(some 3, 0), (some 4, 1), (some 5, 2), (some 6, 3), (some 7, 4), (some 8, 5), (some 9, 6), (some 10, 7), (some 11, 8), (some 12, 9), (some 13, 10), (some 14, 11), (some 2, 12)]) (fuel := 0) (J := fun wj => Below (World.heap w1).size w1 wj)
      (F := [Jo.Fact.eq (.agg #[.bool true, .int .i64 0, .bool false, .int .u64 0, .int .i64 0, .int .i64 0, .bool false, .int .u64 0, .int .i64 0]), Jo.Fact.eq (.agg #[.bool true, .int .i64 0, .bool false, .int .u64 0, .int .i64 0, .int .i64 0, .bool false, .int .u64 0, .int .i64 0]), Jo.Fact.eq (.bool true), Jo.Fact.eq (.bool true), Jo.Fact.eq undef, Jo.Fact.eq undef, Jo.Fact.eq undef, Jo.Fact.eq undef, Jo.Fact.eq undef, Jo.Fact.eq undef, Jo.Fact.eq undef, Jo.Fact.eq (.bool true), Jo.Fact.eq (.bool true)])
      (by kernel_rfl) (by kernel_rfl) (by decide) rfl rfl (fun _ _ h b => bt h b) ((Below.refl _ _).drew) ?_ (fun vs w8 hJ hd => ?_)
    · refine Jo.jd 0 (some 3) [] (Jo.Fact.eq (.agg #[.bool true, .int .i64 0, .bool false, .int .u64 0, .int .i64 0, .int .i64 0, .bool false, .int .u64 0, .int .i64 0])) rfl rfl rfl rfl (fun vs wj hJ hd K hK => ?_) ?_
      · simp only [Jo.putl, Jo.ze, Act.put, Jo.za, Jo.zb, Jo.zc] at hK ⊢
        clear hd
        have xX10 := (X1.below hJ).a 0 (.bool true) rfl
        have xX11 := (X1.below hJ).a 1 (.int .i64 0) rfl
        have xX12 := (X1.below hJ).a 2 (.bool false) rfl
        have xX13 := (X1.below hJ).a 3 (.int .u64 0) rfl
        have xX14 := (X1.below hJ).a 4 (.int .i64 0) rfl
        have xX15 := (X1.below hJ).a 5 (.int .i64 0) rfl
        have xX16 := (X1.below hJ).a 6 (.bool false) rfl
        have xX17 := (X1.below hJ).a 7 (.int .u64 0) rfl
        have xX18 := (X1.below hJ).a 8 (.int .i64 0) rfl
        go_simp
        exact hK.out _ _ rfl (Below.refl _ _)
      refine Jo.jd 1 (some 4) [] (Jo.Fact.eq (.agg #[.bool true, .int .i64 0, .bool false, .int .u64 0, .int .i64 0, .int .i64 0, .bool false, .int .u64 0, .int .i64 0])) rfl rfl rfl rfl (fun vs wj hJ hd K hK => ?_) ?_
      · simp only [Jo.putl, Jo.ze, Act.put, Jo.za, Jo.zb, Jo.zc] at hK ⊢
        clear hd
        go_simp
        refine (kvNoneE).mono ?_
        rintro ee wk ⟨rfl, B⟩
        exact hK.out _ _ rfl B
      refine Jo.jd 2 (some 5) [(some 3, 0), (some 4, 1)] (Jo.Fact.eq (.bool true)) rfl rfl rfl rfl (fun vs wj hJ hd K hK => ?_) ?_
      · simp only [Jo.putl, Jo.zd, Jo.ze, Act.put, Jo.za, Jo.zb, Jo.zc] at hK ⊢
        rw [show vs 0 = _ from hd 0 (by decide), show vs 1 = _ from hd 1 (by decide)] at hK ⊢
        clear hd
        go_simp
        repeat' split
        all_goals exact hK.out _ _ (congrArg Value.bool (by first | rfl | (exfalso; simp_all) | simp_all)) (Below.refl _ _)
      refine Jo.jd 3 (some 6) [(some 5, 2)] (Jo.Fact.eq (.bool true)) rfl rfl rfl rfl (fun vs wj hJ hd K hK => ?_) ?_
      · simp only [Jo.putl, Jo.zd, Jo.ze, Act.put, Jo.za, Jo.zb, Jo.zc] at hK ⊢
        rw [show vs 2 = _ from hd 2 (by decide)] at hK ⊢
        clear hd
        go_simp
        exact hK.out _ _ rfl (Below.refl _ _)
      refine Jo.jd 4 (some 7) [(some 6, 3)] (Jo.Fact.eq undef) rfl rfl rfl rfl (fun vs wj hJ hd K hK => ?_) ?_
      · simp only [Jo.putl, Jo.zd, Jo.ze, Act.put, Jo.za, Jo.zb, Jo.zc] at hK ⊢
        rw [show vs 3 = _ from hd 3 (by decide)] at hK ⊢
        clear hd
        go_simp
        exact hK.out _ _ rfl (Below.refl _ _)
      refine Jo.jd 5 (some 8) [(some 6, 3)] (Jo.Fact.eq undef) rfl rfl rfl rfl (fun vs wj hJ hd K hK => ?_) ?_
      · simp only [Jo.putl, Jo.zd, Jo.ze, Act.put, Jo.za, Jo.zb, Jo.zc] at hK ⊢
        rw [show vs 3 = _ from hd 3 (by decide)] at hK ⊢
        clear hd
        go_simp
        exact hK.out _ _ rfl (Below.refl _ _)
      refine Jo.jd 6 (some 9) [(some 6, 3), (some 8, 5)] (Jo.Fact.eq undef) rfl rfl rfl rfl (fun vs wj hJ hd K hK => ?_) ?_
      · have d5 : (Jo.Fact.eq undef).P (vs 5) wj := hd 5 (by decide)
        simp only [Jo.putl, Jo.zd, Jo.ze, Act.put, Jo.za, Jo.zb, Jo.zc] at hK ⊢
        rw [show vs 3 = _ from hd 3 (by decide)] at hK ⊢
        clear hd
        generalize vs 5 = u5 at hK d5 ⊢
        replace d5 : u5 = _ := d5
        subst d5
        go_simp
        exact hK.out _ _ rfl (Below.refl _ _)
      refine Jo.jd 7 (some 10) [(some 6, 3)] (Jo.Fact.eq undef) rfl rfl rfl rfl (fun vs wj hJ hd K hK => ?_) ?_
      · simp only [Jo.putl, Jo.zd, Jo.ze, Act.put, Jo.za, Jo.zb, Jo.zc] at hK ⊢
        rw [show vs 3 = _ from hd 3 (by decide)] at hK ⊢
        clear hd
        go_simp
        exact hK.out _ _ rfl (Below.refl _ _)
      refine Jo.jd 8 (some 11) [(some 6, 3), (some 10, 7)] (Jo.Fact.eq undef) rfl rfl rfl rfl (fun vs wj hJ hd K hK => ?_) ?_
      · have d7 : (Jo.Fact.eq undef).P (vs 7) wj := hd 7 (by decide)
        simp only [Jo.putl, Jo.zd, Jo.ze, Act.put, Jo.za, Jo.zb, Jo.zc] at hK ⊢
        rw [show vs 3 = _ from hd 3 (by decide)] at hK ⊢
        clear hd
        generalize vs 7 = u7 at hK d7 ⊢
        replace d7 : u7 = _ := d7
        subst d7
        go_simp
        exact hK.out _ _ rfl (Below.refl _ _)
      refine Jo.jd 9 (some 12) [(some 6, 3), (some 9, 6), (some 11, 8)] (Jo.Fact.eq undef) rfl rfl rfl rfl (fun vs wj hJ hd K hK => ?_) ?_
      · have d6 : (Jo.Fact.eq undef).P (vs 6) wj := hd 6 (by decide)
        have d8 : (Jo.Fact.eq undef).P (vs 8) wj := hd 8 (by decide)
        simp only [Jo.putl, Jo.zd, Jo.ze, Act.put, Jo.za, Jo.zb, Jo.zc] at hK ⊢
        rw [show vs 3 = _ from hd 3 (by decide)] at hK ⊢
        clear hd
        generalize vs 6 = u6 at hK d6 ⊢
        generalize vs 8 = u8 at hK d8 ⊢
        replace d6 : u6 = _ := d6
        subst d6
        replace d8 : u8 = _ := d8
        subst d8
        go_simp
        exact hK.out _ _ rfl (Below.refl _ _)
      refine Jo.jd 10 (some 13) [(some 6, 3), (some 7, 4), (some 12, 9)] (Jo.Fact.eq undef) rfl rfl rfl rfl (fun vs wj hJ hd K hK => ?_) ?_
      · have d4 : (Jo.Fact.eq undef).P (vs 4) wj := hd 4 (by decide)
        have d9 : (Jo.Fact.eq undef).P (vs 9) wj := hd 9 (by decide)
        simp only [Jo.putl, Jo.zd, Jo.ze, Act.put, Jo.za, Jo.zb, Jo.zc] at hK ⊢
        rw [show vs 3 = _ from hd 3 (by decide)] at hK ⊢
        clear hd
        generalize vs 4 = u4 at hK d4 ⊢
        generalize vs 9 = u9 at hK d9 ⊢
        replace d4 : u4 = _ := d4
        subst d4
        replace d9 : u9 = _ := d9
        subst d9
        go_simp
        exact hK.out _ _ rfl (Below.refl _ _)
      refine Jo.jd 11 (some 14) [(some 6, 3), (some 13, 10)] (Jo.Fact.eq (.bool true)) rfl rfl rfl rfl (fun vs wj hJ hd K hK => ?_) ?_
      · have d10 : (Jo.Fact.eq undef).P (vs 10) wj := hd 10 (by decide)
        simp only [Jo.putl, Jo.zd, Jo.ze, Act.put, Jo.za, Jo.zb, Jo.zc] at hK ⊢
        rw [show vs 3 = _ from hd 3 (by decide)] at hK ⊢
        clear hd
        generalize vs 10 = u10 at hK d10 ⊢
        replace d10 : u10 = _ := d10
        subst d10
        go_simp
        exact hK.out _ _ rfl (Below.refl _ _)
      refine Jo.jd 12 (some 2) [(some 14, 11)] (Jo.Fact.eq (.bool true)) rfl rfl rfl rfl (fun vs wj hJ hd K hK => ?_) ?_
      · simp only [Jo.putl, Jo.zd, Jo.ze, Act.put, Jo.za, Jo.zb, Jo.zc] at hK ⊢
        rw [show vs 11 = _ from hd 11 (by decide)] at hK ⊢
        clear hd
        go_simp
        exact hK.out _ _ rfl (Below.refl _ _)
      exact Jo.Steps.nil
    have d4 : (Jo.Fact.eq undef).P (vs 4) w8 := hd 4 (by decide)
    have d5 : (Jo.Fact.eq undef).P (vs 5) w8 := hd 5 (by decide)
    have d6 : (Jo.Fact.eq undef).P (vs 6) w8 := hd 6 (by decide)
    have d7 : (Jo.Fact.eq undef).P (vs 7) w8 := hd 7 (by decide)
    have d8 : (Jo.Fact.eq undef).P (vs 8) w8 := hd 8 (by decide)
    have d9 : (Jo.Fact.eq undef).P (vs 9) w8 := hd 9 (by decide)
    have d10 : (Jo.Fact.eq undef).P (vs 10) w8 := hd 10 (by decide)
    simp only [Jo.putl, Jo.zd, Jo.ze, Act.put, Jo.za, Jo.zb, Jo.zc]
    rw [show vs 0 = _ from hd 0 (by decide), show vs 1 = _ from hd 1 (by decide), show vs 2 = _ from hd 2 (by decide), show vs 3 = _ from hd 3 (by decide), show vs 11 = _ from hd 11 (by decide), show vs 12 = _ from hd 12 (by decide)]
    clear hd
    generalize vs 4 = u4 at d4 ⊢
    generalize vs 5 = u5 at d5 ⊢
    generalize vs 6 = u6 at d6 ⊢
    generalize vs 7 = u7 at d7 ⊢
    generalize vs 8 = u8 at d8 ⊢
    generalize vs 9 = u9 at d9 ⊢
    generalize vs 10 = u10 at d10 ⊢
    replace d4 : u4 = _ := d4
    subst d4
    replace d5 : u5 = _ := d5
    subst d5
    replace d6 : u6 = _ := d6
    subst d6
    replace d7 : u7 = _ := d7
    subst d7
    replace d8 : u8 = _ := d8
    subst d8
    replace d9 : u9 = _ := d9
    subst d9
    replace d10 : u10 = _ := d10
    subst d10
    replace X1 := X1.below hJ
    replace HB := Lib.hid (bt HB.out hJ)
    refine Jo.jdone (by kernel_rfl) ?_
    go_wp2
    go_ret
    exact ⟨rfl, HB.out⟩
  · have HN1 := Lib.hid h1
    have HY : Hid (∀ {e4 K4 s4 M4 E4 K4b s4b M4b E4b}, Ci e4 K4 s4 M4 E4 K4b s4b M4b E4b (mkI (rk D s M E) (rk D' s' M' E')) → ((e = e4 ∧ D = K4 ∧ s = s4 ∧ M = M4 ∧ E = E4 ∧ D' = K4b ∧ s' = s4b ∧ M' = M4b ∧ E' = E4b) ↔ r = true)) := Lib.hid (fun v => by rw [← hr]; exact may_make hM hM' v h1)
    clear hr h1
    cases r
    · go_enter Try.func11, Try.ntmps11
      go_upto_region 1 with (fail)
      have X1 := (Bo.newAt w (g := w.heap.size) (by simp) #[.bool e, .int .i64 D, .bool s, .int .u64 M, .int .i64 E, .int .i64 D', .bool s', .int .u64 M', .int .i64 E'] 26)
      have HB := Lib.hid (bel1 w (.cells #[.bool e, .int .i64 D, .bool s, .int .u64 M, .int .i64 E, .int .i64 D', .bool s', .int .u64 M', .int .i64 E'] 26))
      generalize hW1 : (w.alloc (.cells #[.bool e, .int .i64 D, .bool s, .int .u64 M, .int .i64 E, .int .i64 D', .bool s', .int .u64 M', .int .i64 E'] 26)) = w1 at *
      clear hW1
      refine Jo.region_joint (T := [0, 1, 2, 3, 4, 5, 6, 7, 8, 9, 10, 11, 12]) (ds := [some 3, some 4, some 5, some 6, some 7, some 8, some 9, some 10, some 11, some 12, some 13, some 14, some 2]) (ls := [[], [], [0, 1], [2], [3], [3], [3, 5], [3], [3, 7], [3, 6, 8], [3, 4, 9], [3, 10], [11]]) (k := 13) (L := [(some 3, 0), (some 4, 1), (some 5, 2), (some 6, 3), (some 7, 4), (some 8, 5), (some 9, 6), (some 10, 7), (some 11, 8), (some 12, 9), (some 13, 10), (some 14, 11), (some 2, 12)]) (fuel := 0) (J := fun wj => Below (World.heap w1).size w1 wj)
        (F := [Jo.Fact.eq (.agg #[.bool e, .int .i64 D, .bool s, .int .u64 M, .int .i64 E, .int .i64 D', .bool s', .int .u64 M', .int .i64 E']), Jo.Fact.eq (.agg #[.bool true, .int .i64 0, .bool false, .int .u64 0, .int .i64 0, .int .i64 0, .bool false, .int .u64 0, .int .i64 0]), Jo.Fact.eq (.bool false), Jo.Fact.eq (.bool false), Jo.Fact.eq (.agg #[.bool e, .int .i64 D, .bool s, .int .u64 M, .int .i64 E, .int .i64 D', .bool s', .int .u64 M', .int .i64 E']), Jo.Fact.eq (.pointer (some ⟨w.heap.size, 1, none⟩)), Jo.Fact.eq (.agg #[.int .i64 D, .bool s, .int .u64 M, .int .i64 E]), Jo.Fact.eq (.pointer (some ⟨w.heap.size, 5, none⟩)), Jo.Fact.eq (.agg #[.int .i64 D', .bool s', .int .u64 M', .int .i64 E']), Jo.Fact.iv (mkI (rk D s M E) (rk D' s' M' E')), Jo.Fact.eq (.bool false), Jo.Fact.eq (.bool false), Jo.Fact.eq (.bool false)])
        (by kernel_rfl) (by kernel_rfl) (by decide) rfl rfl (fun _ _ h b => bt h b) ((Below.refl _ _).drew) ?_ (fun vs w8 hJ hd => ?_)
      · refine Jo.jd 0 (some 3) [] (Jo.Fact.eq (.agg #[.bool e, .int .i64 D, .bool s, .int .u64 M, .int .i64 E, .int .i64 D', .bool s', .int .u64 M', .int .i64 E'])) rfl rfl rfl rfl (fun vs wj hJ hd K hK => ?_) ?_
        · simp only [Jo.putl, Jo.ze, Act.put, Jo.za, Jo.zb, Jo.zc] at hK ⊢
          clear hd
          have xX10 := (X1.below hJ).a 0 (.bool e) rfl
          have xX11 := (X1.below hJ).a 1 (.int .i64 D) rfl
          have xX12 := (X1.below hJ).a 2 (.bool s) rfl
          have xX13 := (X1.below hJ).a 3 (.int .u64 M) rfl
          have xX14 := (X1.below hJ).a 4 (.int .i64 E) rfl
          have xX15 := (X1.below hJ).a 5 (.int .i64 D') rfl
          have xX16 := (X1.below hJ).a 6 (.bool s') rfl
          have xX17 := (X1.below hJ).a 7 (.int .u64 M') rfl
          have xX18 := (X1.below hJ).a 8 (.int .i64 E') rfl
          go_simp
          exact hK.out _ _ rfl (Below.refl _ _)
        refine Jo.jd 1 (some 4) [] (Jo.Fact.eq (.agg #[.bool true, .int .i64 0, .bool false, .int .u64 0, .int .i64 0, .int .i64 0, .bool false, .int .u64 0, .int .i64 0])) rfl rfl rfl rfl (fun vs wj hJ hd K hK => ?_) ?_
        · simp only [Jo.putl, Jo.ze, Act.put, Jo.za, Jo.zb, Jo.zc] at hK ⊢
          clear hd
          go_simp
          refine (kvNoneE).mono ?_
          rintro ee wk ⟨rfl, B⟩
          exact hK.out _ _ rfl B
        refine Jo.jd 2 (some 5) [(some 3, 0), (some 4, 1)] (Jo.Fact.eq (.bool false)) rfl rfl rfl rfl (fun vs wj hJ hd K hK => ?_) ?_
        · simp only [Jo.putl, Jo.zd, Jo.ze, Act.put, Jo.za, Jo.zb, Jo.zc] at hK ⊢
          rw [show vs 0 = _ from hd 0 (by decide), show vs 1 = _ from hd 1 (by decide)] at hK ⊢
          clear hd
          have hne := HN1.out
          go_simp
          repeat' split
          all_goals exact hK.out _ _ (congrArg Value.bool (by first | rfl | (exfalso; simp_all))) (Below.refl _ _)
        refine Jo.jd 3 (some 6) [(some 5, 2)] (Jo.Fact.eq (.bool false)) rfl rfl rfl rfl (fun vs wj hJ hd K hK => ?_) ?_
        · simp only [Jo.putl, Jo.zd, Jo.ze, Act.put, Jo.za, Jo.zb, Jo.zc] at hK ⊢
          rw [show vs 2 = _ from hd 2 (by decide)] at hK ⊢
          clear hd
          go_simp
          exact hK.out _ _ rfl (Below.refl _ _)
        refine Jo.jd 4 (some 7) [(some 6, 3)] (Jo.Fact.eq (.agg #[.bool e, .int .i64 D, .bool s, .int .u64 M, .int .i64 E, .int .i64 D', .bool s', .int .u64 M', .int .i64 E'])) rfl rfl rfl rfl (fun vs wj hJ hd K hK => ?_) ?_
        · simp only [Jo.putl, Jo.zd, Jo.ze, Act.put, Jo.za, Jo.zb, Jo.zc] at hK ⊢
          rw [show vs 3 = _ from hd 3 (by decide)] at hK ⊢
          clear hd
          have xX10 := (X1.below hJ).a 0 (.bool e) rfl
          have xX11 := (X1.below hJ).a 1 (.int .i64 D) rfl
          have xX12 := (X1.below hJ).a 2 (.bool s) rfl
          have xX13 := (X1.below hJ).a 3 (.int .u64 M) rfl
          have xX14 := (X1.below hJ).a 4 (.int .i64 E) rfl
          have xX15 := (X1.below hJ).a 5 (.int .i64 D') rfl
          have xX16 := (X1.below hJ).a 6 (.bool s') rfl
          have xX17 := (X1.below hJ).a 7 (.int .u64 M') rfl
          have xX18 := (X1.below hJ).a 8 (.int .i64 E') rfl
          go_simp
          exact hK.out _ _ rfl (Below.refl _ _)
        refine Jo.jd 5 (some 8) [(some 6, 3)] (Jo.Fact.eq (.pointer (some ⟨w.heap.size, 1, none⟩))) rfl rfl rfl rfl (fun vs wj hJ hd K hK => ?_) ?_
        · simp only [Jo.putl, Jo.zd, Jo.ze, Act.put, Jo.za, Jo.zb, Jo.zc] at hK ⊢
          rw [show vs 3 = _ from hd 3 (by decide)] at hK ⊢
          clear hd
          go_simp
          exact hK.out _ _ rfl (Below.refl _ _)
        refine Jo.jd 6 (some 9) [(some 6, 3), (some 8, 5)] (Jo.Fact.eq (.agg #[.int .i64 D, .bool s, .int .u64 M, .int .i64 E])) rfl rfl rfl rfl (fun vs wj hJ hd K hK => ?_) ?_
        · simp only [Jo.putl, Jo.zd, Jo.ze, Act.put, Jo.za, Jo.zb, Jo.zc] at hK ⊢
          rw [show vs 3 = _ from hd 3 (by decide), show vs 5 = _ from hd 5 (by decide)] at hK ⊢
          clear hd
          have xX11 := (X1.below hJ).a 1 (.int .i64 D) rfl
          have xX12 := (X1.below hJ).a 2 (.bool s) rfl
          have xX13 := (X1.below hJ).a 3 (.int .u64 M) rfl
          have xX14 := (X1.below hJ).a 4 (.int .i64 E) rfl
          go_simp
          exact hK.out _ _ rfl (Below.refl _ _)
        refine Jo.jd 7 (some 10) [(some 6, 3)] (Jo.Fact.eq (.pointer (some ⟨w.heap.size, 5, none⟩))) rfl rfl rfl rfl (fun vs wj hJ hd K hK => ?_) ?_
        · simp only [Jo.putl, Jo.zd, Jo.ze, Act.put, Jo.za, Jo.zb, Jo.zc] at hK ⊢
          rw [show vs 3 = _ from hd 3 (by decide)] at hK ⊢
          clear hd
          go_simp
          exact hK.out _ _ rfl (Below.refl _ _)
        refine Jo.jd 8 (some 11) [(some 6, 3), (some 10, 7)] (Jo.Fact.eq (.agg #[.int .i64 D', .bool s', .int .u64 M', .int .i64 E'])) rfl rfl rfl rfl (fun vs wj hJ hd K hK => ?_) ?_
        · simp only [Jo.putl, Jo.zd, Jo.ze, Act.put, Jo.za, Jo.zb, Jo.zc] at hK ⊢
          rw [show vs 3 = _ from hd 3 (by decide), show vs 7 = _ from hd 7 (by decide)] at hK ⊢
          clear hd
          have xX15 := (X1.below hJ).a 5 (.int .i64 D') rfl
          have xX16 := (X1.below hJ).a 6 (.bool s') rfl
          have xX17 := (X1.below hJ).a 7 (.int .u64 M') rfl
          have xX18 := (X1.below hJ).a 8 (.int .i64 E') rfl
          go_simp
          exact hK.out _ _ rfl (Below.refl _ _)
        refine Jo.jd 9 (some 12) [(some 6, 3), (some 9, 6), (some 11, 8)] (Jo.Fact.iv (mkI (rk D s M E) (rk D' s' M' E'))) rfl rfl rfl rfl (fun vs wj hJ hd K hK => ?_) ?_
        · simp only [Jo.putl, Jo.zd, Jo.ze, Act.put, Jo.za, Jo.zb, Jo.zc] at hK ⊢
          rw [show vs 3 = _ from hd 3 (by decide), show vs 6 = _ from hd 6 (by decide), show vs 8 = _ from hd 8 (by decide)] at hK ⊢
          clear hd
          go_simp
          refine (kvMake hM hM' rfl rfl rfl).mono ?_
          rintro ee wk ⟨e9, K9, s9, M9, E9, K9b, s9b, M9b, E9b, rfl, v9, B⟩
          exact hK.out _ _ ⟨e9, K9, s9, M9, E9, K9b, s9b, M9b, E9b, rfl, v9⟩ B
        refine Jo.jd 10 (some 13) [(some 6, 3), (some 7, 4), (some 12, 9)] (Jo.Fact.eq (.bool false)) rfl rfl rfl rfl (fun vs wj hJ hd K hK => ?_) ?_
        · have d9 : (Jo.Fact.iv (mkI (rk D s M E) (rk D' s' M' E'))).P (vs 9) wj := hd 9 (by decide)
          simp only [Jo.putl, Jo.zd, Jo.ze, Act.put, Jo.za, Jo.zb, Jo.zc] at hK ⊢
          rw [show vs 3 = _ from hd 3 (by decide), show vs 4 = _ from hd 4 (by decide)] at hK ⊢
          clear hd
          generalize vs 9 = u9 at hK d9 ⊢
          obtain ⟨e9, K9, s9, M9, E9, K9b, s9b, M9b, E9b, rfl, v9⟩ := d9
          have hne := fun c => ff ((HY.out v9).1 c)
          go_simp
          repeat' split
          all_goals exact hK.out _ _ (congrArg Value.bool (by first | rfl | (exfalso; simp_all))) (Below.refl _ _)
        refine Jo.jd 11 (some 14) [(some 6, 3), (some 13, 10)] (Jo.Fact.eq (.bool false)) rfl rfl rfl rfl (fun vs wj hJ hd K hK => ?_) ?_
        · simp only [Jo.putl, Jo.zd, Jo.ze, Act.put, Jo.za, Jo.zb, Jo.zc] at hK ⊢
          rw [show vs 3 = _ from hd 3 (by decide), show vs 10 = _ from hd 10 (by decide)] at hK ⊢
          clear hd
          go_simp
          exact hK.out _ _ rfl (Below.refl _ _)
        refine Jo.jd 12 (some 2) [(some 14, 11)] (Jo.Fact.eq (.bool false)) rfl rfl rfl rfl (fun vs wj hJ hd K hK => ?_) ?_
        · simp only [Jo.putl, Jo.zd, Jo.ze, Act.put, Jo.za, Jo.zb, Jo.zc] at hK ⊢
          rw [show vs 11 = _ from hd 11 (by decide)] at hK ⊢
          clear hd
          go_simp
          exact hK.out _ _ rfl (Below.refl _ _)
        exact Jo.Steps.nil
      have d9 : (Jo.Fact.iv (mkI (rk D s M E) (rk D' s' M' E'))).P (vs 9) w8 := hd 9 (by decide)
      simp only [Jo.putl, Jo.zd, Jo.ze, Act.put, Jo.za, Jo.zb, Jo.zc]
      rw [show vs 0 = _ from hd 0 (by decide), show vs 1 = _ from hd 1 (by decide), show vs 2 = _ from hd 2 (by decide), show vs 3 = _ from hd 3 (by decide), show vs 4 = _ from hd 4 (by decide), show vs 6 = _ from hd 6 (by decide), show vs 8 = _ from hd 8 (by decide), show vs 10 = _ from hd 10 (by decide), show vs 11 = _ from hd 11 (by decide), show vs 12 = _ from hd 12 (by decide)]
      clear hd
      generalize vs 9 = u9 at d9 ⊢
      obtain ⟨e9, K9, s9, M9, E9, K9b, s9b, M9b, E9b, rfl, v9⟩ := d9
      replace X1 := X1.below hJ
      replace HB := Lib.hid (bt HB.out hJ)
      refine Jo.jdone (by kernel_rfl) ?_
      go_wp2
      go_ret
      exact ⟨rfl, HB.out⟩
    · go_enter Try.func11, Try.ntmps11
      go_upto_region 1 with (fail)
      have X1 := (Bo.newAt w (g := w.heap.size) (by simp) #[.bool e, .int .i64 D, .bool s, .int .u64 M, .int .i64 E, .int .i64 D', .bool s', .int .u64 M', .int .i64 E'] 26)
      have HB := Lib.hid (bel1 w (.cells #[.bool e, .int .i64 D, .bool s, .int .u64 M, .int .i64 E, .int .i64 D', .bool s', .int .u64 M', .int .i64 E'] 26))
      generalize hW1 : (w.alloc (.cells #[.bool e, .int .i64 D, .bool s, .int .u64 M, .int .i64 E, .int .i64 D', .bool s', .int .u64 M', .int .i64 E'] 26)) = w1 at *
      clear hW1
      refine Jo.region_joint (T := [0, 1, 2, 3, 4, 5, 6, 7, 8, 9, 10, 11, 12]) (ds := [some 3, some 4, some 5, some 6, some 7, some 8, some 9, some 10, some 11, some 12, some 13, some 14, some 2]) (ls := [[], [], [0, 1], [2], [3], [3], [3, 5], [3], [3, 7], [3, 6, 8], [3, 4, 9], [3, 10], [11]]) (k := 13) (L := [(some 3, 0), (some 4, 1), (some 5, 2), (some 6, 3), (some 7, 4), (some 8, 5), (some 9, 6), (some 10, 7), (some 11, 8), (some 12, 9), (some 13, 10), (some 14, 11), (some 2, 12)]) (fuel := 0) (J := fun wj => Below (World.heap w1).size w1 wj)
        (F := [Jo.Fact.eq (.agg #[.bool e, .int .i64 D, .bool s, .int .u64 M, .int .i64 E, .int .i64 D', .bool s', .int .u64 M', .int .i64 E']), Jo.Fact.eq (.agg #[.bool true, .int .i64 0, .bool false, .int .u64 0, .int .i64 0, .int .i64 0, .bool false, .int .u64 0, .int .i64 0]), Jo.Fact.eq (.bool false), Jo.Fact.eq (.bool false), Jo.Fact.eq (.agg #[.bool e, .int .i64 D, .bool s, .int .u64 M, .int .i64 E, .int .i64 D', .bool s', .int .u64 M', .int .i64 E']), Jo.Fact.eq (.pointer (some ⟨w.heap.size, 1, none⟩)), Jo.Fact.eq (.agg #[.int .i64 D, .bool s, .int .u64 M, .int .i64 E]), Jo.Fact.eq (.pointer (some ⟨w.heap.size, 5, none⟩)), Jo.Fact.eq (.agg #[.int .i64 D', .bool s', .int .u64 M', .int .i64 E']), Jo.Fact.iv (mkI (rk D s M E) (rk D' s' M' E')), Jo.Fact.eq (.bool true), Jo.Fact.eq (.bool true), Jo.Fact.eq (.bool true)])
        (by kernel_rfl) (by kernel_rfl) (by decide) rfl rfl (fun _ _ h b => bt h b) ((Below.refl _ _).drew) ?_ (fun vs w8 hJ hd => ?_)
      · refine Jo.jd 0 (some 3) [] (Jo.Fact.eq (.agg #[.bool e, .int .i64 D, .bool s, .int .u64 M, .int .i64 E, .int .i64 D', .bool s', .int .u64 M', .int .i64 E'])) rfl rfl rfl rfl (fun vs wj hJ hd K hK => ?_) ?_
        · simp only [Jo.putl, Jo.ze, Act.put, Jo.za, Jo.zb, Jo.zc] at hK ⊢
          clear hd
          have xX10 := (X1.below hJ).a 0 (.bool e) rfl
          have xX11 := (X1.below hJ).a 1 (.int .i64 D) rfl
          have xX12 := (X1.below hJ).a 2 (.bool s) rfl
          have xX13 := (X1.below hJ).a 3 (.int .u64 M) rfl
          have xX14 := (X1.below hJ).a 4 (.int .i64 E) rfl
          have xX15 := (X1.below hJ).a 5 (.int .i64 D') rfl
          have xX16 := (X1.below hJ).a 6 (.bool s') rfl
          have xX17 := (X1.below hJ).a 7 (.int .u64 M') rfl
          have xX18 := (X1.below hJ).a 8 (.int .i64 E') rfl
          go_simp
          exact hK.out _ _ rfl (Below.refl _ _)
        refine Jo.jd 1 (some 4) [] (Jo.Fact.eq (.agg #[.bool true, .int .i64 0, .bool false, .int .u64 0, .int .i64 0, .int .i64 0, .bool false, .int .u64 0, .int .i64 0])) rfl rfl rfl rfl (fun vs wj hJ hd K hK => ?_) ?_
        · simp only [Jo.putl, Jo.ze, Act.put, Jo.za, Jo.zb, Jo.zc] at hK ⊢
          clear hd
          go_simp
          refine (kvNoneE).mono ?_
          rintro ee wk ⟨rfl, B⟩
          exact hK.out _ _ rfl B
        refine Jo.jd 2 (some 5) [(some 3, 0), (some 4, 1)] (Jo.Fact.eq (.bool false)) rfl rfl rfl rfl (fun vs wj hJ hd K hK => ?_) ?_
        · simp only [Jo.putl, Jo.zd, Jo.ze, Act.put, Jo.za, Jo.zb, Jo.zc] at hK ⊢
          rw [show vs 0 = _ from hd 0 (by decide), show vs 1 = _ from hd 1 (by decide)] at hK ⊢
          clear hd
          have hne := HN1.out
          go_simp
          repeat' split
          all_goals exact hK.out _ _ (congrArg Value.bool (by first | rfl | (exfalso; simp_all))) (Below.refl _ _)
        refine Jo.jd 3 (some 6) [(some 5, 2)] (Jo.Fact.eq (.bool false)) rfl rfl rfl rfl (fun vs wj hJ hd K hK => ?_) ?_
        · simp only [Jo.putl, Jo.zd, Jo.ze, Act.put, Jo.za, Jo.zb, Jo.zc] at hK ⊢
          rw [show vs 2 = _ from hd 2 (by decide)] at hK ⊢
          clear hd
          go_simp
          exact hK.out _ _ rfl (Below.refl _ _)
        refine Jo.jd 4 (some 7) [(some 6, 3)] (Jo.Fact.eq (.agg #[.bool e, .int .i64 D, .bool s, .int .u64 M, .int .i64 E, .int .i64 D', .bool s', .int .u64 M', .int .i64 E'])) rfl rfl rfl rfl (fun vs wj hJ hd K hK => ?_) ?_
        · simp only [Jo.putl, Jo.zd, Jo.ze, Act.put, Jo.za, Jo.zb, Jo.zc] at hK ⊢
          rw [show vs 3 = _ from hd 3 (by decide)] at hK ⊢
          clear hd
          have xX10 := (X1.below hJ).a 0 (.bool e) rfl
          have xX11 := (X1.below hJ).a 1 (.int .i64 D) rfl
          have xX12 := (X1.below hJ).a 2 (.bool s) rfl
          have xX13 := (X1.below hJ).a 3 (.int .u64 M) rfl
          have xX14 := (X1.below hJ).a 4 (.int .i64 E) rfl
          have xX15 := (X1.below hJ).a 5 (.int .i64 D') rfl
          have xX16 := (X1.below hJ).a 6 (.bool s') rfl
          have xX17 := (X1.below hJ).a 7 (.int .u64 M') rfl
          have xX18 := (X1.below hJ).a 8 (.int .i64 E') rfl
          go_simp
          exact hK.out _ _ rfl (Below.refl _ _)
        refine Jo.jd 5 (some 8) [(some 6, 3)] (Jo.Fact.eq (.pointer (some ⟨w.heap.size, 1, none⟩))) rfl rfl rfl rfl (fun vs wj hJ hd K hK => ?_) ?_
        · simp only [Jo.putl, Jo.zd, Jo.ze, Act.put, Jo.za, Jo.zb, Jo.zc] at hK ⊢
          rw [show vs 3 = _ from hd 3 (by decide)] at hK ⊢
          clear hd
          go_simp
          exact hK.out _ _ rfl (Below.refl _ _)
        refine Jo.jd 6 (some 9) [(some 6, 3), (some 8, 5)] (Jo.Fact.eq (.agg #[.int .i64 D, .bool s, .int .u64 M, .int .i64 E])) rfl rfl rfl rfl (fun vs wj hJ hd K hK => ?_) ?_
        · simp only [Jo.putl, Jo.zd, Jo.ze, Act.put, Jo.za, Jo.zb, Jo.zc] at hK ⊢
          rw [show vs 3 = _ from hd 3 (by decide), show vs 5 = _ from hd 5 (by decide)] at hK ⊢
          clear hd
          have xX11 := (X1.below hJ).a 1 (.int .i64 D) rfl
          have xX12 := (X1.below hJ).a 2 (.bool s) rfl
          have xX13 := (X1.below hJ).a 3 (.int .u64 M) rfl
          have xX14 := (X1.below hJ).a 4 (.int .i64 E) rfl
          go_simp
          exact hK.out _ _ rfl (Below.refl _ _)
        refine Jo.jd 7 (some 10) [(some 6, 3)] (Jo.Fact.eq (.pointer (some ⟨w.heap.size, 5, none⟩))) rfl rfl rfl rfl (fun vs wj hJ hd K hK => ?_) ?_
        · simp only [Jo.putl, Jo.zd, Jo.ze, Act.put, Jo.za, Jo.zb, Jo.zc] at hK ⊢
          rw [show vs 3 = _ from hd 3 (by decide)] at hK ⊢
          clear hd
          go_simp
          exact hK.out _ _ rfl (Below.refl _ _)
        refine Jo.jd 8 (some 11) [(some 6, 3), (some 10, 7)] (Jo.Fact.eq (.agg #[.int .i64 D', .bool s', .int .u64 M', .int .i64 E'])) rfl rfl rfl rfl (fun vs wj hJ hd K hK => ?_) ?_
        · simp only [Jo.putl, Jo.zd, Jo.ze, Act.put, Jo.za, Jo.zb, Jo.zc] at hK ⊢
          rw [show vs 3 = _ from hd 3 (by decide), show vs 7 = _ from hd 7 (by decide)] at hK ⊢
          clear hd
          have xX15 := (X1.below hJ).a 5 (.int .i64 D') rfl
          have xX16 := (X1.below hJ).a 6 (.bool s') rfl
          have xX17 := (X1.below hJ).a 7 (.int .u64 M') rfl
          have xX18 := (X1.below hJ).a 8 (.int .i64 E') rfl
          go_simp
          exact hK.out _ _ rfl (Below.refl _ _)
        refine Jo.jd 9 (some 12) [(some 6, 3), (some 9, 6), (some 11, 8)] (Jo.Fact.iv (mkI (rk D s M E) (rk D' s' M' E'))) rfl rfl rfl rfl (fun vs wj hJ hd K hK => ?_) ?_
        · simp only [Jo.putl, Jo.zd, Jo.ze, Act.put, Jo.za, Jo.zb, Jo.zc] at hK ⊢
          rw [show vs 3 = _ from hd 3 (by decide), show vs 6 = _ from hd 6 (by decide), show vs 8 = _ from hd 8 (by decide)] at hK ⊢
          clear hd
          go_simp
          refine (kvMake hM hM' rfl rfl rfl).mono ?_
          rintro ee wk ⟨e9, K9, s9, M9, E9, K9b, s9b, M9b, E9b, rfl, v9, B⟩
          exact hK.out _ _ ⟨e9, K9, s9, M9, E9, K9b, s9b, M9b, E9b, rfl, v9⟩ B
        refine Jo.jd 10 (some 13) [(some 6, 3), (some 7, 4), (some 12, 9)] (Jo.Fact.eq (.bool true)) rfl rfl rfl rfl (fun vs wj hJ hd K hK => ?_) ?_
        · have d9 : (Jo.Fact.iv (mkI (rk D s M E) (rk D' s' M' E'))).P (vs 9) wj := hd 9 (by decide)
          simp only [Jo.putl, Jo.zd, Jo.ze, Act.put, Jo.za, Jo.zb, Jo.zc] at hK ⊢
          rw [show vs 3 = _ from hd 3 (by decide), show vs 4 = _ from hd 4 (by decide)] at hK ⊢
          clear hd
          generalize vs 9 = u9 at hK d9 ⊢
          obtain ⟨e9, K9, s9, M9, E9, K9b, s9b, M9b, E9b, rfl, v9⟩ := d9
          obtain ⟨rfl, rfl, rfl, rfl, rfl, rfl, rfl, rfl, rfl⟩ := (HY.out v9).2 rfl
          go_simp
          repeat' split
          all_goals exact hK.out _ _ (congrArg Value.bool (by first | rfl | (exfalso; simp_all) | simp_all)) (Below.refl _ _)
        refine Jo.jd 11 (some 14) [(some 6, 3), (some 13, 10)] (Jo.Fact.eq (.bool true)) rfl rfl rfl rfl (fun vs wj hJ hd K hK => ?_) ?_
        · simp only [Jo.putl, Jo.zd, Jo.ze, Act.put, Jo.za, Jo.zb, Jo.zc] at hK ⊢
          rw [show vs 3 = _ from hd 3 (by decide), show vs 10 = _ from hd 10 (by decide)] at hK ⊢
          clear hd
          go_simp
          exact hK.out _ _ rfl (Below.refl _ _)
        refine Jo.jd 12 (some 2) [(some 14, 11)] (Jo.Fact.eq (.bool true)) rfl rfl rfl rfl (fun vs wj hJ hd K hK => ?_) ?_
        · simp only [Jo.putl, Jo.zd, Jo.ze, Act.put, Jo.za, Jo.zb, Jo.zc] at hK ⊢
          rw [show vs 11 = _ from hd 11 (by decide)] at hK ⊢
          clear hd
          go_simp
          exact hK.out _ _ rfl (Below.refl _ _)
        exact Jo.Steps.nil
      have d9 : (Jo.Fact.iv (mkI (rk D s M E) (rk D' s' M' E'))).P (vs 9) w8 := hd 9 (by decide)
      simp only [Jo.putl, Jo.zd, Jo.ze, Act.put, Jo.za, Jo.zb, Jo.zc]
      rw [show vs 0 = _ from hd 0 (by decide), show vs 1 = _ from hd 1 (by decide), show vs 2 = _ from hd 2 (by decide), show vs 3 = _ from hd 3 (by decide), show vs 4 = _ from hd 4 (by decide), show vs 6 = _ from hd 6 (by decide), show vs 8 = _ from hd 8 (by decide), show vs 10 = _ from hd 10 (by decide), show vs 11 = _ from hd 11 (by decide), show vs 12 = _ from hd 12 (by decide)]
      clear hd
      generalize vs 9 = u9 at d9 ⊢
      obtain ⟨e9, K9, s9, M9, E9, K9b, s9b, M9b, E9b, rfl, v9⟩ := d9
      replace X1 := X1.below hJ
      replace HB := Lib.hid (bt HB.out hJ)
      refine Jo.jdone (by kernel_rfl) ?_
      go_wp2
      go_ret
      exact ⟨rfl, HB.out⟩
set_option maxHeartbeats 2000000 in
theorem kvOrE {w : World} {e : Bool} {D M E D' M' E' : Int} {s s' : Bool} {x : Sp} (hM : M < 18446744073709551616) (hM' : M' < 18446744073709551616) (hr : rkI e D s M E D' s' M' E' = x) : Calls Try.prog 37 #[.agg #[.bool e, .int .i64 D, .bool s, .int .u64 M, .int .i64 E, .int .i64 D', .bool s', .int .u64 M', .int .i64 E']] w (PV w x) := by
  cases hm : mayI e D s M E D' s' M' E'
  · obtain rfl : none = x := (mayI_no hm).symm.trans hr
    have HM := Lib.hid hm
    clear hm hr
    go_enter Try.func37, Try.ntmps37
    go_upto_region 1 with (fail)
    have X1 := (Bo.newAt w (g := w.heap.size) (by simp) #[.bool e, .int .i64 D, .bool s, .int .u64 M, .int .i64 E, .int .i64 D', .bool s', .int .u64 M', .int .i64 E'] 26).below (bel1 _ (.cells #[.bool false, .int .i64 0, .bool false, .int .u64 0, .int .i64 0, .int .i64 0, .bool false, .int .u64 0, .int .i64 0] 26))
    have XR := (Bo.newAt (w.alloc (.cells #[.bool e, .int .i64 D, .bool s, .int .u64 M, .int .i64 E, .int .i64 D', .bool s', .int .u64 M', .int .i64 E'] 26)) (g := w.heap.size + 1) (by simp) #[.bool false, .int .i64 0, .bool false, .int .u64 0, .int .i64 0, .int .i64 0, .bool false, .int .u64 0, .int .i64 0] 26)
    have HB := Lib.hid (bel2 w (.cells #[.bool e, .int .i64 D, .bool s, .int .u64 M, .int .i64 E, .int .i64 D', .bool s', .int .u64 M', .int .i64 E'] 26) (.cells #[.bool false, .int .i64 0, .bool false, .int .u64 0, .int .i64 0, .int .i64 0, .bool false, .int .u64 0, .int .i64 0] 26))
    generalize hW1 : ((w.alloc (.cells #[.bool e, .int .i64 D, .bool s, .int .u64 M, .int .i64 E, .int .i64 D', .bool s', .int .u64 M', .int .i64 E'] 26)).alloc (.cells #[.bool false, .int .i64 0, .bool false, .int .u64 0, .int .i64 0, .int .i64 0, .bool false, .int .u64 0, .int .i64 0] 26)) = w1 at *
    clear hW1
    obtain ⟨xX10, xX11, xX12, xX13, xX14, xX15, xX16, xX17, xX18⟩ := X1.ce9 rfl rfl rfl rfl rfl rfl rfl rfl rfl
    go_wp2_with fail
    refine (kvMay hM hM' HM.out).mono ?_
    rintro ee w2 ⟨rfl, B⟩
    clear xX10 xX11 xX12 xX13 xX14 xX15 xX16 xX17 xX18
    replace X1 := X1.below B
    replace XR := XR.below B
    replace HB := Lib.hid (bt HB.out B)
    clear B
    clear HM hM hM'
    go_wp2_with fail
    refine (kvNoneE).mono ?_
    rintro ee w3 ⟨rfl, B⟩
    replace X1 := X1.below B
    replace XR := XR.below B
    replace HB := Lib.hid (bt HB.out B)
    clear B
    obtain ⟨xXR0, xXR1, xXR2, xXR3, xXR4, xXR5, xXR6, xXR7, xXR8⟩ := XR.ce9 rfl rfl rfl rfl rfl rfl rfl rfl rfl
    have zXR0 := XR.frozen
    go_wp2
    clear xXR0 zXR0 xXR1 xXR2 xXR3 xXR4 xXR5 xXR6 xXR7 xXR8
    have SX := StN.mk9 XR (.bool true) (.int .i64 0) (.bool false) (.int .u64 0) (.int .i64 0) (.int .i64 0) (.bool false) (.int .u64 0) (.int .i64 0)
    exact bodyPost_ret (v := .agg #[.bool true, .int .i64 0, .bool false, .int .u64 0, .int .i64 0, .int .i64 0, .bool false, .int .u64 0, .int .i64 0]) (by simp [results, Try.results37, go_sem, SX.box.cell]) rfl ⟨_, _, _, _, _, _, _, _, _, rfl, Ci.none, (SX.below HB.out (by omega))⟩
  · have hv := mayI_ci hM hM' hm
    rw [hr] at hv
    have HM := Lib.hid hm
    clear hm hr
    go_enter Try.func37, Try.ntmps37
    go_upto_region 1 with (fail)
    have X1 := (Bo.newAt w (g := w.heap.size) (by simp) #[.bool e, .int .i64 D, .bool s, .int .u64 M, .int .i64 E, .int .i64 D', .bool s', .int .u64 M', .int .i64 E'] 26).below (bel1 _ (.cells #[.bool false, .int .i64 0, .bool false, .int .u64 0, .int .i64 0, .int .i64 0, .bool false, .int .u64 0, .int .i64 0] 26))
    have XR := (Bo.newAt (w.alloc (.cells #[.bool e, .int .i64 D, .bool s, .int .u64 M, .int .i64 E, .int .i64 D', .bool s', .int .u64 M', .int .i64 E'] 26)) (g := w.heap.size + 1) (by simp) #[.bool false, .int .i64 0, .bool false, .int .u64 0, .int .i64 0, .int .i64 0, .bool false, .int .u64 0, .int .i64 0] 26)
    have HB := Lib.hid (bel2 w (.cells #[.bool e, .int .i64 D, .bool s, .int .u64 M, .int .i64 E, .int .i64 D', .bool s', .int .u64 M', .int .i64 E'] 26) (.cells #[.bool false, .int .i64 0, .bool false, .int .u64 0, .int .i64 0, .int .i64 0, .bool false, .int .u64 0, .int .i64 0] 26))
    generalize hW1 : ((w.alloc (.cells #[.bool e, .int .i64 D, .bool s, .int .u64 M, .int .i64 E, .int .i64 D', .bool s', .int .u64 M', .int .i64 E'] 26)).alloc (.cells #[.bool false, .int .i64 0, .bool false, .int .u64 0, .int .i64 0, .int .i64 0, .bool false, .int .u64 0, .int .i64 0] 26)) = w1 at *
    clear hW1
    obtain ⟨xX10, xX11, xX12, xX13, xX14, xX15, xX16, xX17, xX18⟩ := X1.ce9 rfl rfl rfl rfl rfl rfl rfl rfl rfl
    go_wp2_with fail
    refine (kvMay hM hM' HM.out).mono ?_
    rintro ee w2 ⟨rfl, B⟩
    clear xX10 xX11 xX12 xX13 xX14 xX15 xX16 xX17 xX18
    replace X1 := X1.below B
    replace XR := XR.below B
    replace HB := Lib.hid (bt HB.out B)
    clear B
    clear HM hM hM'
    obtain ⟨xXR0, xXR1, xXR2, xXR3, xXR4, xXR5, xXR6, xXR7, xXR8⟩ := XR.ce9 rfl rfl rfl rfl rfl rfl rfl rfl rfl
    have zXR0 := XR.frozen
    obtain ⟨xX10, xX11, xX12, xX13, xX14, xX15, xX16, xX17, xX18⟩ := X1.ce9 rfl rfl rfl rfl rfl rfl rfl rfl rfl
    go_wp2
    clear xXR0 zXR0 xXR1 xXR2 xXR3 xXR4 xXR5 xXR6 xXR7 xXR8 xX10 xX11 xX12 xX13 xX14 xX15 xX16 xX17 xX18
    have SX := StN.mk9 XR (.bool e) (.int .i64 D) (.bool s) (.int .u64 M) (.int .i64 E) (.int .i64 D') (.bool s') (.int .u64 M') (.int .i64 E')
    exact bodyPost_ret (v := .agg #[.bool e, .int .i64 D, .bool s, .int .u64 M, .int .i64 E, .int .i64 D', .bool s', .int .u64 M', .int .i64 E']) (by simp [results, Try.results37, go_sem, SX.box.cell]) rfl ⟨_, _, _, _, _, _, _, _, _, rfl, hv, (SX.below HB.out (by omega))⟩
set_option maxHeartbeats 4000000 in
theorem kvWithin {w : World} {e : Bool} {D M E D' M' E' : Int} {s s' : Bool} {e2 : Bool} {G P Q G' P' Q' : Int} {g g' : Bool} {x y : Sp} {r : Bool} (hM : M < 18446744073709551616) (hM' : M' < 18446744073709551616) (hP : P < 18446744073709551616) (hP' : P' < 18446744073709551616) (hx : rkI e D s M E D' s' M' E' = x) (hy : rkI e2 G g P Q G' g' P' Q' = y) (hr : witI x y = r) : Calls Try.prog 15 #[.agg #[.bool e, .int .i64 D, .bool s, .int .u64 M, .int .i64 E, .int .i64 D', .bool s', .int .u64 M', .int .i64 E'], .agg #[.bool e2, .int .i64 G, .bool g, .int .u64 P, .int .i64 Q, .int .i64 G', .bool g', .int .u64 P', .int .i64 Q']] w (PB w r) := by
  have HX := Lib.hid hx
  have HY := Lib.hid hy
  clear hx hy
  go_enter Try.func15, Try.ntmps15
  go_upto_region 1 with (fail)
  have X2 := (Bo.newAt w (g := w.heap.size) (by simp) #[.bool e, .int .i64 D, .bool s, .int .u64 M, .int .i64 E, .int .i64 D', .bool s', .int .u64 M', .int .i64 E'] 26).below (bel1 _ (.cells #[.bool e2, .int .i64 G, .bool g, .int .u64 P, .int .i64 Q, .int .i64 G', .bool g', .int .u64 P', .int .i64 Q'] 26))
  have X3 := (Bo.newAt (w.alloc (.cells #[.bool e, .int .i64 D, .bool s, .int .u64 M, .int .i64 E, .int .i64 D', .bool s', .int .u64 M', .int .i64 E'] 26)) (g := w.heap.size + 1) (by simp) #[.bool e2, .int .i64 G, .bool g, .int .u64 P, .int .i64 Q, .int .i64 G', .bool g', .int .u64 P', .int .i64 Q'] 26)
  have HB := Lib.hid (bel2 w (.cells #[.bool e, .int .i64 D, .bool s, .int .u64 M, .int .i64 E, .int .i64 D', .bool s', .int .u64 M', .int .i64 E'] 26) (.cells #[.bool e2, .int .i64 G, .bool g, .int .u64 P, .int .i64 Q, .int .i64 G', .bool g', .int .u64 P', .int .i64 Q'] 26))
  generalize hW1 : ((w.alloc (.cells #[.bool e, .int .i64 D, .bool s, .int .u64 M, .int .i64 E, .int .i64 D', .bool s', .int .u64 M', .int .i64 E'] 26)).alloc (.cells #[.bool e2, .int .i64 G, .bool g, .int .u64 P, .int .i64 Q, .int .i64 G', .bool g', .int .u64 P', .int .i64 Q'] 26)) = w1 at *
  clear hW1
  refine Jo.region_joint (T := [0, 1, 2, 3]) (ds := [some 5, some 6, some 7, some 8, none, none]) (ls := [[], [0], [], [2], [], []]) (k := 6) (L := [(some 5, 0), (some 6, 1), (some 7, 2), (some 8, 3)]) (fuel := 2) (J := fun wj => Below (World.heap w1).size w1 wj)
    (F := [Jo.Fact.eq (.agg #[.bool e, .int .i64 D, .bool s, .int .u64 M, .int .i64 E, .int .i64 D', .bool s', .int .u64 M', .int .i64 E']), Jo.Fact.iv x, Jo.Fact.eq (.agg #[.bool e2, .int .i64 G, .bool g, .int .u64 P, .int .i64 Q, .int .i64 G', .bool g', .int .u64 P', .int .i64 Q']), Jo.Fact.iv y, Jo.Fact.any, Jo.Fact.any])
    (by kernel_rfl) (by kernel_rfl) (by decide) rfl rfl (fun _ _ h b => bt h b) ((Below.refl _ _).drew) ?_ (fun vs w2 hJ hd => ?_)
  · refine Jo.jd 0 (some 5) [] (Jo.Fact.eq (.agg #[.bool e, .int .i64 D, .bool s, .int .u64 M, .int .i64 E, .int .i64 D', .bool s', .int .u64 M', .int .i64 E'])) rfl rfl rfl rfl (fun vs wj hJ hd K hK => ?_) ?_
    · simp only [Jo.putl, Jo.ze, Act.put, Jo.za, Jo.zb, Jo.zc] at hK ⊢
      clear hd
      have xX20 := (X2.below hJ).a 0 (.bool e) rfl
      have xX21 := (X2.below hJ).a 1 (.int .i64 D) rfl
      have xX22 := (X2.below hJ).a 2 (.bool s) rfl
      have xX23 := (X2.below hJ).a 3 (.int .u64 M) rfl
      have xX24 := (X2.below hJ).a 4 (.int .i64 E) rfl
      have xX25 := (X2.below hJ).a 5 (.int .i64 D') rfl
      have xX26 := (X2.below hJ).a 6 (.bool s') rfl
      have xX27 := (X2.below hJ).a 7 (.int .u64 M') rfl
      have xX28 := (X2.below hJ).a 8 (.int .i64 E') rfl
      go_simp
      exact hK.out _ _ rfl (Below.refl _ _)
    refine Jo.jd 1 (some 6) [(some 5, 0)] (Jo.Fact.iv x) rfl rfl rfl rfl (fun vs wj hJ hd K hK => ?_) ?_
    · simp only [Jo.putl, Jo.zd, Jo.ze, Act.put, Jo.za, Jo.zb, Jo.zc] at hK ⊢
      rw [show vs 0 = _ from hd 0 (by decide)] at hK ⊢
      clear hd
      go_simp
      refine (kvOrE hM hM' HX.out).mono ?_
      rintro ee wk ⟨e1, K1, s1, M1, E1, K1b, s1b, M1b, E1b, rfl, v1, B⟩
      exact hK.out _ _ ⟨e1, K1, s1, M1, E1, K1b, s1b, M1b, E1b, rfl, v1⟩ B
    refine Jo.jd 2 (some 7) [] (Jo.Fact.eq (.agg #[.bool e2, .int .i64 G, .bool g, .int .u64 P, .int .i64 Q, .int .i64 G', .bool g', .int .u64 P', .int .i64 Q'])) rfl rfl rfl rfl (fun vs wj hJ hd K hK => ?_) ?_
    · simp only [Jo.putl, Jo.ze, Act.put, Jo.za, Jo.zb, Jo.zc] at hK ⊢
      clear hd
      have xX30 := (X3.below hJ).a 0 (.bool e2) rfl
      have xX31 := (X3.below hJ).a 1 (.int .i64 G) rfl
      have xX32 := (X3.below hJ).a 2 (.bool g) rfl
      have xX33 := (X3.below hJ).a 3 (.int .u64 P) rfl
      have xX34 := (X3.below hJ).a 4 (.int .i64 Q) rfl
      have xX35 := (X3.below hJ).a 5 (.int .i64 G') rfl
      have xX36 := (X3.below hJ).a 6 (.bool g') rfl
      have xX37 := (X3.below hJ).a 7 (.int .u64 P') rfl
      have xX38 := (X3.below hJ).a 8 (.int .i64 Q') rfl
      go_simp
      exact hK.out _ _ rfl (Below.refl _ _)
    refine Jo.jd 3 (some 8) [(some 7, 2)] (Jo.Fact.iv y) rfl rfl rfl rfl (fun vs wj hJ hd K hK => ?_) ?_
    · simp only [Jo.putl, Jo.zd, Jo.ze, Act.put, Jo.za, Jo.zb, Jo.zc] at hK ⊢
      rw [show vs 2 = _ from hd 2 (by decide)] at hK ⊢
      clear hd
      go_simp
      refine (kvOrE hP hP' HY.out).mono ?_
      rintro ee wk ⟨e6, K6, s6, M6, E6, K6b, s6b, M6b, E6b, rfl, v6, B⟩
      exact hK.out _ _ ⟨e6, K6, s6, M6, E6, K6b, s6b, M6b, E6b, rfl, v6⟩ B
    exact Jo.Steps.nil
  have d1 : (Jo.Fact.iv x).P (vs 1) w2 := hd 1 (by decide)
  have d3 : (Jo.Fact.iv y).P (vs 3) w2 := hd 3 (by decide)
  simp only [Jo.putl, Jo.zd, Jo.ze, Act.put, Jo.za, Jo.zb, Jo.zc]
  rw [show vs 0 = _ from hd 0 (by decide), show vs 2 = _ from hd 2 (by decide)]
  clear hd
  generalize vs 1 = u1 at d1 ⊢
  generalize vs 3 = u3 at d3 ⊢
  obtain ⟨e1, K1, s1, M1, E1, K1b, s1b, M1b, E1b, rfl, v1⟩ := d1
  obtain ⟨e6, K6, s6, M6, E6, K6b, s6b, M6b, E6b, rfl, v6⟩ := d3
  replace X2 := X2.below hJ
  replace X3 := X3.below hJ
  replace HB := Lib.hid (bt HB.out hJ)
  obtain ⟨xX20, xX21, xX22, xX23, xX24, xX25, xX26, xX27, xX28⟩ := X2.ce9 rfl rfl rfl rfl rfl rfl rfl rfl rfl
  have zX20 := X2.frozen
  refine Jo.jnext (i := 4) (o := ⟨none, _, _, _, _, _⟩) (by kernel_rfl) rfl (fun K hK => ?_)
  go_simp
  refine hK.out _ _ ?_
  clear hK K xX20 zX20 xX21 xX22 xX23 xX24 xX25 xX26 xX27 xX28
  have SX := StN.mk9 X2 (.bool e1) (.int .i64 K1) (.bool s1) (.int .u64 M1) (.int .i64 E1) (.int .i64 K1b) (.bool s1b) (.int .u64 M1b) (.int .i64 E1b)
  replace X3 := X3.stn SX (by omega)
  replace HB := Lib.hid (SX.below HB.out (by omega))
  replace X2 := SX.box
  clear SX
  generalize (World.setCell (World.setCell (World.setCell (World.setCell (World.setCell (World.setCell (World.setCell (World.setCell (World.setCell w2 ⟨w.heap.size, 0, none⟩ (.bool e1)) ⟨w.heap.size, 1, none⟩ (.int .i64 K1)) ⟨w.heap.size, 2, none⟩ (.bool s1)) ⟨w.heap.size, 3, none⟩ (.int .u64 M1)) ⟨w.heap.size, 4, none⟩ (.int .i64 E1)) ⟨w.heap.size, 5, none⟩ (.int .i64 K1b)) ⟨w.heap.size, 6, none⟩ (.bool s1b)) ⟨w.heap.size, 7, none⟩ (.int .u64 M1b)) ⟨w.heap.size, 8, none⟩ (.int .i64 E1b)) = w3 at *
  obtain ⟨xX30, xX31, xX32, xX33, xX34, xX35, xX36, xX37, xX38⟩ := X3.ce9 rfl rfl rfl rfl rfl rfl rfl rfl rfl
  have zX30 := X3.frozen
  refine Jo.jnext (i := 5) (o := ⟨none, _, _, _, _, _⟩) (by kernel_rfl) rfl (fun K hK => ?_)
  go_simp
  refine hK.out _ _ ?_
  clear hK K xX30 zX30 xX31 xX32 xX33 xX34 xX35 xX36 xX37 xX38
  have SX := StN.mk9 X3 (.bool e6) (.int .i64 K6) (.bool s6) (.int .u64 M6) (.int .i64 E6) (.int .i64 K6b) (.bool s6b) (.int .u64 M6b) (.int .i64 E6b)
  replace X2 := X2.stn SX (by omega)
  replace HB := Lib.hid (SX.below HB.out (by omega))
  replace X3 := SX.box
  clear SX
  generalize (World.setCell (World.setCell (World.setCell (World.setCell (World.setCell (World.setCell (World.setCell (World.setCell (World.setCell w3 ⟨w.heap.size + 1, 0, none⟩ (.bool e6)) ⟨w.heap.size + 1, 1, none⟩ (.int .i64 K6)) ⟨w.heap.size + 1, 2, none⟩ (.bool s6)) ⟨w.heap.size + 1, 3, none⟩ (.int .u64 M6)) ⟨w.heap.size + 1, 4, none⟩ (.int .i64 E6)) ⟨w.heap.size + 1, 5, none⟩ (.int .i64 K6b)) ⟨w.heap.size + 1, 6, none⟩ (.bool s6b)) ⟨w.heap.size + 1, 7, none⟩ (.int .u64 M6b)) ⟨w.heap.size + 1, 8, none⟩ (.int .i64 E6b)) = w4 at *
  refine Jo.jdone (by kernel_rfl) ?_
  clear HX HY hM hM' hP hP'
  rcases x with _ | ⟨xa, xb⟩
  · obtain ⟨rfl, y1, y1b⟩ := v1
    obtain rfl : true = r := hr
    obtain ⟨_, rfl, rfl, rfl, rfl, rfl, rfl, rfl, rfl⟩ := (show Ci true K1 s1 M1 E1 K1b s1b M1b E1b none from ⟨rfl, y1, y1b⟩).uniq Ci.none
    clear y1 y1b
    go_wp2
    refine Jo.region_joint (T := [0, 1, 2, 3]) (ds := [some 10, some 11, some 12, some 9]) (ls := [[], [], [0, 1], [2]]) (k := 4) (L := [(some 10, 0), (some 11, 1), (some 12, 2), (some 9, 3)]) (fuel := 0) (J := fun wj => Below (World.heap w4).size w4 wj)
      (F := [Jo.Fact.eq (.agg #[.bool true, .int .i64 0, .bool false, .int .u64 0, .int .i64 0, .int .i64 0, .bool false, .int .u64 0, .int .i64 0]), Jo.Fact.eq (.agg #[.bool true, .int .i64 0, .bool false, .int .u64 0, .int .i64 0, .int .i64 0, .bool false, .int .u64 0, .int .i64 0]), Jo.Fact.eq (.bool true), Jo.Fact.eq (.bool true)])
      (by kernel_rfl) (by kernel_rfl) (by decide) rfl rfl (fun _ _ h b => bt h b) ((Below.refl _ _).drew) ?_ (fun vs w5 hJ hd => ?_)
    · refine Jo.jd 0 (some 10) [] (Jo.Fact.eq (.agg #[.bool true, .int .i64 0, .bool false, .int .u64 0, .int .i64 0, .int .i64 0, .bool false, .int .u64 0, .int .i64 0])) rfl rfl rfl rfl (fun vs wj hJ hd K hK => ?_) ?_
      · simp only [Jo.putl, Jo.ze, Act.put, Jo.za, Jo.zb, Jo.zc] at hK ⊢
        clear hd
        have xX20 := (X2.below hJ).a 0 (.bool true) rfl
        have xX21 := (X2.below hJ).a 1 (.int .i64 0) rfl
        have xX22 := (X2.below hJ).a 2 (.bool false) rfl
        have xX23 := (X2.below hJ).a 3 (.int .u64 0) rfl
        have xX24 := (X2.below hJ).a 4 (.int .i64 0) rfl
        have xX25 := (X2.below hJ).a 5 (.int .i64 0) rfl
        have xX26 := (X2.below hJ).a 6 (.bool false) rfl
        have xX27 := (X2.below hJ).a 7 (.int .u64 0) rfl
        have xX28 := (X2.below hJ).a 8 (.int .i64 0) rfl
        go_simp
        exact hK.out _ _ rfl (Below.refl _ _)
      refine Jo.jd 1 (some 11) [] (Jo.Fact.eq (.agg #[.bool true, .int .i64 0, .bool false, .int .u64 0, .int .i64 0, .int .i64 0, .bool false, .int .u64 0, .int .i64 0])) rfl rfl rfl rfl (fun vs wj hJ hd K hK => ?_) ?_
      · simp only [Jo.putl, Jo.ze, Act.put, Jo.za, Jo.zb, Jo.zc] at hK ⊢
        clear hd
        go_simp
        refine (kvNoneE).mono ?_
        rintro ee wk ⟨rfl, B⟩
        exact hK.out _ _ rfl B
      refine Jo.jd 2 (some 12) [(some 10, 0), (some 11, 1)] (Jo.Fact.eq (.bool true)) rfl rfl rfl rfl (fun vs wj hJ hd K hK => ?_) ?_
      · simp only [Jo.putl, Jo.zd, Jo.ze, Act.put, Jo.za, Jo.zb, Jo.zc] at hK ⊢
        rw [show vs 0 = _ from hd 0 (by decide), show vs 1 = _ from hd 1 (by decide)] at hK ⊢
        clear hd
        go_simp
        repeat' split
        all_goals exact hK.out _ _ (congrArg Value.bool (by first | rfl | (exfalso; simp_all) | simp_all)) (Below.refl _ _)
      refine Jo.jd 3 (some 9) [(some 12, 2)] (Jo.Fact.eq (.bool true)) rfl rfl rfl rfl (fun vs wj hJ hd K hK => ?_) ?_
      · simp only [Jo.putl, Jo.zd, Jo.ze, Act.put, Jo.za, Jo.zb, Jo.zc] at hK ⊢
        rw [show vs 2 = _ from hd 2 (by decide)] at hK ⊢
        clear hd
        go_simp
        exact hK.out _ _ rfl (Below.refl _ _)
      exact Jo.Steps.nil
    simp only [Jo.putl, Jo.zd, Jo.ze, Act.put, Jo.za, Jo.zb, Jo.zc]
    rw [show vs 0 = _ from hd 0 (by decide), show vs 1 = _ from hd 1 (by decide), show vs 2 = _ from hd 2 (by decide), show vs 3 = _ from hd 3 (by decide)]
    clear hd
    replace X2 := X2.below hJ
    replace X3 := X3.below hJ
    replace HB := Lib.hid (bt HB.out hJ)
    refine Jo.jdone (by kernel_rfl) ?_
    go_wp2
    go_ret
    exact ⟨rfl, HB.out⟩
  · obtain ⟨rfl, a1, b1, o1, o1l, o1h⟩ := v1
    go_wp2
    refine Jo.region_joint (T := [0, 1, 2, 3]) (ds := [some 10, some 11, some 12, some 9]) (ls := [[], [], [0, 1], [2]]) (k := 4) (L := [(some 10, 0), (some 11, 1), (some 12, 2), (some 9, 3)]) (fuel := 0) (J := fun wj => Below (World.heap w4).size w4 wj)
      (F := [Jo.Fact.eq (.agg #[.bool false, .int .i64 K1, .bool s1, .int .u64 M1, .int .i64 E1, .int .i64 K1b, .bool s1b, .int .u64 M1b, .int .i64 E1b]), Jo.Fact.eq (.agg #[.bool true, .int .i64 0, .bool false, .int .u64 0, .int .i64 0, .int .i64 0, .bool false, .int .u64 0, .int .i64 0]), Jo.Fact.eq (.bool false), Jo.Fact.eq (.bool false)])
      (by kernel_rfl) (by kernel_rfl) (by decide) rfl rfl (fun _ _ h b => bt h b) ((Below.refl _ _).drew) ?_ (fun vs w5 hJ hd => ?_)
    · refine Jo.jd 0 (some 10) [] (Jo.Fact.eq (.agg #[.bool false, .int .i64 K1, .bool s1, .int .u64 M1, .int .i64 E1, .int .i64 K1b, .bool s1b, .int .u64 M1b, .int .i64 E1b])) rfl rfl rfl rfl (fun vs wj hJ hd K hK => ?_) ?_
      · simp only [Jo.putl, Jo.ze, Act.put, Jo.za, Jo.zb, Jo.zc] at hK ⊢
        clear hd
        have xX20 := (X2.below hJ).a 0 (.bool false) rfl
        have xX21 := (X2.below hJ).a 1 (.int .i64 K1) rfl
        have xX22 := (X2.below hJ).a 2 (.bool s1) rfl
        have xX23 := (X2.below hJ).a 3 (.int .u64 M1) rfl
        have xX24 := (X2.below hJ).a 4 (.int .i64 E1) rfl
        have xX25 := (X2.below hJ).a 5 (.int .i64 K1b) rfl
        have xX26 := (X2.below hJ).a 6 (.bool s1b) rfl
        have xX27 := (X2.below hJ).a 7 (.int .u64 M1b) rfl
        have xX28 := (X2.below hJ).a 8 (.int .i64 E1b) rfl
        go_simp
        exact hK.out _ _ rfl (Below.refl _ _)
      refine Jo.jd 1 (some 11) [] (Jo.Fact.eq (.agg #[.bool true, .int .i64 0, .bool false, .int .u64 0, .int .i64 0, .int .i64 0, .bool false, .int .u64 0, .int .i64 0])) rfl rfl rfl rfl (fun vs wj hJ hd K hK => ?_) ?_
      · simp only [Jo.putl, Jo.ze, Act.put, Jo.za, Jo.zb, Jo.zc] at hK ⊢
        clear hd
        go_simp
        refine (kvNoneE).mono ?_
        rintro ee wk ⟨rfl, B⟩
        exact hK.out _ _ rfl B
      refine Jo.jd 2 (some 12) [(some 10, 0), (some 11, 1)] (Jo.Fact.eq (.bool false)) rfl rfl rfl rfl (fun vs wj hJ hd K hK => ?_) ?_
      · simp only [Jo.putl, Jo.zd, Jo.ze, Act.put, Jo.za, Jo.zb, Jo.zc] at hK ⊢
        rw [show vs 0 = _ from hd 0 (by decide), show vs 1 = _ from hd 1 (by decide)] at hK ⊢
        clear hd
        go_simp
        repeat' split
        all_goals exact hK.out _ _ (congrArg Value.bool (by first | rfl | (exfalso; simp_all))) (Below.refl _ _)
      refine Jo.jd 3 (some 9) [(some 12, 2)] (Jo.Fact.eq (.bool false)) rfl rfl rfl rfl (fun vs wj hJ hd K hK => ?_) ?_
      · simp only [Jo.putl, Jo.zd, Jo.ze, Act.put, Jo.za, Jo.zb, Jo.zc] at hK ⊢
        rw [show vs 2 = _ from hd 2 (by decide)] at hK ⊢
        clear hd
        go_simp
        exact hK.out _ _ rfl (Below.refl _ _)
      exact Jo.Steps.nil
    simp only [Jo.putl, Jo.zd, Jo.ze, Act.put, Jo.za, Jo.zb, Jo.zc]
    rw [show vs 0 = _ from hd 0 (by decide), show vs 1 = _ from hd 1 (by decide), show vs 2 = _ from hd 2 (by decide), show vs 3 = _ from hd 3 (by decide)]
    clear hd
    replace X2 := X2.below hJ
    replace X3 := X3.below hJ
    replace HB := Lib.hid (bt HB.out hJ)
    refine Jo.jdone (by kernel_rfl) ?_
    rcases y with _ | ⟨ya, yb⟩
    · obtain ⟨rfl, y6, y6b⟩ := v6
      obtain rfl : false = r := hr
      obtain ⟨_, rfl, rfl, rfl, rfl, rfl, rfl, rfl, rfl⟩ := (show Ci true K6 s6 M6 E6 K6b s6b M6b E6b none from ⟨rfl, y6, y6b⟩).uniq Ci.none
      clear y6 y6b
      go_wp2
      refine Jo.region_joint (T := [0, 1, 2, 3]) (ds := [some 14, some 15, some 16, some 13]) (ls := [[], [], [0, 1], [2]]) (k := 4) (L := [(some 14, 0), (some 15, 1), (some 16, 2), (some 13, 3)]) (fuel := 0) (J := fun wj => Below (World.heap w5).size w5 wj)
        (F := [Jo.Fact.eq (.agg #[.bool true, .int .i64 0, .bool false, .int .u64 0, .int .i64 0, .int .i64 0, .bool false, .int .u64 0, .int .i64 0]), Jo.Fact.eq (.agg #[.bool true, .int .i64 0, .bool false, .int .u64 0, .int .i64 0, .int .i64 0, .bool false, .int .u64 0, .int .i64 0]), Jo.Fact.eq (.bool true), Jo.Fact.eq (.bool true)])
        (by kernel_rfl) (by kernel_rfl) (by decide) rfl rfl (fun _ _ h b => bt h b) ((Below.refl _ _).drew) ?_ (fun vs w6 hJ hd => ?_)
      · refine Jo.jd 0 (some 14) [] (Jo.Fact.eq (.agg #[.bool true, .int .i64 0, .bool false, .int .u64 0, .int .i64 0, .int .i64 0, .bool false, .int .u64 0, .int .i64 0])) rfl rfl rfl rfl (fun vs wj hJ hd K hK => ?_) ?_
        · simp only [Jo.putl, Jo.ze, Act.put, Jo.za, Jo.zb, Jo.zc] at hK ⊢
          clear hd
          have xX30 := (X3.below hJ).a 0 (.bool true) rfl
          have xX31 := (X3.below hJ).a 1 (.int .i64 0) rfl
          have xX32 := (X3.below hJ).a 2 (.bool false) rfl
          have xX33 := (X3.below hJ).a 3 (.int .u64 0) rfl
          have xX34 := (X3.below hJ).a 4 (.int .i64 0) rfl
          have xX35 := (X3.below hJ).a 5 (.int .i64 0) rfl
          have xX36 := (X3.below hJ).a 6 (.bool false) rfl
          have xX37 := (X3.below hJ).a 7 (.int .u64 0) rfl
          have xX38 := (X3.below hJ).a 8 (.int .i64 0) rfl
          go_simp
          exact hK.out _ _ rfl (Below.refl _ _)
        refine Jo.jd 1 (some 15) [] (Jo.Fact.eq (.agg #[.bool true, .int .i64 0, .bool false, .int .u64 0, .int .i64 0, .int .i64 0, .bool false, .int .u64 0, .int .i64 0])) rfl rfl rfl rfl (fun vs wj hJ hd K hK => ?_) ?_
        · simp only [Jo.putl, Jo.ze, Act.put, Jo.za, Jo.zb, Jo.zc] at hK ⊢
          clear hd
          go_simp
          refine (kvNoneE).mono ?_
          rintro ee wk ⟨rfl, B⟩
          exact hK.out _ _ rfl B
        refine Jo.jd 2 (some 16) [(some 14, 0), (some 15, 1)] (Jo.Fact.eq (.bool true)) rfl rfl rfl rfl (fun vs wj hJ hd K hK => ?_) ?_
        · simp only [Jo.putl, Jo.zd, Jo.ze, Act.put, Jo.za, Jo.zb, Jo.zc] at hK ⊢
          rw [show vs 0 = _ from hd 0 (by decide), show vs 1 = _ from hd 1 (by decide)] at hK ⊢
          clear hd
          go_simp
          repeat' split
          all_goals exact hK.out _ _ (congrArg Value.bool (by first | rfl | (exfalso; simp_all) | simp_all)) (Below.refl _ _)
        refine Jo.jd 3 (some 13) [(some 16, 2)] (Jo.Fact.eq (.bool true)) rfl rfl rfl rfl (fun vs wj hJ hd K hK => ?_) ?_
        · simp only [Jo.putl, Jo.zd, Jo.ze, Act.put, Jo.za, Jo.zb, Jo.zc] at hK ⊢
          rw [show vs 2 = _ from hd 2 (by decide)] at hK ⊢
          clear hd
          go_simp
          exact hK.out _ _ rfl (Below.refl _ _)
        exact Jo.Steps.nil
      simp only [Jo.putl, Jo.zd, Jo.ze, Act.put, Jo.za, Jo.zb, Jo.zc]
      rw [show vs 0 = _ from hd 0 (by decide), show vs 1 = _ from hd 1 (by decide), show vs 2 = _ from hd 2 (by decide), show vs 3 = _ from hd 3 (by decide)]
      clear hd
      replace X2 := X2.below hJ
      replace X3 := X3.below hJ
      replace HB := Lib.hid (bt HB.out hJ)
      refine Jo.jdone (by kernel_rfl) ?_
      go_wp2
      go_ret
      exact ⟨rfl, HB.out⟩
    · obtain ⟨rfl, a6, b6, o6, o6l, o6h⟩ := v6
      go_wp2
      refine Jo.region_joint (T := [0, 1, 2, 3]) (ds := [some 14, some 15, some 16, some 13]) (ls := [[], [], [0, 1], [2]]) (k := 4) (L := [(some 14, 0), (some 15, 1), (some 16, 2), (some 13, 3)]) (fuel := 0) (J := fun wj => Below (World.heap w5).size w5 wj)
        (F := [Jo.Fact.eq (.agg #[.bool false, .int .i64 K6, .bool s6, .int .u64 M6, .int .i64 E6, .int .i64 K6b, .bool s6b, .int .u64 M6b, .int .i64 E6b]), Jo.Fact.eq (.agg #[.bool true, .int .i64 0, .bool false, .int .u64 0, .int .i64 0, .int .i64 0, .bool false, .int .u64 0, .int .i64 0]), Jo.Fact.eq (.bool false), Jo.Fact.eq (.bool false)])
        (by kernel_rfl) (by kernel_rfl) (by decide) rfl rfl (fun _ _ h b => bt h b) ((Below.refl _ _).drew) ?_ (fun vs w6 hJ hd => ?_)
      · refine Jo.jd 0 (some 14) [] (Jo.Fact.eq (.agg #[.bool false, .int .i64 K6, .bool s6, .int .u64 M6, .int .i64 E6, .int .i64 K6b, .bool s6b, .int .u64 M6b, .int .i64 E6b])) rfl rfl rfl rfl (fun vs wj hJ hd K hK => ?_) ?_
        · simp only [Jo.putl, Jo.ze, Act.put, Jo.za, Jo.zb, Jo.zc] at hK ⊢
          clear hd
          have xX30 := (X3.below hJ).a 0 (.bool false) rfl
          have xX31 := (X3.below hJ).a 1 (.int .i64 K6) rfl
          have xX32 := (X3.below hJ).a 2 (.bool s6) rfl
          have xX33 := (X3.below hJ).a 3 (.int .u64 M6) rfl
          have xX34 := (X3.below hJ).a 4 (.int .i64 E6) rfl
          have xX35 := (X3.below hJ).a 5 (.int .i64 K6b) rfl
          have xX36 := (X3.below hJ).a 6 (.bool s6b) rfl
          have xX37 := (X3.below hJ).a 7 (.int .u64 M6b) rfl
          have xX38 := (X3.below hJ).a 8 (.int .i64 E6b) rfl
          go_simp
          exact hK.out _ _ rfl (Below.refl _ _)
        refine Jo.jd 1 (some 15) [] (Jo.Fact.eq (.agg #[.bool true, .int .i64 0, .bool false, .int .u64 0, .int .i64 0, .int .i64 0, .bool false, .int .u64 0, .int .i64 0])) rfl rfl rfl rfl (fun vs wj hJ hd K hK => ?_) ?_
        · simp only [Jo.putl, Jo.ze, Act.put, Jo.za, Jo.zb, Jo.zc] at hK ⊢
          clear hd
          go_simp
          refine (kvNoneE).mono ?_
          rintro ee wk ⟨rfl, B⟩
          exact hK.out _ _ rfl B
        refine Jo.jd 2 (some 16) [(some 14, 0), (some 15, 1)] (Jo.Fact.eq (.bool false)) rfl rfl rfl rfl (fun vs wj hJ hd K hK => ?_) ?_
        · simp only [Jo.putl, Jo.zd, Jo.ze, Act.put, Jo.za, Jo.zb, Jo.zc] at hK ⊢
          rw [show vs 0 = _ from hd 0 (by decide), show vs 1 = _ from hd 1 (by decide)] at hK ⊢
          clear hd
          go_simp
          repeat' split
          all_goals exact hK.out _ _ (congrArg Value.bool (by first | rfl | (exfalso; simp_all))) (Below.refl _ _)
        refine Jo.jd 3 (some 13) [(some 16, 2)] (Jo.Fact.eq (.bool false)) rfl rfl rfl rfl (fun vs wj hJ hd K hK => ?_) ?_
        · simp only [Jo.putl, Jo.zd, Jo.ze, Act.put, Jo.za, Jo.zb, Jo.zc] at hK ⊢
          rw [show vs 2 = _ from hd 2 (by decide)] at hK ⊢
          clear hd
          go_simp
          exact hK.out _ _ rfl (Below.refl _ _)
        exact Jo.Steps.nil
      simp only [Jo.putl, Jo.zd, Jo.ze, Act.put, Jo.za, Jo.zb, Jo.zc]
      rw [show vs 0 = _ from hd 0 (by decide), show vs 1 = _ from hd 1 (by decide), show vs 2 = _ from hd 2 (by decide), show vs 3 = _ from hd 3 (by decide)]
      clear hd
      replace X2 := X2.below hJ
      replace X3 := X3.below hJ
      replace HB := Lib.hid (bt HB.out hJ)
      refine Jo.jdone (by kernel_rfl) ?_
      have hr2 : (decide (ya ≤ xa) && decide (xb ≤ yb)) = r := hr
      clear hr
      cases hk1 : decide (ya ≤ xa)
      · rw [hk1] at hr2
        obtain rfl : false = r := hr2
        obtain ⟨c1, hc1⟩ : ∃ c, cmpI xa ya = c := ⟨_, rfl⟩
        have ht1 := cmp_geE hc1
        rw [hk1] at ht1
        have HC1 : Hid (cmpI (rk K1 s1 M1 E1) (rk K6 s6 M6 E6) = c1) := Lib.hid (by rw [a1.rk, a6.rk]; exact hc1)
        clear hc1 hk1
        obtain ⟨xX20, xX21, xX22, xX23, xX24, xX25, xX26, xX27, xX28⟩ := X2.ce9 rfl rfl rfl rfl rfl rfl rfl rfl rfl
        obtain ⟨xX30, xX31, xX32, xX33, xX34, xX35, xX36, xX37, xX38⟩ := X3.ce9 rfl rfl rfl rfl rfl rfl rfl rfl rfl
        go_wp2_with fail
        refine (nCmp a1.top a6.top HC1.out).mono ?_
        rintro ee w7 ⟨rfl, B⟩
        clear xX20 xX21 xX22 xX23 xX24 xX25 xX26 xX27 xX28 xX30 xX31 xX32 xX33 xX34 xX35 xX36 xX37 xX38
        replace X2 := X2.below B
        replace X3 := X3.below B
        replace HB := Lib.hid (bt HB.out B)
        clear B
        go_wp2
        go_ret
        exact ⟨rfl, HB.out⟩
      · rw [hk1] at hr2
        obtain ⟨z, hk3⟩ : ∃ z, decide (xb ≤ yb) = z := ⟨_, rfl⟩
        rw [hk3] at hr2
        obtain rfl : z = r := hr2
        obtain ⟨c1, hc1⟩ : ∃ c, cmpI xa ya = c := ⟨_, rfl⟩
        have ht1 := cmp_geE hc1
        rw [hk1] at ht1
        have HC1 : Hid (cmpI (rk K1 s1 M1 E1) (rk K6 s6 M6 E6) = c1) := Lib.hid (by rw [a1.rk, a6.rk]; exact hc1)
        clear hc1 hk1
        obtain ⟨xX20, xX21, xX22, xX23, xX24, xX25, xX26, xX27, xX28⟩ := X2.ce9 rfl rfl rfl rfl rfl rfl rfl rfl rfl
        obtain ⟨xX30, xX31, xX32, xX33, xX34, xX35, xX36, xX37, xX38⟩ := X3.ce9 rfl rfl rfl rfl rfl rfl rfl rfl rfl
        go_wp2_with fail
        refine (nCmp a1.top a6.top HC1.out).mono ?_
        rintro ee w7 ⟨rfl, B⟩
        clear xX20 xX21 xX22 xX23 xX24 xX25 xX26 xX27 xX28 xX30 xX31 xX32 xX33 xX34 xX35 xX36 xX37 xX38
        replace X2 := X2.below B
        replace X3 := X3.below B
        replace HB := Lib.hid (bt HB.out B)
        clear B
        obtain ⟨c3, hc3⟩ : ∃ c, cmpI xb yb = c := ⟨_, rfl⟩
        have ht3 := cmp_le hc3
        rw [hk3] at ht3
        have HC3 : Hid (cmpI (rk K1b s1b M1b E1b) (rk K6b s6b M6b E6b) = c3) := Lib.hid (by rw [b1.rk, b6.rk]; exact hc3)
        clear hc3 hk3
        obtain ⟨xX20, xX21, xX22, xX23, xX24, xX25, xX26, xX27, xX28⟩ := X2.ce9 rfl rfl rfl rfl rfl rfl rfl rfl rfl
        obtain ⟨xX30, xX31, xX32, xX33, xX34, xX35, xX36, xX37, xX38⟩ := X3.ce9 rfl rfl rfl rfl rfl rfl rfl rfl rfl
        go_wp2_with fail
        refine (nCmp b1.top b6.top HC3.out).mono ?_
        rintro ee w8 ⟨rfl, B⟩
        clear xX20 xX21 xX22 xX23 xX24 xX25 xX26 xX27 xX28 xX30 xX31 xX32 xX33 xX34 xX35 xX36 xX37 xX38
        replace X2 := X2.below B
        replace X3 := X3.below B
        replace HB := Lib.hid (bt HB.out B)
        clear B
        go_wp2
        go_ret
        exact ⟨by first | rfl | (show Ending.returned (.bool _) = _; rw [ht3]), HB.out⟩
theorem has_pt {x : Sp} {n : Int} (h1 : -19342822337206103650074625 < n) (h2 : n < 19342822337206103650074625) : hasI x n = witI (some (n, n)) x := by
  have hi : infp n = false := by
    rcases h : infp n
    · rfl
    · have := TP_eq
      rcases infp_true h with e | e <;> omega
  rcases x with _ | ⟨a, b⟩
  · rfl
  · show (!infp n && decide (a ≤ n) && decide (n ≤ b)) = (decide (a ≤ n) && decide (n ≤ b))
    rw [hi]
    rfl
theorem has_inf {x : Sp} {n : Int} (h : ¬ (-19342822337206103650074625 < n ∧ n < 19342822337206103650074625)) (b1 : -19342822337206103650074625 ≤ n) (b2 : n ≤ 19342822337206103650074625) : hasI x n = false := by
  have hi : infp n = true := by
    rcases (by omega : n = -19342822337206103650074625 ∨ n = 19342822337206103650074625) with rfl | rfl <;> rfl
  rcases x with _ | ⟨a, b⟩
  · rfl
  · show (!infp n && decide (a ≤ n) && decide (n ≤ b)) = false
    rw [hi]
    rfl
theorem rk_bdn {D : Int} {s : Bool} {M E n : Int} (hM : M < 18446744073709551616) (h : rk D s M E = n) : -19342822337206103650074625 ≤ n ∧ n ≤ 19342822337206103650074625 := by
  by_cases hm : MayQ D s M E
  · have := (rk_fq hM hm).bd
    rw [h] at this
    exact this
  · rw [rk_not hm] at h
    omega
set_option maxHeartbeats 4000000 in
theorem kvHas {w : World} {e : Bool} {D M E D' M' E' : Int} {s s' : Bool} {G P Q : Int} {g : Bool} {x : Sp} {n : Int} {r : Bool} (hM : M < 18446744073709551616) (hM' : M' < 18446744073709551616) (hP : P < 18446744073709551616) (hx : rkI e D s M E D' s' M' E' = x) (hn : rk G g P Q = n) (hr : hasI x n = r) : Calls Try.prog 13 #[.agg #[.bool e, .int .i64 D, .bool s, .int .u64 M, .int .i64 E, .int .i64 D', .bool s', .int .u64 M', .int .i64 E'], .agg #[.int .i64 G, .bool g, .int .u64 P, .int .i64 Q]] w (PB w r) := by
  have hbd := rk_bdn hP hn
  have HX := Lib.hid hx
  have HN := Lib.hid hn
  clear hx hn
  by_cases hin : -19342822337206103650074625 < n ∧ n < 19342822337206103650074625
  · have HR := Lib.hid ((has_pt hin.1 hin.2).symm.trans hr)
    have HI := Lib.hid (mkI_some (a := n) (b := n) (by omega) hin.2 hin.1)
    clear hr hbd
    go_enter Try.func13, Try.ntmps13
    go_upto_region 1 with (fail)
    have X2 := (Bo.newAt w (g := w.heap.size) (by simp) #[.bool e, .int .i64 D, .bool s, .int .u64 M, .int .i64 E, .int .i64 D', .bool s', .int .u64 M', .int .i64 E'] 26).below (bel1 _ (.cells #[.int .i64 G, .bool g, .int .u64 P, .int .i64 Q] 24))
    have X3 := (Bo.newAt (w.alloc (.cells #[.bool e, .int .i64 D, .bool s, .int .u64 M, .int .i64 E, .int .i64 D', .bool s', .int .u64 M', .int .i64 E'] 26)) (g := w.heap.size + 1) (by simp) #[.int .i64 G, .bool g, .int .u64 P, .int .i64 Q] 24)
    have HB := Lib.hid (bel2 w (.cells #[.bool e, .int .i64 D, .bool s, .int .u64 M, .int .i64 E, .int .i64 D', .bool s', .int .u64 M', .int .i64 E'] 26) (.cells #[.int .i64 G, .bool g, .int .u64 P, .int .i64 Q] 24))
    generalize hW1 : ((w.alloc (.cells #[.bool e, .int .i64 D, .bool s, .int .u64 M, .int .i64 E, .int .i64 D', .bool s', .int .u64 M', .int .i64 E'] 26)).alloc (.cells #[.int .i64 G, .bool g, .int .u64 P, .int .i64 Q] 24)) = w1 at *
    clear hW1
    obtain ⟨xX30, xX31, xX32, xX33⟩ := X3.ce4 rfl rfl rfl rfl
    go_wp2_with fail
    refine (kvPoint hP HN.out HI.out).mono ?_
    rintro ee w2 ⟨e1, K1, s1, M1, E1, K1b, s1b, M1b, E1b, rfl, v1, B⟩
    clear xX30 xX31 xX32 xX33
    replace X2 := X2.below B
    replace X3 := X3.below B
    replace HB := Lib.hid (bt HB.out B)
    clear B
    go_upto_region 2 with (fail)
    have lX5 := Nat.le_refl (World.heap w2).size
    have nX5X2 := X2.lt
    have nX5X3 := X3.lt
    replace X2 := X2.below (bel1 _ (.cells #[.bool e1, .int .i64 K1, .bool s1, .int .u64 M1, .int .i64 E1, .int .i64 K1b, .bool s1b, .int .u64 M1b, .int .i64 E1b] 26))
    replace X3 := X3.below (bel1 _ (.cells #[.bool e1, .int .i64 K1, .bool s1, .int .u64 M1, .int .i64 E1, .int .i64 K1b, .bool s1b, .int .u64 M1b, .int .i64 E1b] 26))
    replace HB := Lib.hid (bt HB.out (bel1 _ (.cells #[.bool e1, .int .i64 K1, .bool s1, .int .u64 M1, .int .i64 E1, .int .i64 K1b, .bool s1b, .int .u64 M1b, .int .i64 E1b] 26)))
    have X5 := Bo.new w2 #[.bool e1, .int .i64 K1, .bool s1, .int .u64 M1, .int .i64 E1, .int .i64 K1b, .bool s1b, .int .u64 M1b, .int .i64 E1b] 26
    generalize hWn : World.alloc w2 (.cells #[.bool e1, .int .i64 K1, .bool s1, .int .u64 M1, .int .i64 E1, .int .i64 K1b, .bool s1b, .int .u64 M1b, .int .i64 E1b] 26) = w3 at *
    clear hWn
    clear lX5
    have e1f := v1.1
    subst e1f
    refine Jo.region_joint (T := [0, 1, 2, 3, 4, 5, 6, 7, 8]) (ds := [some 8, some 9, some 10, some 11, some 12, some 13, some 14, some 15, some 4]) (ls := [[], [], [0, 1], [2], [3], [3], [3, 4, 5], [3, 6], [7]]) (k := 9) (L := [(some 8, 0), (some 9, 1), (some 10, 2), (some 11, 3), (some 12, 4), (some 13, 5), (some 14, 6), (some 15, 7), (some 4, 8)]) (fuel := 0) (J := fun wj => Below (World.heap w3).size w3 wj)
      (F := [Jo.Fact.eq (.agg #[.bool false, .int .i64 K1, .bool s1, .int .u64 M1, .int .i64 E1, .int .i64 K1b, .bool s1b, .int .u64 M1b, .int .i64 E1b]), Jo.Fact.eq (.agg #[.bool true, .int .i64 0, .bool false, .int .u64 0, .int .i64 0, .int .i64 0, .bool false, .int .u64 0, .int .i64 0]), Jo.Fact.eq (.bool true), Jo.Fact.eq (.bool true), Jo.Fact.eq (.agg #[.bool false, .int .i64 K1, .bool s1, .int .u64 M1, .int .i64 E1, .int .i64 K1b, .bool s1b, .int .u64 M1b, .int .i64 E1b]), Jo.Fact.eq (.agg #[.bool e, .int .i64 D, .bool s, .int .u64 M, .int .i64 E, .int .i64 D', .bool s', .int .u64 M', .int .i64 E']), Jo.Fact.eq (.bool r), Jo.Fact.eq (.bool r), Jo.Fact.eq (.bool r)])
      (by kernel_rfl) (by kernel_rfl) (by decide) rfl rfl (fun _ _ h b => bt h b) ((Below.refl _ _).drew) ?_ (fun vs w8 hJ hd => ?_)
    · refine Jo.jd 0 (some 8) [] (Jo.Fact.eq (.agg #[.bool false, .int .i64 K1, .bool s1, .int .u64 M1, .int .i64 E1, .int .i64 K1b, .bool s1b, .int .u64 M1b, .int .i64 E1b])) rfl rfl rfl rfl (fun vs wj hJ hd K hK => ?_) ?_
      · simp only [Jo.putl, Jo.ze, Act.put, Jo.za, Jo.zb, Jo.zc] at hK ⊢
        clear hd
        have xX50 := (X5.below hJ).a 0 (.bool false) rfl
        have xX51 := (X5.below hJ).a 1 (.int .i64 K1) rfl
        have xX52 := (X5.below hJ).a 2 (.bool s1) rfl
        have xX53 := (X5.below hJ).a 3 (.int .u64 M1) rfl
        have xX54 := (X5.below hJ).a 4 (.int .i64 E1) rfl
        have xX55 := (X5.below hJ).a 5 (.int .i64 K1b) rfl
        have xX56 := (X5.below hJ).a 6 (.bool s1b) rfl
        have xX57 := (X5.below hJ).a 7 (.int .u64 M1b) rfl
        have xX58 := (X5.below hJ).a 8 (.int .i64 E1b) rfl
        go_simp
        exact hK.out _ _ rfl (Below.refl _ _)
      refine Jo.jd 1 (some 9) [] (Jo.Fact.eq (.agg #[.bool true, .int .i64 0, .bool false, .int .u64 0, .int .i64 0, .int .i64 0, .bool false, .int .u64 0, .int .i64 0])) rfl rfl rfl rfl (fun vs wj hJ hd K hK => ?_) ?_
      · simp only [Jo.putl, Jo.ze, Act.put, Jo.za, Jo.zb, Jo.zc] at hK ⊢
        clear hd
        go_simp
        refine (kvNoneE).mono ?_
        rintro ee wk ⟨rfl, B⟩
        exact hK.out _ _ rfl B
      refine Jo.jd 2 (some 10) [(some 8, 0), (some 9, 1)] (Jo.Fact.eq (.bool true)) rfl rfl rfl rfl (fun vs wj hJ hd K hK => ?_) ?_
      · simp only [Jo.putl, Jo.zd, Jo.ze, Act.put, Jo.za, Jo.zb, Jo.zc] at hK ⊢
        rw [show vs 0 = _ from hd 0 (by decide), show vs 1 = _ from hd 1 (by decide)] at hK ⊢
        clear hd
        go_simp
        repeat' split
        all_goals exact hK.out _ _ (congrArg Value.bool (by first | rfl | (exfalso; simp_all) | simp_all)) (Below.refl _ _)
      refine Jo.jd 3 (some 11) [(some 10, 2)] (Jo.Fact.eq (.bool true)) rfl rfl rfl rfl (fun vs wj hJ hd K hK => ?_) ?_
      · simp only [Jo.putl, Jo.zd, Jo.ze, Act.put, Jo.za, Jo.zb, Jo.zc] at hK ⊢
        rw [show vs 2 = _ from hd 2 (by decide)] at hK ⊢
        clear hd
        go_simp
        exact hK.out _ _ rfl (Below.refl _ _)
      refine Jo.jd 4 (some 12) [(some 11, 3)] (Jo.Fact.eq (.agg #[.bool false, .int .i64 K1, .bool s1, .int .u64 M1, .int .i64 E1, .int .i64 K1b, .bool s1b, .int .u64 M1b, .int .i64 E1b])) rfl rfl rfl rfl (fun vs wj hJ hd K hK => ?_) ?_
      · simp only [Jo.putl, Jo.zd, Jo.ze, Act.put, Jo.za, Jo.zb, Jo.zc] at hK ⊢
        rw [show vs 3 = _ from hd 3 (by decide)] at hK ⊢
        clear hd
        have xX50 := (X5.below hJ).a 0 (.bool false) rfl
        have xX51 := (X5.below hJ).a 1 (.int .i64 K1) rfl
        have xX52 := (X5.below hJ).a 2 (.bool s1) rfl
        have xX53 := (X5.below hJ).a 3 (.int .u64 M1) rfl
        have xX54 := (X5.below hJ).a 4 (.int .i64 E1) rfl
        have xX55 := (X5.below hJ).a 5 (.int .i64 K1b) rfl
        have xX56 := (X5.below hJ).a 6 (.bool s1b) rfl
        have xX57 := (X5.below hJ).a 7 (.int .u64 M1b) rfl
        have xX58 := (X5.below hJ).a 8 (.int .i64 E1b) rfl
        go_simp
        exact hK.out _ _ rfl (Below.refl _ _)
      refine Jo.jd 5 (some 13) [(some 11, 3)] (Jo.Fact.eq (.agg #[.bool e, .int .i64 D, .bool s, .int .u64 M, .int .i64 E, .int .i64 D', .bool s', .int .u64 M', .int .i64 E'])) rfl rfl rfl rfl (fun vs wj hJ hd K hK => ?_) ?_
      · simp only [Jo.putl, Jo.zd, Jo.ze, Act.put, Jo.za, Jo.zb, Jo.zc] at hK ⊢
        rw [show vs 3 = _ from hd 3 (by decide)] at hK ⊢
        clear hd
        have xX20 := (X2.below hJ).a 0 (.bool e) rfl
        have xX21 := (X2.below hJ).a 1 (.int .i64 D) rfl
        have xX22 := (X2.below hJ).a 2 (.bool s) rfl
        have xX23 := (X2.below hJ).a 3 (.int .u64 M) rfl
        have xX24 := (X2.below hJ).a 4 (.int .i64 E) rfl
        have xX25 := (X2.below hJ).a 5 (.int .i64 D') rfl
        have xX26 := (X2.below hJ).a 6 (.bool s') rfl
        have xX27 := (X2.below hJ).a 7 (.int .u64 M') rfl
        have xX28 := (X2.below hJ).a 8 (.int .i64 E') rfl
        go_simp
        exact hK.out _ _ rfl (Below.refl _ _)
      refine Jo.jd 6 (some 14) [(some 11, 3), (some 12, 4), (some 13, 5)] (Jo.Fact.eq (.bool r)) rfl rfl rfl rfl (fun vs wj hJ hd K hK => ?_) ?_
      · simp only [Jo.putl, Jo.zd, Jo.ze, Act.put, Jo.za, Jo.zb, Jo.zc] at hK ⊢
        rw [show vs 3 = _ from hd 3 (by decide), show vs 4 = _ from hd 4 (by decide), show vs 5 = _ from hd 5 (by decide)] at hK ⊢
        clear hd
        go_simp
        refine (kvWithin v1.top.1 v1.top.2 hM hM' v1.rk HX.out HR.out).mono ?_
        rintro ee wk ⟨rfl, B⟩
        exact hK.out _ _ rfl B
      refine Jo.jd 7 (some 15) [(some 11, 3), (some 14, 6)] (Jo.Fact.eq (.bool r)) rfl rfl rfl rfl (fun vs wj hJ hd K hK => ?_) ?_
      · simp only [Jo.putl, Jo.zd, Jo.ze, Act.put, Jo.za, Jo.zb, Jo.zc] at hK ⊢
        rw [show vs 3 = _ from hd 3 (by decide), show vs 6 = _ from hd 6 (by decide)] at hK ⊢
        clear hd
        go_simp
        exact hK.out _ _ rfl (Below.refl _ _)
      refine Jo.jd 8 (some 4) [(some 15, 7)] (Jo.Fact.eq (.bool r)) rfl rfl rfl rfl (fun vs wj hJ hd K hK => ?_) ?_
      · simp only [Jo.putl, Jo.zd, Jo.ze, Act.put, Jo.za, Jo.zb, Jo.zc] at hK ⊢
        rw [show vs 7 = _ from hd 7 (by decide)] at hK ⊢
        clear hd
        go_simp
        exact hK.out _ _ rfl (Below.refl _ _)
      exact Jo.Steps.nil
    simp only [Jo.putl, Jo.zd, Jo.ze, Act.put, Jo.za, Jo.zb, Jo.zc]
    rw [show vs 0 = _ from hd 0 (by decide), show vs 1 = _ from hd 1 (by decide), show vs 2 = _ from hd 2 (by decide), show vs 3 = _ from hd 3 (by decide), show vs 4 = _ from hd 4 (by decide), show vs 5 = _ from hd 5 (by decide), show vs 6 = _ from hd 6 (by decide), show vs 7 = _ from hd 7 (by decide), show vs 8 = _ from hd 8 (by decide)]
    clear hd
    replace X2 := X2.below hJ
    replace X3 := X3.below hJ
    replace X5 := X5.below hJ
    replace HB := Lib.hid (bt HB.out hJ)
    refine Jo.jdone (by kernel_rfl) ?_
    go_wp2
    go_ret
    exact ⟨rfl, HB.out⟩
  · have hf := has_inf (x := x) hin hbd.1 hbd.2
    obtain rfl : false = r := hf.symm.trans hr
    have HI : Hid (mkI n n = none) := Lib.hid (mkI_none (by omega))
    clear hr hbd hf
    go_enter Try.func13, Try.ntmps13
    go_upto_region 1 with (fail)
    have X2 := (Bo.newAt w (g := w.heap.size) (by simp) #[.bool e, .int .i64 D, .bool s, .int .u64 M, .int .i64 E, .int .i64 D', .bool s', .int .u64 M', .int .i64 E'] 26).below (bel1 _ (.cells #[.int .i64 G, .bool g, .int .u64 P, .int .i64 Q] 24))
    have X3 := (Bo.newAt (w.alloc (.cells #[.bool e, .int .i64 D, .bool s, .int .u64 M, .int .i64 E, .int .i64 D', .bool s', .int .u64 M', .int .i64 E'] 26)) (g := w.heap.size + 1) (by simp) #[.int .i64 G, .bool g, .int .u64 P, .int .i64 Q] 24)
    have HB := Lib.hid (bel2 w (.cells #[.bool e, .int .i64 D, .bool s, .int .u64 M, .int .i64 E, .int .i64 D', .bool s', .int .u64 M', .int .i64 E'] 26) (.cells #[.int .i64 G, .bool g, .int .u64 P, .int .i64 Q] 24))
    generalize hW1 : ((w.alloc (.cells #[.bool e, .int .i64 D, .bool s, .int .u64 M, .int .i64 E, .int .i64 D', .bool s', .int .u64 M', .int .i64 E'] 26)).alloc (.cells #[.int .i64 G, .bool g, .int .u64 P, .int .i64 Q] 24)) = w1 at *
    clear hW1
    obtain ⟨xX30, xX31, xX32, xX33⟩ := X3.ce4 rfl rfl rfl rfl
    go_wp2_with fail
    refine (kvPoint hP HN.out HI.out).mono ?_
    rintro ee w2 ⟨e1, K1, s1, M1, E1, K1b, s1b, M1b, E1b, rfl, v1, B⟩
    clear xX30 xX31 xX32 xX33
    replace X2 := X2.below B
    replace X3 := X3.below B
    replace HB := Lib.hid (bt HB.out B)
    clear B
    go_upto_region 2 with (fail)
    have lX5 := Nat.le_refl (World.heap w2).size
    have nX5X2 := X2.lt
    have nX5X3 := X3.lt
    replace X2 := X2.below (bel1 _ (.cells #[.bool e1, .int .i64 K1, .bool s1, .int .u64 M1, .int .i64 E1, .int .i64 K1b, .bool s1b, .int .u64 M1b, .int .i64 E1b] 26))
    replace X3 := X3.below (bel1 _ (.cells #[.bool e1, .int .i64 K1, .bool s1, .int .u64 M1, .int .i64 E1, .int .i64 K1b, .bool s1b, .int .u64 M1b, .int .i64 E1b] 26))
    replace HB := Lib.hid (bt HB.out (bel1 _ (.cells #[.bool e1, .int .i64 K1, .bool s1, .int .u64 M1, .int .i64 E1, .int .i64 K1b, .bool s1b, .int .u64 M1b, .int .i64 E1b] 26)))
    have X5 := Bo.new w2 #[.bool e1, .int .i64 K1, .bool s1, .int .u64 M1, .int .i64 E1, .int .i64 K1b, .bool s1b, .int .u64 M1b, .int .i64 E1b] 26
    generalize hWn : World.alloc w2 (.cells #[.bool e1, .int .i64 K1, .bool s1, .int .u64 M1, .int .i64 E1, .int .i64 K1b, .bool s1b, .int .u64 M1b, .int .i64 E1b] 26) = w3 at *
    clear hWn
    clear lX5
    obtain ⟨rfl, rfl, rfl, rfl, rfl, rfl, rfl, rfl, rfl⟩ := v1.uniq Ci.none
    refine Jo.region_joint (T := [0, 1, 2, 3, 4, 5, 6, 7, 8]) (ds := [some 8, some 9, some 10, some 11, some 12, some 13, some 14, some 15, some 4]) (ls := [[], [], [0, 1], [2], [3], [3], [3, 4, 5], [3, 6], [7]]) (k := 9) (L := [(some 8, 0), (some 9, 1), (some 10, 2), (some 11, 3), (some 12, 4), (some 13, 5), (some 14, 6), (some 15, 7), (some 4, 8)]) (fuel := 0) (J := fun wj => Below (World.heap w3).size w3 wj)
      (F := [Jo.Fact.eq (.agg #[.bool true, .int .i64 0, .bool false, .int .u64 0, .int .i64 0, .int .i64 0, .bool false, .int .u64 0, .int .i64 0]), Jo.Fact.eq (.agg #[.bool true, .int .i64 0, .bool false, .int .u64 0, .int .i64 0, .int .i64 0, .bool false, .int .u64 0, .int .i64 0]), Jo.Fact.eq (.bool false), Jo.Fact.eq (.bool false), Jo.Fact.eq undef, Jo.Fact.eq undef, Jo.Fact.eq undef, Jo.Fact.eq (.bool false), Jo.Fact.eq (.bool false)])
      (by kernel_rfl) (by kernel_rfl) (by decide) rfl rfl (fun _ _ h b => bt h b) ((Below.refl _ _).drew) ?_ (fun vs w8 hJ hd => ?_)
    · refine Jo.jd 0 (some 8) [] (Jo.Fact.eq (.agg #[.bool true, .int .i64 0, .bool false, .int .u64 0, .int .i64 0, .int .i64 0, .bool false, .int .u64 0, .int .i64 0])) rfl rfl rfl rfl (fun vs wj hJ hd K hK => ?_) ?_
      · simp only [Jo.putl, Jo.ze, Act.put, Jo.za, Jo.zb, Jo.zc] at hK ⊢
        clear hd
        have xX50 := (X5.below hJ).a 0 (.bool true) rfl
        have xX51 := (X5.below hJ).a 1 (.int .i64 0) rfl
        have xX52 := (X5.below hJ).a 2 (.bool false) rfl
        have xX53 := (X5.below hJ).a 3 (.int .u64 0) rfl
        have xX54 := (X5.below hJ).a 4 (.int .i64 0) rfl
        have xX55 := (X5.below hJ).a 5 (.int .i64 0) rfl
        have xX56 := (X5.below hJ).a 6 (.bool false) rfl
        have xX57 := (X5.below hJ).a 7 (.int .u64 0) rfl
        have xX58 := (X5.below hJ).a 8 (.int .i64 0) rfl
        go_simp
        exact hK.out _ _ rfl (Below.refl _ _)
      refine Jo.jd 1 (some 9) [] (Jo.Fact.eq (.agg #[.bool true, .int .i64 0, .bool false, .int .u64 0, .int .i64 0, .int .i64 0, .bool false, .int .u64 0, .int .i64 0])) rfl rfl rfl rfl (fun vs wj hJ hd K hK => ?_) ?_
      · simp only [Jo.putl, Jo.ze, Act.put, Jo.za, Jo.zb, Jo.zc] at hK ⊢
        clear hd
        go_simp
        refine (kvNoneE).mono ?_
        rintro ee wk ⟨rfl, B⟩
        exact hK.out _ _ rfl B
      refine Jo.jd 2 (some 10) [(some 8, 0), (some 9, 1)] (Jo.Fact.eq (.bool false)) rfl rfl rfl rfl (fun vs wj hJ hd K hK => ?_) ?_
      · simp only [Jo.putl, Jo.zd, Jo.ze, Act.put, Jo.za, Jo.zb, Jo.zc] at hK ⊢
        rw [show vs 0 = _ from hd 0 (by decide), show vs 1 = _ from hd 1 (by decide)] at hK ⊢
        clear hd
        go_simp
        repeat' split
        all_goals exact hK.out _ _ (congrArg Value.bool (by first | rfl | (exfalso; simp_all) | simp_all)) (Below.refl _ _)
      refine Jo.jd 3 (some 11) [(some 10, 2)] (Jo.Fact.eq (.bool false)) rfl rfl rfl rfl (fun vs wj hJ hd K hK => ?_) ?_
      · simp only [Jo.putl, Jo.zd, Jo.ze, Act.put, Jo.za, Jo.zb, Jo.zc] at hK ⊢
        rw [show vs 2 = _ from hd 2 (by decide)] at hK ⊢
        clear hd
        go_simp
        exact hK.out _ _ rfl (Below.refl _ _)
      refine Jo.jd 4 (some 12) [(some 11, 3)] (Jo.Fact.eq undef) rfl rfl rfl rfl (fun vs wj hJ hd K hK => ?_) ?_
      · simp only [Jo.putl, Jo.zd, Jo.ze, Act.put, Jo.za, Jo.zb, Jo.zc] at hK ⊢
        rw [show vs 3 = _ from hd 3 (by decide)] at hK ⊢
        clear hd
        go_simp
        exact hK.out _ _ rfl (Below.refl _ _)
      refine Jo.jd 5 (some 13) [(some 11, 3)] (Jo.Fact.eq undef) rfl rfl rfl rfl (fun vs wj hJ hd K hK => ?_) ?_
      · simp only [Jo.putl, Jo.zd, Jo.ze, Act.put, Jo.za, Jo.zb, Jo.zc] at hK ⊢
        rw [show vs 3 = _ from hd 3 (by decide)] at hK ⊢
        clear hd
        go_simp
        exact hK.out _ _ rfl (Below.refl _ _)
      refine Jo.jd 6 (some 14) [(some 11, 3), (some 12, 4), (some 13, 5)] (Jo.Fact.eq undef) rfl rfl rfl rfl (fun vs wj hJ hd K hK => ?_) ?_
      · have d4 : (Jo.Fact.eq undef).P (vs 4) wj := hd 4 (by decide)
        have d5 : (Jo.Fact.eq undef).P (vs 5) wj := hd 5 (by decide)
        simp only [Jo.putl, Jo.zd, Jo.ze, Act.put, Jo.za, Jo.zb, Jo.zc] at hK ⊢
        rw [show vs 3 = _ from hd 3 (by decide)] at hK ⊢
        clear hd
        generalize vs 4 = u4 at hK d4 ⊢
        generalize vs 5 = u5 at hK d5 ⊢
        replace d4 : u4 = _ := d4
        subst d4
        replace d5 : u5 = _ := d5
        subst d5
        go_simp
        exact hK.out _ _ rfl (Below.refl _ _)
      refine Jo.jd 7 (some 15) [(some 11, 3), (some 14, 6)] (Jo.Fact.eq (.bool false)) rfl rfl rfl rfl (fun vs wj hJ hd K hK => ?_) ?_
      · have d6 : (Jo.Fact.eq undef).P (vs 6) wj := hd 6 (by decide)
        simp only [Jo.putl, Jo.zd, Jo.ze, Act.put, Jo.za, Jo.zb, Jo.zc] at hK ⊢
        rw [show vs 3 = _ from hd 3 (by decide)] at hK ⊢
        clear hd
        generalize vs 6 = u6 at hK d6 ⊢
        replace d6 : u6 = _ := d6
        subst d6
        go_simp
        exact hK.out _ _ rfl (Below.refl _ _)
      refine Jo.jd 8 (some 4) [(some 15, 7)] (Jo.Fact.eq (.bool false)) rfl rfl rfl rfl (fun vs wj hJ hd K hK => ?_) ?_
      · simp only [Jo.putl, Jo.zd, Jo.ze, Act.put, Jo.za, Jo.zb, Jo.zc] at hK ⊢
        rw [show vs 7 = _ from hd 7 (by decide)] at hK ⊢
        clear hd
        go_simp
        exact hK.out _ _ rfl (Below.refl _ _)
      exact Jo.Steps.nil
    have d4 : (Jo.Fact.eq undef).P (vs 4) w8 := hd 4 (by decide)
    have d5 : (Jo.Fact.eq undef).P (vs 5) w8 := hd 5 (by decide)
    have d6 : (Jo.Fact.eq undef).P (vs 6) w8 := hd 6 (by decide)
    simp only [Jo.putl, Jo.zd, Jo.ze, Act.put, Jo.za, Jo.zb, Jo.zc]
    rw [show vs 0 = _ from hd 0 (by decide), show vs 1 = _ from hd 1 (by decide), show vs 2 = _ from hd 2 (by decide), show vs 3 = _ from hd 3 (by decide), show vs 7 = _ from hd 7 (by decide), show vs 8 = _ from hd 8 (by decide)]
    clear hd
    generalize vs 4 = u4 at d4 ⊢
    generalize vs 5 = u5 at d5 ⊢
    generalize vs 6 = u6 at d6 ⊢
    replace d4 : u4 = _ := d4
    subst d4
    replace d5 : u5 = _ := d5
    subst d5
    replace d6 : u6 = _ := d6
    subst d6
    replace X2 := X2.below hJ
    replace X3 := X3.below hJ
    replace X5 := X5.below hJ
    replace HB := Lib.hid (bt HB.out hJ)
    refine Jo.jdone (by kernel_rfl) ?_
    go_wp2
    go_ret
    exact ⟨rfl, HB.out⟩
end Go.Proofs.Ythhlccdmflgbbaa

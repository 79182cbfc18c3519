/-
  Contracts and words that the statement's proof rests on, several texts in one: Cn, Ch.
-/
import Derived.Test.YthhlccdmflgbbaaGreatDoorYBat
/-
  What iv's None, Make, May, Point, All, Has, and Within do.
-/
namespace Go.Proofs.YthhlccdmflgbbaaGreatDoor
open Go.RowKit
set_option linter.unusedVariables false
set_option linter.unusedSimpArgs false
set_option maxRecDepth 100000

theorem nInfE {w : World} (s : Bool) : Calls Tryz.prog 47 #[.bool s] w (fun e w' => e = .returned (.agg #[.int .i64 2, .bool s, .int .u64 0, .int .i64 0]) ∧ Below w.heap.size w w') := by
  refine (nInf (s := s) rfl).mono ?_; rintro ee w2 ⟨K, s1, M, E, rfl, q, B⟩; obtain ⟨rfl, rfl, rfl, rfl⟩ := q.uniq (fq_inf2 s); exact ⟨rfl, B⟩
theorem cmp_gtE {x y c : Int} (h : cmpI x y = c) : decide (0 < c) = decide (y < x) := by
  rw [← h]
  by_cases e : y < x
  · rw [decide_eq_true e]
    exact decide_eq_true (by rcases cmpI_tri x y with ⟨a, b⟩ | ⟨a, b⟩ | ⟨a, b⟩ <;> rw [b] <;> omega)
  · rw [decide_eq_false e]
    exact decide_eq_false (by rcases cmpI_tri x y with ⟨a, b⟩ | ⟨a, b⟩ | ⟨a, b⟩ <;> rw [b] <;> omega)
theorem cmp_geE {x y c : Int} (h : cmpI x y = c) : decide (0 ≤ c) = decide (y ≤ x) := by
  rw [← h]
  by_cases e : y ≤ x
  · rw [decide_eq_true e]
    exact decide_eq_true (by rcases cmpI_tri x y with ⟨a, b⟩ | ⟨a, b⟩ | ⟨a, b⟩ <;> rw [b] <;> omega)
  · rw [decide_eq_false e]
    exact decide_eq_false (by rcases cmpI_tri x y with ⟨a, b⟩ | ⟨a, b⟩ | ⟨a, b⟩ <;> rw [b] <;> omega)
set_option maxHeartbeats 2000000 in
theorem kvNone {w : World}  : Calls Tryz.prog 21 #[] w (PV w none) := by
  go_enter Tryz.func21, Tryz.ntmps21
  go_upto_region 1 with (fail)
  generalize hW1 : w.alloc _ = w1 at *; obtain ⟨XR, HB⟩ := Bo.en1 hW1; clear hW1; obtain ⟨xXR0, xXR1, xXR2, xXR3, xXR4, xXR5, xXR6, xXR7, xXR8⟩ := XR.u9; have zXR0 := XR.frozen; go_wp2; clear xXR0 zXR0 xXR1 xXR2 xXR3 xXR4 xXR5 xXR6 xXR7 xXR8; have SX := StN.mk9 XR (.bool true) (.int .i64 0) (.bool false) (.int .u64 0) (.int .i64 0) (.int .i64 0) (.bool false) (.int .u64 0) (.int .i64 0); exact bodyPost_ret (by simp [results, Tryz.results21, go_sem, SX.box.cell]) rfl ⟨_, _, _, _, _, _, _, _, _, rfl, Ci.none, (SX.below HB.out (by omega))⟩
theorem kvNoneE {w : World} : Calls Tryz.prog 21 #[] w (fun e w' => e = .returned (.agg #[.bool true, .int .i64 0, .bool false, .int .u64 0, .int .i64 0, .int .i64 0, .bool false, .int .u64 0, .int .i64 0]) ∧ Below w.heap.size w w') := by
  refine kvNone.mono ?_; rintro ee w2 ⟨e1, K1, s1, M1, E1, K1b, s1b, M1b, E1b, rfl, v1, B⟩; obtain ⟨rfl, rfl, rfl, rfl, rfl, rfl, rfl, rfl, rfl⟩ := v1.uniq Ci.none; exact ⟨rfl, B⟩
set_option maxHeartbeats 2000000 in
theorem kvOrN {w : World} {D M E : Int} {s : Bool} {r : Int} (hM : M < 18446744073709551616) (hr : rk D s M E = r) : Calls Tryz.prog 45 #[.agg #[.int .i64 D, .bool s, .int .u64 M, .int .i64 E]] w (PN w r) := by
  by_cases hm : MayQ D s M E
  · have HQ := rk_fq hM hm; rw [hr] at HQ
    have HC := Lib.hid (show decide (MayQ D s M E) = true from decide_eq_true hm)
    clear hm hr hM
    go_enter Tryz.func45, Tryz.ntmps45
    go_upto_region 1 with (fail)
    generalize hW1 : (w.alloc _).alloc _ = w1 at *; obtain ⟨X1, XR, HB⟩ := Bo.en2 hW1; clear hW1; obtain ⟨xX10, xX11, xX12, xX13⟩ := X1.u4
    go_wp2_with fail
    refine (nMay HC.out).mono ?_; rintro ee w2 ⟨rfl, B⟩; clear xX10 xX11 xX12 xX13; replace X1 := X1.below B; replace XR := XR.below B; replace HB := Lib.hid (bt HB.out B); clear B; obtain ⟨xXR0, xXR1, xXR2, xXR3⟩ := XR.u4; have zXR0 := XR.frozen; obtain ⟨xX10, xX11, xX12, xX13⟩ := X1.u4; go_wp2; clear xXR0 zXR0 xXR1 xXR2 xXR3 xX10 xX11 xX12 xX13; have SX := StN.mk4 XR (.int .i64 D) (.bool s) (.int .u64 M) (.int .i64 E)
    exact bodyPost_ret (by simp [results, Tryz.results45, go_sem, SX.box.cell]) rfl ⟨D, s, M, E, rfl, HQ, (SX.below HB.out (by omega))⟩
  · rw [rk_not hm] at hr; subst hr
    have HC := Lib.hid (show decide (MayQ D s M E) = false from decide_eq_false hm)
    clear hm hM
    go_enter Tryz.func45, Tryz.ntmps45
    go_upto_region 1 with (fail)
    generalize hW1 : (w.alloc _).alloc _ = w1 at *; obtain ⟨X1, XR, HB⟩ := Bo.en2 hW1; clear hW1; obtain ⟨xX10, xX11, xX12, xX13⟩ := X1.u4
    go_wp2_with fail
    refine (nMay HC.out).mono ?_; rintro ee w2 ⟨rfl, B⟩; clear xX10 xX11 xX12 xX13; replace X1 := X1.below B; replace XR := XR.below B; replace HB := Lib.hid (bt HB.out B); clear B; obtain ⟨xXR0, xXR1, xXR2, xXR3⟩ := XR.u4; have zXR0 := XR.frozen; obtain ⟨xX10, xX11, xX12, xX13⟩ := X1.u4; go_wp2; clear xXR0 zXR0 xXR1 xXR2 xXR3 xX10 xX11 xX12 xX13; have SX := StN.mk4 XR (.int .i64 0) (.bool false) (.int .u64 0) (.int .i64 0)
    exact bodyPost_ret (by simp [results, Tryz.results45, go_sem, SX.box.cell]) rfl ⟨_, _, _, _, rfl, Fq.nought, (SX.below HB.out (by omega))⟩
set_option maxHeartbeats 4000000 in
theorem kvMake {w : World} {D D' M M' E E' : Int} {s s' : Bool} {a b : Int} {x : Sp} (hM : M < 18446744073709551616) (hM' : M' < 18446744073709551616) (ha : rk D s M E = a) (hb : rk D' s' M' E' = b) (hx : mkI a b = x) : Calls Tryz.prog 22 #[.agg #[.int .i64 D, .bool s, .int .u64 M, .int .i64 E], .agg #[.int .i64 D', .bool s', .int .u64 M', .int .i64 E']] w (PV w x) := by
  have HA := Lib.hid ha; have HBB := Lib.hid hb; clear ha hb
  go_enter Tryz.func22, Tryz.ntmps22
  go_upto_region 1 with (fail)
  generalize hW1 : ((w.alloc _).alloc _).alloc _ = w1 at *; obtain ⟨X2, X3, XR, HB⟩ := Bo.en3 hW1; clear hW1
  refine Jo.region_joint (T := [0, 1, 2, 3]) (ds := [some 5, some 6, some 7, some 8, none, none]) (ls := [[], [0], [], [2], [], []]) (k := 6) (L := [(some 5, 0), (some 6, 1), (some 7, 2), (some 8, 3)]) (fuel := 2) (J := fun wj => Below (World.heap w1).size w1 wj)
    (F := [Jo.q4 D s M E, Jo.Fact.num a, Jo.q4 D' s' M' E', Jo.Fact.num b, Jo.Fact.any, Jo.Fact.any])
    (by kernel_rfl) (by kernel_rfl) (by decide) rfl rfl (fun _ _ h b => bt h b) ((br _ _).drew) ?_ (fun vs w2 hJ hd => ?_)
  · refine Jo.jn 0 (some 5) [] _ rfl rfl rfl rfl ?_ ?_
    · rintro wj hJ K hK; simp only [Jo.z] at hK ⊢; obtain ⟨xX20, xX21, xX22, xX23⟩ := (X2.below hJ).u4; go_simp; exact hK.out _ _ rfl (br _ _)
    refine Jo.jn 1 (some 6) [(some 5, 0)] _ rfl rfl rfl rfl ?_ ?_
    · rintro wj hJ _ rfl K hK; simp only [Jo.z] at hK ⊢; go_simp; refine (kvOrN hM HA.out).mono ?_; rintro ee wk ⟨K1, s1, M1, E1, rfl, q1, B⟩; exact hK.out _ _ ⟨K1, s1, M1, E1, rfl, q1⟩ B
    refine Jo.jn 2 (some 7) [] _ rfl rfl rfl rfl ?_ ?_
    · rintro wj hJ K hK; simp only [Jo.z] at hK ⊢; obtain ⟨xX30, xX31, xX32, xX33⟩ := (X3.below hJ).u4; go_simp; exact hK.out _ _ rfl (br _ _)
    refine Jo.jn 3 (some 8) [(some 7, 2)] _ rfl rfl rfl rfl ?_ ?_
    · rintro wj hJ _ rfl K hK; simp only [Jo.z] at hK ⊢; go_simp; refine (kvOrN hM' HBB.out).mono ?_; rintro ee wk ⟨K2, s2, M2, E2, rfl, q2, B⟩; exact hK.out _ _ ⟨K2, s2, M2, E2, rfl, q2⟩ B
    exact Jo.Steps.nil
  have d1 : (Jo.Fact.num a).P (vs 1) w2 := hd 1 (by decide)
  have d3 : (Jo.Fact.num b).P (vs 3) w2 := hd 3 (by decide)
  simp only [Jo.putl, Jo.zd, Jo.ze, Act.put, Jo.za, Jo.zb, Jo.zc]
  rw [show vs 0 = _ from hd 0 (by decide), show vs 2 = _ from hd 2 (by decide)]
  clear hd; generalize vs 1 = u1 at d1 ⊢; generalize vs 3 = u3 at d3 ⊢; obtain ⟨K1, s1, M1, E1, rfl, q1⟩ := d1; obtain ⟨K2, s2, M2, E2, rfl, q2⟩ := d3; replace X2 := X2.below hJ; replace X3 := X3.below hJ; replace XR := XR.below hJ; replace HB := Lib.hid (bt HB.out hJ); obtain ⟨xX20, xX21, xX22, xX23⟩ := X2.u4; have zX20 := X2.frozen
  refine Jo.jnext (i := 4) (o := ⟨none, _, _, _, _, _⟩) (by kernel_rfl) rfl (fun K hK => ?_)
  go_simp; refine hK.out _ _ ?_; clear hK K xX20 zX20 xX21 xX22 xX23; generalize hS : (((w2.setCell _ _).setCell _ _).setCell _ _).setCell _ _ = w3 at *; have SX := StN.of4 X2 hS; replace X3 := X3.stn SX (by omega); replace XR := XR.stn SX (by omega); replace HB := Lib.hid (SX.below HB.out (by omega)); replace X2 := SX.box; clear SX hS; obtain ⟨xX30, xX31, xX32, xX33⟩ := X3.u4; have zX30 := X3.frozen
  refine Jo.jnext (i := 5) (o := ⟨none, _, _, _, _, _⟩) (by kernel_rfl) rfl (fun K hK => ?_)
  go_simp; refine hK.out _ _ ?_; clear hK K xX30 zX30 xX31 xX32 xX33; generalize hS : (((w3.setCell _ _).setCell _ _).setCell _ _).setCell _ _ = w4 at *; have SX := StN.of4 X3 hS; replace X2 := X2.stn SX (by omega); replace XR := XR.stn SX (by omega); replace HB := Lib.hid (SX.below HB.out (by omega)); replace X3 := SX.box; clear SX hS; refine Jo.jdone (by kernel_rfl) ?_; clear HA HBB hM hM'; obtain ⟨c, hc⟩ : ∃ c, cmpI a b = c := ⟨_, rfl⟩
  have hg := cmp_gtE hc
  have HC : Hid (cmpI (rk K1 s1 M1 E1) (rk K2 s2 M2 E2) = c) := Lib.hid (by rw [q1.rk, q2.rk]; exact hc)
  clear hc
  by_cases hgt : b < a
  · rw [mkI_none (by omega)] at hx
    obtain rfl : none = x := hx
    rw [decide_eq_true hgt] at hg; have HC0 := Lib.hid hg; clear hg hgt; go_wp2; refine Jo.rj [0, 1, 2, 3, 4, 5, 6, 7, 8, 9, 10, 11, 12, 13] [some 9, some 10, some 11, some 12, some 13, some 14, some 15, some 16, some 17, some 18, some 19, some 20, some 21, some 22] [[], [], [0, 1], [2], [3], [4], [4], [4, 5, 6], [4, 7], [8], [9], [9], [9, 10, 11], [9, 12]] 14 [(some 9, 0), (some 10, 1), (some 11, 2), (some 12, 3), (some 13, 4), (some 14, 5), (some 15, 6), (some 16, 7), (some 17, 8), (some 18, 9), (some 19, 10), (some 20, 11), (some 21, 12), (some 22, 13)] 0 [Jo.q4 K1 s1 M1 E1, Jo.q4 K2 s2 M2 E2, Jo.qi c, Jo.qb true, Jo.qb true, Jo.qu, Jo.qu, Jo.qu, Jo.qb true, Jo.qb true, Jo.qu, Jo.qu, Jo.qu, Jo.qb true] (by kernel_rfl) (by kernel_rfl) (by decide) rfl rfl ?_ ?_
    · refine Jo.jn 0 (some 9) [] _ rfl rfl rfl rfl ?_ ?_
      · rintro wj hJ K hK; simp only [Jo.z] at hK ⊢; obtain ⟨xX20, xX21, xX22, xX23⟩ := (X2.below hJ).u4; go_simp; exact hK.out _ _ rfl (br _ _)
      refine Jo.jn 1 (some 10) [] _ rfl rfl rfl rfl ?_ ?_
      · rintro wj hJ K hK; simp only [Jo.z] at hK ⊢; obtain ⟨xX30, xX31, xX32, xX33⟩ := (X3.below hJ).u4; go_simp; exact hK.out _ _ rfl (br _ _)
      refine Jo.jn 2 (some 11) [(some 9, 0), (some 10, 1)] _ rfl rfl rfl rfl ?_ ?_
      · rintro wj hJ _ rfl _ rfl K hK; simp only [Jo.z] at hK ⊢; go_simp; refine (nCmp q1.top q2.top HC.out).mono ?_; rintro ee wk ⟨rfl, B⟩; exact hK.out _ _ rfl B
      refine Jo.jn 3 (some 12) [(some 11, 2)] _ rfl rfl rfl rfl ?_ ?_
      · rintro wj hJ _ rfl K hK; simp only [Jo.z] at hK ⊢; have hc0 := HC0.out; go_simp
        exact hK.out _ _ (by first | rfl | (show Value.bool _ = Value.bool _; rw [hc0]) | simp_all) (br _ _)
      refine Jo.jn 4 (some 13) [(some 12, 3)] _ rfl rfl rfl rfl ?_ ?_
      · rintro wj hJ _ rfl K hK; simp only [Jo.z] at hK ⊢; go_simp; exact hK.out _ _ rfl (br _ _)
      refine Jo.jn 5 (some 14) [(some 13, 4)] _ rfl rfl rfl rfl ?_ ?_
      · rintro wj hJ _ rfl K hK; simp only [Jo.z] at hK ⊢; go_simp; exact hK.out _ _ rfl (br _ _)
      refine Jo.jn 6 (some 15) [(some 13, 4)] _ rfl rfl rfl rfl ?_ ?_
      · rintro wj hJ _ rfl K hK; simp only [Jo.z] at hK ⊢; go_simp; exact hK.out _ _ rfl (br _ _)
      refine Jo.jn 7 (some 16) [(some 13, 4), (some 14, 5), (some 15, 6)] _ rfl rfl rfl rfl ?_ ?_
      · rintro wj hJ _ rfl _ rfl _ rfl K hK; simp only [Jo.z] at hK ⊢; go_simp; exact hK.out _ _ rfl (br _ _)
      refine Jo.jn 8 (some 17) [(some 13, 4), (some 16, 7)] _ rfl rfl rfl rfl ?_ ?_
      · rintro wj hJ _ rfl _ rfl K hK; simp only [Jo.z] at hK ⊢; go_simp; exact hK.out _ _ rfl (br _ _)
      refine Jo.jn 9 (some 18) [(some 17, 8)] _ rfl rfl rfl rfl ?_ ?_
      · rintro wj hJ _ rfl K hK; simp only [Jo.z] at hK ⊢; go_simp; exact hK.out _ _ rfl (br _ _)
      refine Jo.jn 10 (some 19) [(some 18, 9)] _ rfl rfl rfl rfl ?_ ?_
      · rintro wj hJ _ rfl K hK; simp only [Jo.z] at hK ⊢; go_simp; exact hK.out _ _ rfl (br _ _)
      refine Jo.jn 11 (some 20) [(some 18, 9)] _ rfl rfl rfl rfl ?_ ?_
      · rintro wj hJ _ rfl K hK; simp only [Jo.z] at hK ⊢; go_simp; exact hK.out _ _ rfl (br _ _)
      refine Jo.jn 12 (some 21) [(some 18, 9), (some 19, 10), (some 20, 11)] _ rfl rfl rfl rfl ?_ ?_
      · rintro wj hJ _ rfl _ rfl _ rfl K hK; simp only [Jo.z] at hK ⊢; go_simp; exact hK.out _ _ rfl (br _ _)
      refine Jo.jn 13 (some 22) [(some 18, 9), (some 21, 12)] _ rfl rfl rfl rfl ?_ ?_
      · rintro wj hJ _ rfl _ rfl K hK; simp only [Jo.z] at hK ⊢; go_simp; exact hK.out _ _ rfl (br _ _)
      exact Jo.Steps.nil
    rintro w8 hJ _ rfl _ rfl _ rfl _ rfl _ rfl _ rfl _ rfl _ rfl _ rfl _ rfl _ rfl _ rfl _ rfl _ rfl -; simp only [Jo.z]; replace X2 := X2.below hJ; replace X3 := X3.below hJ; replace XR := XR.below hJ; replace HB := Lib.hid (bt HB.out hJ); refine Jo.jdone (by kernel_rfl) ?_
    go_wp2_with fail
    refine (kvNoneE).mono ?_; rintro ee w9 ⟨rfl, B⟩; replace X2 := X2.below B; replace X3 := X3.below B; replace XR := XR.below B; replace HB := Lib.hid (bt HB.out B); clear B; obtain ⟨xXR0, xXR1, xXR2, xXR3, xXR4, xXR5, xXR6, xXR7, xXR8⟩ := XR.u9; have zXR0 := XR.frozen; go_wp2; clear xXR0 zXR0 xXR1 xXR2 xXR3 xXR4 xXR5 xXR6 xXR7 xXR8; have SX := StN.mk9 XR (.bool true) (.int .i64 0) (.bool false) (.int .u64 0) (.int .i64 0) (.int .i64 0) (.bool false) (.int .u64 0) (.int .i64 0)
    exact bodyPost_ret (by simp [results, Tryz.results22, go_sem, SX.box.cell]) rfl ⟨_, _, _, _, _, _, _, _, _, rfl, Ci.none, (SX.below HB.out (by omega))⟩
  · rw [decide_eq_false hgt] at hg; have HC0 := Lib.hid hg; clear hg
    by_cases ht : a = 19342822337206103650074625
    · subst ht; rw [mkI_none (by omega)] at hx
      obtain rfl : none = x := hx
      obtain ⟨rfl, rfl, rfl, rfl⟩ := q1.uniq (show Fq 2 false 0 0 19342822337206103650074625 from fq_inf2 false)
      clear hgt; go_wp2; refine Jo.rj [0, 1, 2, 3, 4, 5, 6, 7, 8, 9, 10, 11, 12, 13] [some 9, some 10, some 11, some 12, some 13, some 14, some 15, some 16, some 17, some 18, some 19, some 20, some 21, some 22] [[], [], [0, 1], [2], [3], [4], [4], [4, 5, 6], [4, 7], [8], [9], [9], [9, 10, 11], [9, 12]] 14 [(some 9, 0), (some 10, 1), (some 11, 2), (some 12, 3), (some 13, 4), (some 14, 5), (some 15, 6), (some 16, 7), (some 17, 8), (some 18, 9), (some 19, 10), (some 20, 11), (some 21, 12), (some 22, 13)] 0 [Jo.q4 2 false 0 0, Jo.q4 K2 s2 M2 E2, Jo.qi c, Jo.qb false, Jo.qb false, Jo.q4 2 false 0 0, Jo.q4 2 false 0 0, Jo.qb true, Jo.qb true, Jo.qb true, Jo.qu, Jo.qu, Jo.qu, Jo.qb true] (by kernel_rfl) (by kernel_rfl) (by decide) rfl rfl ?_ ?_
      · refine Jo.jn 0 (some 9) [] _ rfl rfl rfl rfl ?_ ?_
        · rintro wj hJ K hK; simp only [Jo.z] at hK ⊢; obtain ⟨xX20, xX21, xX22, xX23⟩ := (X2.below hJ).u4; go_simp; exact hK.out _ _ rfl (br _ _)
        refine Jo.jn 1 (some 10) [] _ rfl rfl rfl rfl ?_ ?_
        · rintro wj hJ K hK; simp only [Jo.z] at hK ⊢; obtain ⟨xX30, xX31, xX32, xX33⟩ := (X3.below hJ).u4; go_simp; exact hK.out _ _ rfl (br _ _)
        refine Jo.jn 2 (some 11) [(some 9, 0), (some 10, 1)] _ rfl rfl rfl rfl ?_ ?_
        · rintro wj hJ _ rfl _ rfl K hK; simp only [Jo.z] at hK ⊢; go_simp; refine (nCmp q1.top q2.top HC.out).mono ?_; rintro ee wk ⟨rfl, B⟩; exact hK.out _ _ rfl B
        refine Jo.jn 3 (some 12) [(some 11, 2)] _ rfl rfl rfl rfl ?_ ?_
        · rintro wj hJ _ rfl K hK; simp only [Jo.z] at hK ⊢; have hc0 := HC0.out; go_simp
          exact hK.out _ _ (by first | rfl | (show Value.bool _ = Value.bool _; rw [hc0]) | simp_all) (br _ _)
        refine Jo.jn 4 (some 13) [(some 12, 3)] _ rfl rfl rfl rfl ?_ ?_
        · rintro wj hJ _ rfl K hK; simp only [Jo.z] at hK ⊢; go_simp; exact hK.out _ _ rfl (br _ _)
        refine Jo.jn 5 (some 14) [(some 13, 4)] _ rfl rfl rfl rfl ?_ ?_
        · rintro wj hJ _ rfl K hK; simp only [Jo.z] at hK ⊢; obtain ⟨xX20, xX21, xX22, xX23⟩ := (X2.below hJ).u4; go_simp; exact hK.out _ _ rfl (br _ _)
        refine Jo.jn 6 (some 15) [(some 13, 4)] _ rfl rfl rfl rfl ?_ ?_
        · rintro wj hJ _ rfl K hK; simp only [Jo.z] at hK ⊢; go_simp; refine (nInfE false).mono ?_; rintro ee wk ⟨rfl, B⟩; exact hK.out _ _ rfl B
        refine Jo.jn 7 (some 16) [(some 13, 4), (some 14, 5), (some 15, 6)] _ rfl rfl rfl rfl ?_ ?_
        · rintro wj hJ _ rfl _ rfl _ rfl K hK; simp only [Jo.z] at hK ⊢; go_simp
          repeat' split
          all_goals exact hK.out _ _ (congrArg Value.bool (by first | rfl | (exfalso; simp_all) | simp_all)) (br _ _)
        refine Jo.jn 8 (some 17) [(some 13, 4), (some 16, 7)] _ rfl rfl rfl rfl ?_ ?_
        · rintro wj hJ _ rfl _ rfl K hK; simp only [Jo.z] at hK ⊢; go_simp; exact hK.out _ _ rfl (br _ _)
        refine Jo.jn 9 (some 18) [(some 17, 8)] _ rfl rfl rfl rfl ?_ ?_
        · rintro wj hJ _ rfl K hK; simp only [Jo.z] at hK ⊢; go_simp; exact hK.out _ _ rfl (br _ _)
        refine Jo.jn 10 (some 19) [(some 18, 9)] _ rfl rfl rfl rfl ?_ ?_
        · rintro wj hJ _ rfl K hK; simp only [Jo.z] at hK ⊢; go_simp; exact hK.out _ _ rfl (br _ _)
        refine Jo.jn 11 (some 20) [(some 18, 9)] _ rfl rfl rfl rfl ?_ ?_
        · rintro wj hJ _ rfl K hK; simp only [Jo.z] at hK ⊢; go_simp; exact hK.out _ _ rfl (br _ _)
        refine Jo.jn 12 (some 21) [(some 18, 9), (some 19, 10), (some 20, 11)] _ rfl rfl rfl rfl ?_ ?_
        · rintro wj hJ _ rfl _ rfl _ rfl K hK; simp only [Jo.z] at hK ⊢; go_simp; exact hK.out _ _ rfl (br _ _)
        refine Jo.jn 13 (some 22) [(some 18, 9), (some 21, 12)] _ rfl rfl rfl rfl ?_ ?_
        · rintro wj hJ _ rfl _ rfl K hK; simp only [Jo.z] at hK ⊢; go_simp; exact hK.out _ _ rfl (br _ _)
        exact Jo.Steps.nil
      rintro w8 hJ _ rfl _ rfl _ rfl _ rfl _ rfl _ rfl _ rfl _ rfl _ rfl _ rfl _ rfl _ rfl _ rfl _ rfl -; simp only [Jo.z]; replace X2 := X2.below hJ; replace X3 := X3.below hJ; replace XR := XR.below hJ; replace HB := Lib.hid (bt HB.out hJ); refine Jo.jdone (by kernel_rfl) ?_
      go_wp2_with fail
      refine (kvNoneE).mono ?_; rintro ee w9 ⟨rfl, B⟩; replace X2 := X2.below B; replace X3 := X3.below B; replace XR := XR.below B; replace HB := Lib.hid (bt HB.out B); clear B; obtain ⟨xXR0, xXR1, xXR2, xXR3, xXR4, xXR5, xXR6, xXR7, xXR8⟩ := XR.u9; have zXR0 := XR.frozen; go_wp2; clear xXR0 zXR0 xXR1 xXR2 xXR3 xXR4 xXR5 xXR6 xXR7 xXR8; have SX := StN.mk9 XR (.bool true) (.int .i64 0) (.bool false) (.int .u64 0) (.int .i64 0) (.int .i64 0) (.bool false) (.int .u64 0) (.int .i64 0)
      exact bodyPost_ret (by simp [results, Tryz.results22, go_sem, SX.box.cell]) rfl ⟨_, _, _, _, _, _, _, _, _, rfl, Ci.none, (SX.below HB.out (by omega))⟩
    · have HN1 : Hid (¬ (K1 = 2 ∧ s1 = false ∧ M1 = 0 ∧ E1 = 0)) := Lib.hid (by
        rintro ⟨rfl, rfl, rfl, rfl⟩; exact ht (by rw [← q1.rk]; exact (fq_inf2 false).rk))
      by_cases hb : b = -19342822337206103650074625
      · subst hb; rw [mkI_none (by omega)] at hx
        obtain rfl : none = x := hx
        obtain ⟨rfl, rfl, rfl, rfl⟩ := q2.uniq (show Fq 2 true 0 0 (-19342822337206103650074625) from fq_inf2 true)
        clear hgt ht; go_wp2; refine Jo.rj [0, 1, 2, 3, 4, 5, 6, 7, 8, 9, 10, 11, 12, 13] [some 9, some 10, some 11, some 12, some 13, some 14, some 15, some 16, some 17, some 18, some 19, some 20, some 21, some 22] [[], [], [0, 1], [2], [3], [4], [4], [4, 5, 6], [4, 7], [8], [9], [9], [9, 10, 11], [9, 12]] 14 [(some 9, 0), (some 10, 1), (some 11, 2), (some 12, 3), (some 13, 4), (some 14, 5), (some 15, 6), (some 16, 7), (some 17, 8), (some 18, 9), (some 19, 10), (some 20, 11), (some 21, 12), (some 22, 13)] 0 [Jo.q4 K1 s1 M1 E1, Jo.q4 2 true 0 0, Jo.qi c, Jo.qb false, Jo.qb false, Jo.q4 K1 s1 M1 E1, Jo.q4 2 false 0 0, Jo.qb false, Jo.qb false, Jo.qb false, Jo.q4 2 true 0 0, Jo.q4 2 true 0 0, Jo.qb true, Jo.qb true] (by kernel_rfl) (by kernel_rfl) (by decide) rfl rfl ?_ ?_
        · refine Jo.jn 0 (some 9) [] _ rfl rfl rfl rfl ?_ ?_
          · rintro wj hJ K hK; simp only [Jo.z] at hK ⊢; obtain ⟨xX20, xX21, xX22, xX23⟩ := (X2.below hJ).u4; go_simp; exact hK.out _ _ rfl (br _ _)
          refine Jo.jn 1 (some 10) [] _ rfl rfl rfl rfl ?_ ?_
          · rintro wj hJ K hK; simp only [Jo.z] at hK ⊢; obtain ⟨xX30, xX31, xX32, xX33⟩ := (X3.below hJ).u4; go_simp; exact hK.out _ _ rfl (br _ _)
          refine Jo.jn 2 (some 11) [(some 9, 0), (some 10, 1)] _ rfl rfl rfl rfl ?_ ?_
          · rintro wj hJ _ rfl _ rfl K hK; simp only [Jo.z] at hK ⊢; go_simp; refine (nCmp q1.top q2.top HC.out).mono ?_; rintro ee wk ⟨rfl, B⟩; exact hK.out _ _ rfl B
          refine Jo.jn 3 (some 12) [(some 11, 2)] _ rfl rfl rfl rfl ?_ ?_
          · rintro wj hJ _ rfl K hK; simp only [Jo.z] at hK ⊢; have hc0 := HC0.out; go_simp
            exact hK.out _ _ (by first | rfl | (show Value.bool _ = Value.bool _; rw [hc0]) | simp_all) (br _ _)
          refine Jo.jn 4 (some 13) [(some 12, 3)] _ rfl rfl rfl rfl ?_ ?_
          · rintro wj hJ _ rfl K hK; simp only [Jo.z] at hK ⊢; go_simp; exact hK.out _ _ rfl (br _ _)
          refine Jo.jn 5 (some 14) [(some 13, 4)] _ rfl rfl rfl rfl ?_ ?_
          · rintro wj hJ _ rfl K hK; simp only [Jo.z] at hK ⊢; obtain ⟨xX20, xX21, xX22, xX23⟩ := (X2.below hJ).u4; go_simp; exact hK.out _ _ rfl (br _ _)
          refine Jo.jn 6 (some 15) [(some 13, 4)] _ rfl rfl rfl rfl ?_ ?_
          · rintro wj hJ _ rfl K hK; simp only [Jo.z] at hK ⊢; go_simp; refine (nInfE false).mono ?_; rintro ee wk ⟨rfl, B⟩; exact hK.out _ _ rfl B
          refine Jo.jn 7 (some 16) [(some 13, 4), (some 14, 5), (some 15, 6)] _ rfl rfl rfl rfl ?_ ?_
          · rintro wj hJ _ rfl _ rfl _ rfl K hK; simp only [Jo.z] at hK ⊢; have hne := HN1.out; go_simp
            repeat' split
            all_goals exact hK.out _ _ (congrArg Value.bool (by first | rfl | (exfalso; simp_all))) (br _ _)
          refine Jo.jn 8 (some 17) [(some 13, 4), (some 16, 7)] _ rfl rfl rfl rfl ?_ ?_
          · rintro wj hJ _ rfl _ rfl K hK; simp only [Jo.z] at hK ⊢; go_simp; exact hK.out _ _ rfl (br _ _)
          refine Jo.jn 9 (some 18) [(some 17, 8)] _ rfl rfl rfl rfl ?_ ?_
          · rintro wj hJ _ rfl K hK; simp only [Jo.z] at hK ⊢; go_simp; exact hK.out _ _ rfl (br _ _)
          refine Jo.jn 10 (some 19) [(some 18, 9)] _ rfl rfl rfl rfl ?_ ?_
          · rintro wj hJ _ rfl K hK; simp only [Jo.z] at hK ⊢; obtain ⟨xX30, xX31, xX32, xX33⟩ := (X3.below hJ).u4; go_simp; exact hK.out _ _ rfl (br _ _)
          refine Jo.jn 11 (some 20) [(some 18, 9)] _ rfl rfl rfl rfl ?_ ?_
          · rintro wj hJ _ rfl K hK; simp only [Jo.z] at hK ⊢; go_simp; refine (nInfE true).mono ?_; rintro ee wk ⟨rfl, B⟩; exact hK.out _ _ rfl B
          refine Jo.jn 12 (some 21) [(some 18, 9), (some 19, 10), (some 20, 11)] _ rfl rfl rfl rfl ?_ ?_
          · rintro wj hJ _ rfl _ rfl _ rfl K hK; simp only [Jo.z] at hK ⊢; go_simp
            repeat' split
            all_goals exact hK.out _ _ (congrArg Value.bool (by first | rfl | (exfalso; simp_all) | simp_all)) (br _ _)
          refine Jo.jn 13 (some 22) [(some 18, 9), (some 21, 12)] _ rfl rfl rfl rfl ?_ ?_
          · rintro wj hJ _ rfl _ rfl K hK; simp only [Jo.z] at hK ⊢; go_simp; exact hK.out _ _ rfl (br _ _)
          exact Jo.Steps.nil
        rintro w8 hJ _ rfl _ rfl _ rfl _ rfl _ rfl _ rfl _ rfl _ rfl _ rfl _ rfl _ rfl _ rfl _ rfl _ rfl -; simp only [Jo.z]; replace X2 := X2.below hJ; replace X3 := X3.below hJ; replace XR := XR.below hJ; replace HB := Lib.hid (bt HB.out hJ); refine Jo.jdone (by kernel_rfl) ?_
        go_wp2_with fail
        refine (kvNoneE).mono ?_; rintro ee w9 ⟨rfl, B⟩; replace X2 := X2.below B; replace X3 := X3.below B; replace XR := XR.below B; replace HB := Lib.hid (bt HB.out B); clear B; obtain ⟨xXR0, xXR1, xXR2, xXR3, xXR4, xXR5, xXR6, xXR7, xXR8⟩ := XR.u9; have zXR0 := XR.frozen; go_wp2; clear xXR0 zXR0 xXR1 xXR2 xXR3 xXR4 xXR5 xXR6 xXR7 xXR8; have SX := StN.mk9 XR (.bool true) (.int .i64 0) (.bool false) (.int .u64 0) (.int .i64 0) (.int .i64 0) (.bool false) (.int .u64 0) (.int .i64 0)
        exact bodyPost_ret (by simp [results, Tryz.results22, go_sem, SX.box.cell]) rfl ⟨_, _, _, _, _, _, _, _, _, rfl, Ci.none, (SX.below HB.out (by omega))⟩
      · have HN2 : Hid (¬ (K2 = 2 ∧ s2 = true ∧ M2 = 0 ∧ E2 = 0)) := Lib.hid (by
          rintro ⟨rfl, rfl, rfl, rfl⟩; exact hb (by rw [← q2.rk]; exact (fq_inf2 true).rk))
        have g1 := q1.bd; have g2 := q2.bd
        have g3 : a ≤ b := by omega
        have g4 : a < 19342822337206103650074625 := by omega
        have g5 : -19342822337206103650074625 < b := by omega
        rw [mkI_some g3 g4 g5] at hx
        obtain rfl : some (a, b) = x := hx
        have HV : Ci false K1 s1 M1 E1 K2 s2 M2 E2 (some (a, b)) := ⟨rfl, q1, q2, g3, g4, g5⟩
        clear hgt ht hb g1 g2 g3 g4 g5; go_wp2; refine Jo.rj [0, 1, 2, 3, 4, 5, 6, 7, 8, 9, 10, 11, 12, 13] [some 9, some 10, some 11, some 12, some 13, some 14, some 15, some 16, some 17, some 18, some 19, some 20, some 21, some 22] [[], [], [0, 1], [2], [3], [4], [4], [4, 5, 6], [4, 7], [8], [9], [9], [9, 10, 11], [9, 12]] 14 [(some 9, 0), (some 10, 1), (some 11, 2), (some 12, 3), (some 13, 4), (some 14, 5), (some 15, 6), (some 16, 7), (some 17, 8), (some 18, 9), (some 19, 10), (some 20, 11), (some 21, 12), (some 22, 13)] 0 [Jo.q4 K1 s1 M1 E1, Jo.q4 K2 s2 M2 E2, Jo.qi c, Jo.qb false, Jo.qb false, Jo.q4 K1 s1 M1 E1, Jo.q4 2 false 0 0, Jo.qb false, Jo.qb false, Jo.qb false, Jo.q4 K2 s2 M2 E2, Jo.q4 2 true 0 0, Jo.qb false, Jo.qb false] (by kernel_rfl) (by kernel_rfl) (by decide) rfl rfl ?_ ?_
        · refine Jo.jn 0 (some 9) [] _ rfl rfl rfl rfl ?_ ?_
          · rintro wj hJ K hK; simp only [Jo.z] at hK ⊢; obtain ⟨xX20, xX21, xX22, xX23⟩ := (X2.below hJ).u4; go_simp; exact hK.out _ _ rfl (br _ _)
          refine Jo.jn 1 (some 10) [] _ rfl rfl rfl rfl ?_ ?_
          · rintro wj hJ K hK; simp only [Jo.z] at hK ⊢; obtain ⟨xX30, xX31, xX32, xX33⟩ := (X3.below hJ).u4; go_simp; exact hK.out _ _ rfl (br _ _)
          refine Jo.jn 2 (some 11) [(some 9, 0), (some 10, 1)] _ rfl rfl rfl rfl ?_ ?_
          · rintro wj hJ _ rfl _ rfl K hK; simp only [Jo.z] at hK ⊢; go_simp; refine (nCmp q1.top q2.top HC.out).mono ?_; rintro ee wk ⟨rfl, B⟩; exact hK.out _ _ rfl B
          refine Jo.jn 3 (some 12) [(some 11, 2)] _ rfl rfl rfl rfl ?_ ?_
          · rintro wj hJ _ rfl K hK; simp only [Jo.z] at hK ⊢; have hc0 := HC0.out; go_simp
            exact hK.out _ _ (by first | rfl | (show Value.bool _ = Value.bool _; rw [hc0]) | simp_all) (br _ _)
          refine Jo.jn 4 (some 13) [(some 12, 3)] _ rfl rfl rfl rfl ?_ ?_
          · rintro wj hJ _ rfl K hK; simp only [Jo.z] at hK ⊢; go_simp; exact hK.out _ _ rfl (br _ _)
          refine Jo.jn 5 (some 14) [(some 13, 4)] _ rfl rfl rfl rfl ?_ ?_
          · rintro wj hJ _ rfl K hK; simp only [Jo.z] at hK ⊢; obtain ⟨xX20, xX21, xX22, xX23⟩ := (X2.below hJ).u4; go_simp; exact hK.out _ _ rfl (br _ _)
          refine Jo.jn 6 (some 15) [(some 13, 4)] _ rfl rfl rfl rfl ?_ ?_
          · rintro wj hJ _ rfl K hK; simp only [Jo.z] at hK ⊢; go_simp; refine (nInfE false).mono ?_; rintro ee wk ⟨rfl, B⟩; exact hK.out _ _ rfl B
          refine Jo.jn 7 (some 16) [(some 13, 4), (some 14, 5), (some 15, 6)] _ rfl rfl rfl rfl ?_ ?_
          · rintro wj hJ _ rfl _ rfl _ rfl K hK; simp only [Jo.z] at hK ⊢; have hne := HN1.out; go_simp
            repeat' split
            all_goals exact hK.out _ _ (congrArg Value.bool (by first | rfl | (exfalso; simp_all))) (br _ _)
          refine Jo.jn 8 (some 17) [(some 13, 4), (some 16, 7)] _ rfl rfl rfl rfl ?_ ?_
          · rintro wj hJ _ rfl _ rfl K hK; simp only [Jo.z] at hK ⊢; go_simp; exact hK.out _ _ rfl (br _ _)
          refine Jo.jn 9 (some 18) [(some 17, 8)] _ rfl rfl rfl rfl ?_ ?_
          · rintro wj hJ _ rfl K hK; simp only [Jo.z] at hK ⊢; go_simp; exact hK.out _ _ rfl (br _ _)
          refine Jo.jn 10 (some 19) [(some 18, 9)] _ rfl rfl rfl rfl ?_ ?_
          · rintro wj hJ _ rfl K hK; simp only [Jo.z] at hK ⊢; obtain ⟨xX30, xX31, xX32, xX33⟩ := (X3.below hJ).u4; go_simp; exact hK.out _ _ rfl (br _ _)
          refine Jo.jn 11 (some 20) [(some 18, 9)] _ rfl rfl rfl rfl ?_ ?_
          · rintro wj hJ _ rfl K hK; simp only [Jo.z] at hK ⊢; go_simp; refine (nInfE true).mono ?_; rintro ee wk ⟨rfl, B⟩; exact hK.out _ _ rfl B
          refine Jo.jn 12 (some 21) [(some 18, 9), (some 19, 10), (some 20, 11)] _ rfl rfl rfl rfl ?_ ?_
          · rintro wj hJ _ rfl _ rfl _ rfl K hK; simp only [Jo.z] at hK ⊢; have hne := HN2.out; go_simp
            repeat' split
            all_goals exact hK.out _ _ (congrArg Value.bool (by first | rfl | (exfalso; simp_all))) (br _ _)
          refine Jo.jn 13 (some 22) [(some 18, 9), (some 21, 12)] _ rfl rfl rfl rfl ?_ ?_
          · rintro wj hJ _ rfl _ rfl K hK; simp only [Jo.z] at hK ⊢; go_simp; exact hK.out _ _ rfl (br _ _)
          exact Jo.Steps.nil
        rintro w8 hJ _ rfl _ rfl _ rfl _ rfl _ rfl _ rfl _ rfl _ rfl _ rfl _ rfl _ rfl _ rfl _ rfl _ rfl -; simp only [Jo.z]; replace X2 := X2.below hJ; replace X3 := X3.below hJ; replace XR := XR.below hJ; replace HB := Lib.hid (bt HB.out hJ); refine Jo.jdone (by kernel_rfl) ?_; obtain ⟨xXR0, xXR1, xXR2, xXR3, xXR4, xXR5, xXR6, xXR7, xXR8⟩ := XR.u9; have zXR0 := XR.frozen; obtain ⟨xX20, xX21, xX22, xX23⟩ := X2.u4
        obtain ⟨xX30, xX31, xX32, xX33⟩ := X3.u4; go_wp2; clear xXR0 zXR0 xXR1 xXR2 xXR3 xXR4 xXR5 xXR6 xXR7 xXR8 xX20 xX21 xX22 xX23 xX30 xX31 xX32 xX33; have SX := StN.mk9 XR (.bool false) (.int .i64 K1) (.bool s1) (.int .u64 M1) (.int .i64 E1) (.int .i64 K2) (.bool s2) (.int .u64 M2) (.int .i64 E2); exact bodyPost_ret (by simp [results, Tryz.results22, go_sem, SX.box.cell]) rfl ⟨_, _, _, _, _, _, _, _, _, rfl, HV, (SX.below HB.out (by omega))⟩
set_option maxHeartbeats 2000000 in
theorem kvPoint {w : World} {D M E : Int} {s : Bool} {a : Int} {x : Sp} (hM : M < 18446744073709551616) (ha : rk D s M E = a) (hx : mkI a a = x) : Calls Tryz.prog 42 #[.agg #[.int .i64 D, .bool s, .int .u64 M, .int .i64 E]] w (PV w x) := by
  have HA := Lib.hid ha; have HX := Lib.hid hx; clear ha hx
  go_enter Tryz.func42, Tryz.ntmps42
  go_upto_region 1 with (fail)
  generalize hW1 : (w.alloc _).alloc _ = w1 at *; obtain ⟨X1, XR, HB⟩ := Bo.en2 hW1; clear hW1; obtain ⟨xX10, xX11, xX12, xX13⟩ := X1.u4
  go_wp2_with fail
  refine (kvMake hM hM HA.out HA.out HX.out).mono ?_; rintro ee w2 ⟨e2, K2, s2, M2, E2, K2b, s2b, M2b, E2b, rfl, v2, B⟩; clear xX10 xX11 xX12 xX13; replace X1 := X1.below B; replace XR := XR.below B; replace HB := Lib.hid (bt HB.out B); clear B; obtain ⟨xXR0, xXR1, xXR2, xXR3, xXR4, xXR5, xXR6, xXR7, xXR8⟩ := XR.u9; have zXR0 := XR.frozen; go_wp2; clear xXR0 zXR0 xXR1 xXR2 xXR3 xXR4 xXR5 xXR6 xXR7 xXR8
  have SX := StN.mk9 XR (.bool e2) (.int .i64 K2) (.bool s2) (.int .u64 M2) (.int .i64 E2) (.int .i64 K2b) (.bool s2b) (.int .u64 M2b) (.int .i64 E2b); exact bodyPost_ret (by simp [results, Tryz.results42, go_sem, SX.box.cell]) rfl ⟨_, _, _, _, _, _, _, _, _, rfl, v2, (SX.below HB.out (by omega))⟩
set_option maxHeartbeats 2000000 in
theorem kvAll {w : World}  : Calls Tryz.prog 26 #[] w (PV w allI) := by
  have HI := Lib.hid (mkI_some (a := -19342822337206103650074625) (b := 19342822337206103650074625) (by omega) (by omega) (by omega))
  go_enter Tryz.func26, Tryz.ntmps26
  go_upto_region 1 with (fail)
  generalize hW1 : w.alloc _ = w1 at *; obtain ⟨XR, HB⟩ := Bo.en1 hW1; clear hW1
  go_wp2_with fail
  refine (nInfE true).mono ?_; rintro ee w2 ⟨rfl, B⟩; replace XR := XR.below B; replace HB := Lib.hid (bt HB.out B); clear B
  go_wp2_with fail
  refine (nInfE false).mono ?_; rintro ee w3 ⟨rfl, B⟩; replace XR := XR.below B; replace HB := Lib.hid (bt HB.out B); clear B
  go_wp2_with fail
  refine (kvMake (a := -19342822337206103650074625) (b := 19342822337206103650074625) (by decide) (by decide) (fq_inf2 true).rk (fq_inf2 false).rk HI.out).mono ?_; rintro ee w4 ⟨e2, K2, s2, M2, E2, K2b, s2b, M2b, E2b, rfl, v2, B⟩; replace XR := XR.below B; replace HB := Lib.hid (bt HB.out B); clear B; obtain ⟨xXR0, xXR1, xXR2, xXR3, xXR4, xXR5, xXR6, xXR7, xXR8⟩ := XR.u9; have zXR0 := XR.frozen; go_wp2
  clear xXR0 zXR0 xXR1 xXR2 xXR3 xXR4 xXR5 xXR6 xXR7 xXR8; have SX := StN.mk9 XR (.bool e2) (.int .i64 K2) (.bool s2) (.int .u64 M2) (.int .i64 E2) (.int .i64 K2b) (.bool s2b) (.int .u64 M2b) (.int .i64 E2b); exact bodyPost_ret (by simp [results, Tryz.results26, go_sem, SX.box.cell]) rfl ⟨_, _, _, _, _, _, _, _, _, rfl, v2, (SX.below HB.out (by omega))⟩
theorem may_make {e : Bool} {D M E D' M' E' : Int} {s s' : Bool} {e4 : Bool} {K4 M4 E4 K4b M4b E4b : Int} {s4 s4b : Bool} (hM : M < 18446744073709551616) (hM' : M' < 18446744073709551616) (v : Ci e4 K4 s4 M4 E4 K4b s4b M4b E4b (mkI (rk D s M E) (rk D' s' M' E'))) (h1 : ¬ (e = true ∧ D = 0 ∧ s = false ∧ M = 0 ∧ E = 0 ∧ D' = 0 ∧ s' = false ∧ M' = 0 ∧ E' = 0)) : (e = e4 ∧ D = K4 ∧ s = s4 ∧ M = M4 ∧ E = E4 ∧ D' = K4b ∧ s' = s4b ∧ M' = M4b ∧ E' = E4b) ↔ mayI e D s M E D' s' M' E' = true := by
  constructor
  · rintro ⟨rfl, rfl, rfl, rfl, rfl, rfl, rfl, rfl, rfl⟩; exact v.may
  · intro h
    have c := mayI_ci hM hM' h
    cases e
    · have h2 : decide (rkI false D s M E D' s' M' E' ≠ none) = true := h
      rw [rkI_f] at c; rw [decide_eq_true_iff, rkI_f] at h2
      by_cases hq : MayQ D s M E ∧ MayQ D' s' M' E'
      · rw [if_pos hq] at c; exact c.uniq v
      · rw [if_neg hq] at h2; exact absurd rfl h2
    · rw [rkI_t] at c; exact absurd (c.uniq Ci.none) h1
set_option maxHeartbeats 4000000 in
theorem kvMay {w : World} {e : Bool} {D M E D' M' E' : Int} {s s' : Bool} {r : Bool} (hM : M < 18446744073709551616) (hM' : M' < 18446744073709551616) (hr : mayI e D s M E D' s' M' E' = r) : Calls Tryz.prog 44 #[.agg #[.bool e, .int .i64 D, .bool s, .int .u64 M, .int .i64 E, .int .i64 D', .bool s', .int .u64 M', .int .i64 E']] w (PB w r) := by
  by_cases h1 : e = true ∧ D = 0 ∧ s = false ∧ M = 0 ∧ E = 0 ∧ D' = 0 ∧ s' = false ∧ M' = 0 ∧ E' = 0
  · obtain ⟨rfl, rfl, rfl, rfl, rfl, rfl, rfl, rfl, rfl⟩ := h1
    obtain rfl : true = r := Ci.none.may.symm.trans hr
    clear hr
    go_enter Tryz.func44, Tryz.ntmps44
    go_upto_region 1 with (fail)
    generalize hW1 : w.alloc _ = w1 at *; obtain ⟨X1, HB⟩ := Bo.en1 hW1; clear hW1; refine Jo.rj [0, 1, 2, 3, 4, 5, 6, 7, 8, 9, 10, 11, 12] [some 3, some 4, some 5, some 6, some 7, some 8, some 9, some 10, some 11, some 12, some 13, some 14, some 2] [[], [], [0, 1], [2], [3], [3], [3, 5], [3], [3, 7], [3, 6, 8], [3, 4, 9], [3, 10], [11]] 13 [(some 3, 0), (some 4, 1), (some 5, 2), (some 6, 3), (some 7, 4), (some 8, 5), (some 9, 6), (some 10, 7), (some 11, 8), (some 12, 9), (some 13, 10), (some 14, 11), (some 2, 12)] 0 [Jo.q9 true 0 false 0 0 0 false 0 0, Jo.q9 true 0 false 0 0 0 false 0 0, Jo.qb true, Jo.qb true, Jo.qu, Jo.qu, Jo.qu, Jo.qu, Jo.qu, Jo.qu, Jo.qu, Jo.qb true, Jo.qb true] (by kernel_rfl) (by kernel_rfl) (by decide) rfl rfl ?_ ?_
    · refine Jo.jn 0 (some 3) [] _ rfl rfl rfl rfl ?_ ?_
      · rintro wj hJ K hK; simp only [Jo.z] at hK ⊢; obtain ⟨xX10, xX11, xX12, xX13, xX14, xX15, xX16, xX17, xX18⟩ := (X1.below hJ).u9; go_simp; exact hK.out _ _ rfl (br _ _)
      refine Jo.jn 1 (some 4) [] _ rfl rfl rfl rfl ?_ ?_
      · rintro wj hJ K hK; simp only [Jo.z] at hK ⊢; go_simp; refine (kvNoneE).mono ?_; rintro ee wk ⟨rfl, B⟩; exact hK.out _ _ rfl B
      refine Jo.jn 2 (some 5) [(some 3, 0), (some 4, 1)] _ rfl rfl rfl rfl ?_ ?_
      · rintro wj hJ _ rfl _ rfl K hK; simp only [Jo.z] at hK ⊢; go_simp
        repeat' split
        all_goals exact hK.out _ _ (congrArg Value.bool (by first | rfl | (exfalso; simp_all) | simp_all)) (br _ _)
      refine Jo.jn 3 (some 6) [(some 5, 2)] _ rfl rfl rfl rfl ?_ ?_
      · rintro wj hJ _ rfl K hK; simp only [Jo.z] at hK ⊢; go_simp; exact hK.out _ _ rfl (br _ _)
      refine Jo.jn 4 (some 7) [(some 6, 3)] _ rfl rfl rfl rfl ?_ ?_
      · rintro wj hJ _ rfl K hK; simp only [Jo.z] at hK ⊢; go_simp; exact hK.out _ _ rfl (br _ _)
      refine Jo.jn 5 (some 8) [(some 6, 3)] _ rfl rfl rfl rfl ?_ ?_
      · rintro wj hJ _ rfl K hK; simp only [Jo.z] at hK ⊢; go_simp; exact hK.out _ _ rfl (br _ _)
      refine Jo.jn 6 (some 9) [(some 6, 3), (some 8, 5)] _ rfl rfl rfl rfl ?_ ?_
      · rintro wj hJ _ rfl _ rfl K hK; simp only [Jo.z] at hK ⊢; go_simp; exact hK.out _ _ rfl (br _ _)
      refine Jo.jn 7 (some 10) [(some 6, 3)] _ rfl rfl rfl rfl ?_ ?_
      · rintro wj hJ _ rfl K hK; simp only [Jo.z] at hK ⊢; go_simp; exact hK.out _ _ rfl (br _ _)
      refine Jo.jn 8 (some 11) [(some 6, 3), (some 10, 7)] _ rfl rfl rfl rfl ?_ ?_
      · rintro wj hJ _ rfl _ rfl K hK; simp only [Jo.z] at hK ⊢; go_simp; exact hK.out _ _ rfl (br _ _)
      refine Jo.jn 9 (some 12) [(some 6, 3), (some 9, 6), (some 11, 8)] _ rfl rfl rfl rfl ?_ ?_
      · rintro wj hJ _ rfl _ rfl _ rfl K hK; simp only [Jo.z] at hK ⊢; go_simp; exact hK.out _ _ rfl (br _ _)
      refine Jo.jn 10 (some 13) [(some 6, 3), (some 7, 4), (some 12, 9)] _ rfl rfl rfl rfl ?_ ?_
      · rintro wj hJ _ rfl _ rfl _ rfl K hK; simp only [Jo.z] at hK ⊢; go_simp; exact hK.out _ _ rfl (br _ _)
      refine Jo.jn 11 (some 14) [(some 6, 3), (some 13, 10)] _ rfl rfl rfl rfl ?_ ?_
      · rintro wj hJ _ rfl _ rfl K hK; simp only [Jo.z] at hK ⊢; go_simp; exact hK.out _ _ rfl (br _ _)
      refine Jo.jn 12 (some 2) [(some 14, 11)] _ rfl rfl rfl rfl ?_ ?_
      · rintro wj hJ _ rfl K hK; simp only [Jo.z] at hK ⊢; go_simp; exact hK.out _ _ rfl (br _ _)
      exact Jo.Steps.nil
    rintro w8 hJ _ rfl _ rfl _ rfl _ rfl _ rfl _ rfl _ rfl _ rfl _ rfl _ rfl _ rfl _ rfl _ rfl -; simp only [Jo.z]; replace X1 := X1.below hJ; replace HB := Lib.hid (bt HB.out hJ); refine Jo.jdone (by kernel_rfl) ?_; go_wp2
    go_ret
    exact ⟨rfl, HB.out⟩
  · have HN1 := Lib.hid h1
    have HY : Hid (∀ {e4 K4 s4 M4 E4 K4b s4b M4b E4b}, Ci e4 K4 s4 M4 E4 K4b s4b M4b E4b (mkI (rk D s M E) (rk D' s' M' E')) → ((e = e4 ∧ D = K4 ∧ s = s4 ∧ M = M4 ∧ E = E4 ∧ D' = K4b ∧ s' = s4b ∧ M' = M4b ∧ E' = E4b) ↔ r = true)) := Lib.hid (fun v => by rw [← hr]; exact may_make hM hM' v h1)
    clear hr h1
    cases r
    · go_enter Tryz.func44, Tryz.ntmps44
      go_upto_region 1 with (fail)
      generalize hW1 : w.alloc _ = w1 at *; obtain ⟨X1, HB⟩ := Bo.en1 hW1; clear hW1; refine Jo.rj [0, 1, 2, 3, 4, 5, 6, 7, 8, 9, 10, 11, 12] [some 3, some 4, some 5, some 6, some 7, some 8, some 9, some 10, some 11, some 12, some 13, some 14, some 2] [[], [], [0, 1], [2], [3], [3], [3, 5], [3], [3, 7], [3, 6, 8], [3, 4, 9], [3, 10], [11]] 13 [(some 3, 0), (some 4, 1), (some 5, 2), (some 6, 3), (some 7, 4), (some 8, 5), (some 9, 6), (some 10, 7), (some 11, 8), (some 12, 9), (some 13, 10), (some 14, 11), (some 2, 12)] 0 [Jo.q9 e D s M E D' s' M' E', Jo.q9 true 0 false 0 0 0 false 0 0, Jo.qb false, Jo.qb false, Jo.q9 e D s M E D' s' M' E', Jo.qp w.heap.size 1, Jo.q4 D s M E, Jo.qp w.heap.size 5, Jo.q4 D' s' M' E', Jo.Fact.iv (mkI (rk D s M E) (rk D' s' M' E')), Jo.qb false, Jo.qb false, Jo.qb false] (by kernel_rfl) (by kernel_rfl) (by decide) rfl rfl ?_ ?_
      · refine Jo.jn 0 (some 3) [] _ rfl rfl rfl rfl ?_ ?_
        · rintro wj hJ K hK; simp only [Jo.z] at hK ⊢; obtain ⟨xX10, xX11, xX12, xX13, xX14, xX15, xX16, xX17, xX18⟩ := (X1.below hJ).u9; go_simp; exact hK.out _ _ rfl (br _ _)
        refine Jo.jn 1 (some 4) [] _ rfl rfl rfl rfl ?_ ?_
        · rintro wj hJ K hK; simp only [Jo.z] at hK ⊢; go_simp; refine (kvNoneE).mono ?_; rintro ee wk ⟨rfl, B⟩; exact hK.out _ _ rfl B
        refine Jo.jn 2 (some 5) [(some 3, 0), (some 4, 1)] _ rfl rfl rfl rfl ?_ ?_
        · rintro wj hJ _ rfl _ rfl K hK; simp only [Jo.z] at hK ⊢; have hne := HN1.out; go_simp
          repeat' split
          all_goals exact hK.out _ _ (congrArg Value.bool (by first | rfl | (exfalso; simp_all))) (br _ _)
        refine Jo.jn 3 (some 6) [(some 5, 2)] _ rfl rfl rfl rfl ?_ ?_
        · rintro wj hJ _ rfl K hK; simp only [Jo.z] at hK ⊢; go_simp; exact hK.out _ _ rfl (br _ _)
        refine Jo.jn 4 (some 7) [(some 6, 3)] _ rfl rfl rfl rfl ?_ ?_
        · rintro wj hJ _ rfl K hK; simp only [Jo.z] at hK ⊢; obtain ⟨xX10, xX11, xX12, xX13, xX14, xX15, xX16, xX17, xX18⟩ := (X1.below hJ).u9; go_simp; exact hK.out _ _ rfl (br _ _)
        refine Jo.jn 5 (some 8) [(some 6, 3)] _ rfl rfl rfl rfl ?_ ?_
        · rintro wj hJ _ rfl K hK; simp only [Jo.z] at hK ⊢; go_simp; exact hK.out _ _ rfl (br _ _)
        refine Jo.jn 6 (some 9) [(some 6, 3), (some 8, 5)] _ rfl rfl rfl rfl ?_ ?_
        · rintro wj hJ _ rfl _ rfl K hK; simp only [Jo.z] at hK ⊢; obtain ⟨xX11, xX12, xX13, xX14⟩ := (X1.below hJ).w9; go_simp; exact hK.out _ _ rfl (br _ _)
        refine Jo.jn 7 (some 10) [(some 6, 3)] _ rfl rfl rfl rfl ?_ ?_
        · rintro wj hJ _ rfl K hK; simp only [Jo.z] at hK ⊢; go_simp; exact hK.out _ _ rfl (br _ _)
        refine Jo.jn 8 (some 11) [(some 6, 3), (some 10, 7)] _ rfl rfl rfl rfl ?_ ?_
        · rintro wj hJ _ rfl _ rfl K hK; simp only [Jo.z] at hK ⊢; obtain ⟨xX15, xX16, xX17, xX18⟩ := (X1.below hJ).v9; go_simp; exact hK.out _ _ rfl (br _ _)
        refine Jo.jn 9 (some 12) [(some 6, 3), (some 9, 6), (some 11, 8)] _ rfl rfl rfl rfl ?_ ?_
        · rintro wj hJ _ rfl _ rfl _ rfl K hK; simp only [Jo.z] at hK ⊢; go_simp; refine (kvMake hM hM' rfl rfl rfl).mono ?_; rintro ee wk ⟨e9, K9, s9, M9, E9, K9b, s9b, M9b, E9b, rfl, v9, B⟩; exact hK.out _ _ ⟨e9, K9, s9, M9, E9, K9b, s9b, M9b, E9b, rfl, v9⟩ B
        refine Jo.jn 10 (some 13) [(some 6, 3), (some 7, 4), (some 12, 9)] _ rfl rfl rfl rfl ?_ ?_
        · rintro wj hJ _ rfl _ rfl _ ⟨e9, K9, s9, M9, E9, K9b, s9b, M9b, E9b, rfl, v9⟩ K hK; simp only [Jo.z] at hK ⊢
          have hne := fun c => ff ((HY.out v9).1 c)
          go_simp
          repeat' split
          all_goals exact hK.out _ _ (congrArg Value.bool (by first | rfl | (exfalso; simp_all))) (br _ _)
        refine Jo.jn 11 (some 14) [(some 6, 3), (some 13, 10)] _ rfl rfl rfl rfl ?_ ?_
        · rintro wj hJ _ rfl _ rfl K hK; simp only [Jo.z] at hK ⊢; go_simp; exact hK.out _ _ rfl (br _ _)
        refine Jo.jn 12 (some 2) [(some 14, 11)] _ rfl rfl rfl rfl ?_ ?_
        · rintro wj hJ _ rfl K hK; simp only [Jo.z] at hK ⊢; go_simp; exact hK.out _ _ rfl (br _ _)
        exact Jo.Steps.nil
      rintro w8 hJ _ rfl _ rfl _ rfl _ rfl _ rfl _ _ _ rfl _ _ _ rfl _ ⟨e9, K9, s9, M9, E9, K9b, s9b, M9b, E9b, rfl, v9⟩ _ rfl _ rfl _ rfl -; simp only [Jo.z]; replace X1 := X1.below hJ; replace HB := Lib.hid (bt HB.out hJ); refine Jo.jdone (by kernel_rfl) ?_; go_wp2
      go_ret
      exact ⟨rfl, HB.out⟩
    · go_enter Tryz.func44, Tryz.ntmps44
      go_upto_region 1 with (fail)
      generalize hW1 : w.alloc _ = w1 at *; obtain ⟨X1, HB⟩ := Bo.en1 hW1; clear hW1; refine Jo.rj [0, 1, 2, 3, 4, 5, 6, 7, 8, 9, 10, 11, 12] [some 3, some 4, some 5, some 6, some 7, some 8, some 9, some 10, some 11, some 12, some 13, some 14, some 2] [[], [], [0, 1], [2], [3], [3], [3, 5], [3], [3, 7], [3, 6, 8], [3, 4, 9], [3, 10], [11]] 13 [(some 3, 0), (some 4, 1), (some 5, 2), (some 6, 3), (some 7, 4), (some 8, 5), (some 9, 6), (some 10, 7), (some 11, 8), (some 12, 9), (some 13, 10), (some 14, 11), (some 2, 12)] 0 [Jo.q9 e D s M E D' s' M' E', Jo.q9 true 0 false 0 0 0 false 0 0, Jo.qb false, Jo.qb false, Jo.q9 e D s M E D' s' M' E', Jo.qp w.heap.size 1, Jo.q4 D s M E, Jo.qp w.heap.size 5, Jo.q4 D' s' M' E', Jo.Fact.iv (mkI (rk D s M E) (rk D' s' M' E')), Jo.qb true, Jo.qb true, Jo.qb true] (by kernel_rfl) (by kernel_rfl) (by decide) rfl rfl ?_ ?_
      · refine Jo.jn 0 (some 3) [] _ rfl rfl rfl rfl ?_ ?_
        · rintro wj hJ K hK; simp only [Jo.z] at hK ⊢; obtain ⟨xX10, xX11, xX12, xX13, xX14, xX15, xX16, xX17, xX18⟩ := (X1.below hJ).u9; go_simp; exact hK.out _ _ rfl (br _ _)
        refine Jo.jn 1 (some 4) [] _ rfl rfl rfl rfl ?_ ?_
        · rintro wj hJ K hK; simp only [Jo.z] at hK ⊢; go_simp; refine (kvNoneE).mono ?_; rintro ee wk ⟨rfl, B⟩; exact hK.out _ _ rfl B
        refine Jo.jn 2 (some 5) [(some 3, 0), (some 4, 1)] _ rfl rfl rfl rfl ?_ ?_
        · rintro wj hJ _ rfl _ rfl K hK; simp only [Jo.z] at hK ⊢; have hne := HN1.out; go_simp
          repeat' split
          all_goals exact hK.out _ _ (congrArg Value.bool (by first | rfl | (exfalso; simp_all))) (br _ _)
        refine Jo.jn 3 (some 6) [(some 5, 2)] _ rfl rfl rfl rfl ?_ ?_
        · rintro wj hJ _ rfl K hK; simp only [Jo.z] at hK ⊢; go_simp; exact hK.out _ _ rfl (br _ _)
        refine Jo.jn 4 (some 7) [(some 6, 3)] _ rfl rfl rfl rfl ?_ ?_
        · rintro wj hJ _ rfl K hK; simp only [Jo.z] at hK ⊢; obtain ⟨xX10, xX11, xX12, xX13, xX14, xX15, xX16, xX17, xX18⟩ := (X1.below hJ).u9; go_simp; exact hK.out _ _ rfl (br _ _)
        refine Jo.jn 5 (some 8) [(some 6, 3)] _ rfl rfl rfl rfl ?_ ?_
        · rintro wj hJ _ rfl K hK; simp only [Jo.z] at hK ⊢; go_simp; exact hK.out _ _ rfl (br _ _)
        refine Jo.jn 6 (some 9) [(some 6, 3), (some 8, 5)] _ rfl rfl rfl rfl ?_ ?_
        · rintro wj hJ _ rfl _ rfl K hK; simp only [Jo.z] at hK ⊢; obtain ⟨xX11, xX12, xX13, xX14⟩ := (X1.below hJ).w9; go_simp; exact hK.out _ _ rfl (br _ _)
        refine Jo.jn 7 (some 10) [(some 6, 3)] _ rfl rfl rfl rfl ?_ ?_
        · rintro wj hJ _ rfl K hK; simp only [Jo.z] at hK ⊢; go_simp; exact hK.out _ _ rfl (br _ _)
        refine Jo.jn 8 (some 11) [(some 6, 3), (some 10, 7)] _ rfl rfl rfl rfl ?_ ?_
        · rintro wj hJ _ rfl _ rfl K hK; simp only [Jo.z] at hK ⊢; obtain ⟨xX15, xX16, xX17, xX18⟩ := (X1.below hJ).v9; go_simp; exact hK.out _ _ rfl (br _ _)
        refine Jo.jn 9 (some 12) [(some 6, 3), (some 9, 6), (some 11, 8)] _ rfl rfl rfl rfl ?_ ?_
        · rintro wj hJ _ rfl _ rfl _ rfl K hK; simp only [Jo.z] at hK ⊢; go_simp; refine (kvMake hM hM' rfl rfl rfl).mono ?_; rintro ee wk ⟨e9, K9, s9, M9, E9, K9b, s9b, M9b, E9b, rfl, v9, B⟩; exact hK.out _ _ ⟨e9, K9, s9, M9, E9, K9b, s9b, M9b, E9b, rfl, v9⟩ B
        refine Jo.jn 10 (some 13) [(some 6, 3), (some 7, 4), (some 12, 9)] _ rfl rfl rfl rfl ?_ ?_
        · rintro wj hJ _ rfl _ rfl _ ⟨e9, K9, s9, M9, E9, K9b, s9b, M9b, E9b, rfl, v9⟩ K hK; simp only [Jo.z] at hK ⊢; obtain ⟨rfl, rfl, rfl, rfl, rfl, rfl, rfl, rfl, rfl⟩ := (HY.out v9).2 rfl; go_simp
          repeat' split
          all_goals exact hK.out _ _ (congrArg Value.bool (by first | rfl | (exfalso; simp_all) | simp_all)) (br _ _)
        refine Jo.jn 11 (some 14) [(some 6, 3), (some 13, 10)] _ rfl rfl rfl rfl ?_ ?_
        · rintro wj hJ _ rfl _ rfl K hK; simp only [Jo.z] at hK ⊢; go_simp; exact hK.out _ _ rfl (br _ _)
        refine Jo.jn 12 (some 2) [(some 14, 11)] _ rfl rfl rfl rfl ?_ ?_
        · rintro wj hJ _ rfl K hK; simp only [Jo.z] at hK ⊢; go_simp; exact hK.out _ _ rfl (br _ _)
        exact Jo.Steps.nil
      rintro w8 hJ _ rfl _ rfl _ rfl _ rfl _ rfl _ _ _ rfl _ _ _ rfl _ ⟨e9, K9, s9, M9, E9, K9b, s9b, M9b, E9b, rfl, v9⟩ _ rfl _ rfl _ rfl -; simp only [Jo.z]; replace X1 := X1.below hJ; replace HB := Lib.hid (bt HB.out hJ); refine Jo.jdone (by kernel_rfl) ?_; go_wp2
      go_ret
      exact ⟨rfl, HB.out⟩
set_option maxHeartbeats 2000000 in
theorem kvOrE {w : World} {e : Bool} {D M E D' M' E' : Int} {s s' : Bool} {x : Sp} (hM : M < 18446744073709551616) (hM' : M' < 18446744073709551616) (hr : rkI e D s M E D' s' M' E' = x) : Calls Tryz.prog 20 #[.agg #[.bool e, .int .i64 D, .bool s, .int .u64 M, .int .i64 E, .int .i64 D', .bool s', .int .u64 M', .int .i64 E']] w (PV w x) := by
  cases hm : mayI e D s M E D' s' M' E'
  · obtain rfl : none = x := (mayI_no hm).symm.trans hr
    have HM := Lib.hid hm; clear hm hr
    go_enter Tryz.func20, Tryz.ntmps20
    go_upto_region 1 with (fail)
    generalize hW1 : (w.alloc _).alloc _ = w1 at *; obtain ⟨X1, XR, HB⟩ := Bo.en2 hW1; clear hW1; obtain ⟨xX10, xX11, xX12, xX13, xX14, xX15, xX16, xX17, xX18⟩ := X1.u9
    go_wp2_with fail
    refine (kvMay hM hM' HM.out).mono ?_; rintro ee w2 ⟨rfl, B⟩; clear xX10 xX11 xX12 xX13 xX14 xX15 xX16 xX17 xX18; replace X1 := X1.below B; replace XR := XR.below B; replace HB := Lib.hid (bt HB.out B); clear B; clear HM hM hM'
    go_wp2_with fail
    refine (kvNoneE).mono ?_; rintro ee w3 ⟨rfl, B⟩; replace X1 := X1.below B; replace XR := XR.below B; replace HB := Lib.hid (bt HB.out B); clear B; obtain ⟨xXR0, xXR1, xXR2, xXR3, xXR4, xXR5, xXR6, xXR7, xXR8⟩ := XR.u9; have zXR0 := XR.frozen; go_wp2; clear xXR0 zXR0 xXR1 xXR2 xXR3 xXR4 xXR5 xXR6 xXR7 xXR8; have SX := StN.mk9 XR (.bool true) (.int .i64 0) (.bool false) (.int .u64 0) (.int .i64 0) (.int .i64 0) (.bool false) (.int .u64 0) (.int .i64 0)
    exact bodyPost_ret (by simp [results, Tryz.results20, go_sem, SX.box.cell]) rfl ⟨_, _, _, _, _, _, _, _, _, rfl, Ci.none, (SX.below HB.out (by omega))⟩
  · have hv := mayI_ci hM hM' hm; rw [hr] at hv; have HM := Lib.hid hm; clear hm hr
    go_enter Tryz.func20, Tryz.ntmps20
    go_upto_region 1 with (fail)
    generalize hW1 : (w.alloc _).alloc _ = w1 at *; obtain ⟨X1, XR, HB⟩ := Bo.en2 hW1; clear hW1; obtain ⟨xX10, xX11, xX12, xX13, xX14, xX15, xX16, xX17, xX18⟩ := X1.u9
    go_wp2_with fail
    refine (kvMay hM hM' HM.out).mono ?_; rintro ee w2 ⟨rfl, B⟩; clear xX10 xX11 xX12 xX13 xX14 xX15 xX16 xX17 xX18; replace X1 := X1.below B; replace XR := XR.below B; replace HB := Lib.hid (bt HB.out B); clear B; clear HM hM hM'; obtain ⟨xXR0, xXR1, xXR2, xXR3, xXR4, xXR5, xXR6, xXR7, xXR8⟩ := XR.u9; have zXR0 := XR.frozen; obtain ⟨xX10, xX11, xX12, xX13, xX14, xX15, xX16, xX17, xX18⟩ := X1.u9; go_wp2
    clear xXR0 zXR0 xXR1 xXR2 xXR3 xXR4 xXR5 xXR6 xXR7 xXR8 xX10 xX11 xX12 xX13 xX14 xX15 xX16 xX17 xX18; have SX := StN.mk9 XR (.bool e) (.int .i64 D) (.bool s) (.int .u64 M) (.int .i64 E) (.int .i64 D') (.bool s') (.int .u64 M') (.int .i64 E'); exact bodyPost_ret (by simp [results, Tryz.results20, go_sem, SX.box.cell]) rfl ⟨_, _, _, _, _, _, _, _, _, rfl, hv, (SX.below HB.out (by omega))⟩
set_option maxHeartbeats 4000000 in
theorem kvWithin {w : World} {e : Bool} {D M E D' M' E' : Int} {s s' : Bool} {e2 : Bool} {G P Q G' P' Q' : Int} {g g' : Bool} {x y : Sp} {r : Bool} (hM : M < 18446744073709551616) (hM' : M' < 18446744073709551616) (hP : P < 18446744073709551616) (hP' : P' < 18446744073709551616) (hx : rkI e D s M E D' s' M' E' = x) (hy : rkI e2 G g P Q G' g' P' Q' = y) (hr : witI x y = r) : Calls Tryz.prog 43 #[.agg #[.bool e, .int .i64 D, .bool s, .int .u64 M, .int .i64 E, .int .i64 D', .bool s', .int .u64 M', .int .i64 E'], .agg #[.bool e2, .int .i64 G, .bool g, .int .u64 P, .int .i64 Q, .int .i64 G', .bool g', .int .u64 P', .int .i64 Q']] w (PB w r) := by
  have HX := Lib.hid hx; have HY := Lib.hid hy; clear hx hy
  go_enter Tryz.func43, Tryz.ntmps43
  go_upto_region 1 with (fail)
  generalize hW1 : (w.alloc _).alloc _ = w1 at *; obtain ⟨X2, X3, HB⟩ := Bo.en2 hW1; clear hW1
  refine Jo.region_joint (T := [0, 1, 2, 3]) (ds := [some 5, some 6, some 7, some 8, none, none]) (ls := [[], [0], [], [2], [], []]) (k := 6) (L := [(some 5, 0), (some 6, 1), (some 7, 2), (some 8, 3)]) (fuel := 2) (J := fun wj => Below (World.heap w1).size w1 wj)
    (F := [Jo.q9 e D s M E D' s' M' E', Jo.Fact.iv x, Jo.q9 e2 G g P Q G' g' P' Q', Jo.Fact.iv y, Jo.Fact.any, Jo.Fact.any])
    (by kernel_rfl) (by kernel_rfl) (by decide) rfl rfl (fun _ _ h b => bt h b) ((br _ _).drew) ?_ (fun vs w2 hJ hd => ?_)
  · refine Jo.jn 0 (some 5) [] _ rfl rfl rfl rfl ?_ ?_
    · rintro wj hJ K hK; simp only [Jo.z] at hK ⊢; obtain ⟨xX20, xX21, xX22, xX23, xX24, xX25, xX26, xX27, xX28⟩ := (X2.below hJ).u9; go_simp; exact hK.out _ _ rfl (br _ _)
    refine Jo.jn 1 (some 6) [(some 5, 0)] _ rfl rfl rfl rfl ?_ ?_
    · rintro wj hJ _ rfl K hK; simp only [Jo.z] at hK ⊢; go_simp; refine (kvOrE hM hM' HX.out).mono ?_; rintro ee wk ⟨e1, K1, s1, M1, E1, K1b, s1b, M1b, E1b, rfl, v1, B⟩; exact hK.out _ _ ⟨e1, K1, s1, M1, E1, K1b, s1b, M1b, E1b, rfl, v1⟩ B
    refine Jo.jn 2 (some 7) [] _ rfl rfl rfl rfl ?_ ?_
    · rintro wj hJ K hK; simp only [Jo.z] at hK ⊢; obtain ⟨xX30, xX31, xX32, xX33, xX34, xX35, xX36, xX37, xX38⟩ := (X3.below hJ).u9; go_simp; exact hK.out _ _ rfl (br _ _)
    refine Jo.jn 3 (some 8) [(some 7, 2)] _ rfl rfl rfl rfl ?_ ?_
    · rintro wj hJ _ rfl K hK; simp only [Jo.z] at hK ⊢; go_simp; refine (kvOrE hP hP' HY.out).mono ?_; rintro ee wk ⟨e6, K6, s6, M6, E6, K6b, s6b, M6b, E6b, rfl, v6, B⟩; exact hK.out _ _ ⟨e6, K6, s6, M6, E6, K6b, s6b, M6b, E6b, rfl, v6⟩ B
    exact Jo.Steps.nil
  have d1 : (Jo.Fact.iv x).P (vs 1) w2 := hd 1 (by decide)
  have d3 : (Jo.Fact.iv y).P (vs 3) w2 := hd 3 (by decide)
  simp only [Jo.putl, Jo.zd, Jo.ze, Act.put, Jo.za, Jo.zb, Jo.zc]
  rw [show vs 0 = _ from hd 0 (by decide), show vs 2 = _ from hd 2 (by decide)]
  clear hd; generalize vs 1 = u1 at d1 ⊢; generalize vs 3 = u3 at d3 ⊢; obtain ⟨e1, K1, s1, M1, E1, K1b, s1b, M1b, E1b, rfl, v1⟩ := d1; obtain ⟨e6, K6, s6, M6, E6, K6b, s6b, M6b, E6b, rfl, v6⟩ := d3; replace X2 := X2.below hJ; replace X3 := X3.below hJ; replace HB := Lib.hid (bt HB.out hJ); obtain ⟨xX20, xX21, xX22, xX23, xX24, xX25, xX26, xX27, xX28⟩ := X2.u9; have zX20 := X2.frozen
  refine Jo.jnext (i := 4) (o := ⟨none, _, _, _, _, _⟩) (by kernel_rfl) rfl (fun K hK => ?_)
  go_simp; refine hK.out _ _ ?_; clear hK K xX20 zX20 xX21 xX22 xX23 xX24 xX25 xX26 xX27 xX28; generalize hS : ((((((((w2.setCell _ _).setCell _ _).setCell _ _).setCell _ _).setCell _ _).setCell _ _).setCell _ _).setCell _ _).setCell _ _ = w3 at *; have SX := StN.of9 X2 hS; replace X3 := X3.stn SX (by omega); replace HB := Lib.hid (SX.below HB.out (by omega)); replace X2 := SX.box; clear SX hS; obtain ⟨xX30, xX31, xX32, xX33, xX34, xX35, xX36, xX37, xX38⟩ := X3.u9
  have zX30 := X3.frozen
  refine Jo.jnext (i := 5) (o := ⟨none, _, _, _, _, _⟩) (by kernel_rfl) rfl (fun K hK => ?_)
  go_simp; refine hK.out _ _ ?_; clear hK K xX30 zX30 xX31 xX32 xX33 xX34 xX35 xX36 xX37 xX38; generalize hS : ((((((((w3.setCell _ _).setCell _ _).setCell _ _).setCell _ _).setCell _ _).setCell _ _).setCell _ _).setCell _ _).setCell _ _ = w4 at *; have SX := StN.of9 X3 hS; replace X2 := X2.stn SX (by omega); replace HB := Lib.hid (SX.below HB.out (by omega)); replace X3 := SX.box; clear SX hS; refine Jo.jdone (by kernel_rfl) ?_
  clear HX HY hM hM' hP hP'
  rcases x with _ | ⟨xa, xb⟩
  · obtain ⟨rfl, y1, y1b⟩ := v1
    obtain rfl : true = r := hr
    obtain ⟨_, rfl, rfl, rfl, rfl, rfl, rfl, rfl, rfl⟩ := (show Ci true K1 s1 M1 E1 K1b s1b M1b E1b none from ⟨rfl, y1, y1b⟩).uniq Ci.none
    clear y1 y1b; go_wp2; refine Jo.rj [0, 1, 2, 3] [some 10, some 11, some 12, some 9] [[], [], [0, 1], [2]] 4 [(some 10, 0), (some 11, 1), (some 12, 2), (some 9, 3)] 0 [Jo.q9 true 0 false 0 0 0 false 0 0, Jo.q9 true 0 false 0 0 0 false 0 0, Jo.qb true, Jo.qb true] (by kernel_rfl) (by kernel_rfl) (by decide) rfl rfl ?_ ?_
    · refine Jo.jn 0 (some 10) [] _ rfl rfl rfl rfl ?_ ?_
      · rintro wj hJ K hK; simp only [Jo.z] at hK ⊢; obtain ⟨xX20, xX21, xX22, xX23, xX24, xX25, xX26, xX27, xX28⟩ := (X2.below hJ).u9; go_simp; exact hK.out _ _ rfl (br _ _)
      refine Jo.jn 1 (some 11) [] _ rfl rfl rfl rfl ?_ ?_
      · rintro wj hJ K hK; simp only [Jo.z] at hK ⊢; go_simp; refine (kvNoneE).mono ?_; rintro ee wk ⟨rfl, B⟩; exact hK.out _ _ rfl B
      refine Jo.jn 2 (some 12) [(some 10, 0), (some 11, 1)] _ rfl rfl rfl rfl ?_ ?_
      · rintro wj hJ _ rfl _ rfl K hK; simp only [Jo.z] at hK ⊢; go_simp
        repeat' split
        all_goals exact hK.out _ _ (congrArg Value.bool (by first | rfl | (exfalso; simp_all) | simp_all)) (br _ _)
      refine Jo.jn 3 (some 9) [(some 12, 2)] _ rfl rfl rfl rfl ?_ ?_
      · rintro wj hJ _ rfl K hK; simp only [Jo.z] at hK ⊢; go_simp; exact hK.out _ _ rfl (br _ _)
      exact Jo.Steps.nil
    rintro w5 hJ _ rfl _ rfl _ rfl _ rfl -; simp only [Jo.z]; replace X2 := X2.below hJ; replace X3 := X3.below hJ; replace HB := Lib.hid (bt HB.out hJ); refine Jo.jdone (by kernel_rfl) ?_; go_wp2
    go_ret
    exact ⟨rfl, HB.out⟩
  · obtain ⟨rfl, a1, b1, o1, o1l, o1h⟩ := v1; go_wp2
    refine Jo.region_joint (T := [0, 1, 2, 3]) (ds := [some 10, some 11, some 12, some 9]) (ls := [[], [], [0, 1], [2]]) (k := 4) (L := [(some 10, 0), (some 11, 1), (some 12, 2), (some 9, 3)]) (fuel := 0) (J := fun wj => Below (World.heap w4).size w4 wj)
      (F := [Jo.q9 false K1 s1 M1 E1 K1b s1b M1b E1b, Jo.q9 true 0 false 0 0 0 false 0 0, Jo.qb false, Jo.qb false])
      (by kernel_rfl) (by kernel_rfl) (by decide) rfl rfl (fun _ _ h b => bt h b) ((br _ _).drew) ?_ (fun vs w5 hJ hd => ?_)
    · refine Jo.jn 0 (some 10) [] _ rfl rfl rfl rfl ?_ ?_
      · rintro wj hJ K hK; simp only [Jo.z] at hK ⊢; obtain ⟨xX20, xX21, xX22, xX23, xX24, xX25, xX26, xX27, xX28⟩ := (X2.below hJ).u9; go_simp; exact hK.out _ _ rfl (br _ _)
      refine Jo.jn 1 (some 11) [] _ rfl rfl rfl rfl ?_ ?_
      · rintro wj hJ K hK; simp only [Jo.z] at hK ⊢; go_simp; refine (kvNoneE).mono ?_; rintro ee wk ⟨rfl, B⟩; exact hK.out _ _ rfl B
      refine Jo.jn 2 (some 12) [(some 10, 0), (some 11, 1)] _ rfl rfl rfl rfl ?_ ?_
      · rintro wj hJ _ rfl _ rfl K hK; simp only [Jo.z] at hK ⊢; go_simp
        repeat' split
        all_goals exact hK.out _ _ (congrArg Value.bool (by first | rfl | (exfalso; simp_all))) (br _ _)
      refine Jo.jn 3 (some 9) [(some 12, 2)] _ rfl rfl rfl rfl ?_ ?_
      · rintro wj hJ _ rfl K hK; simp only [Jo.z] at hK ⊢; go_simp; exact hK.out _ _ rfl (br _ _)
      exact Jo.Steps.nil
    simp only [Jo.putl, Jo.zd, Jo.ze, Act.put, Jo.za, Jo.zb, Jo.zc]
    rw [show vs 0 = _ from hd 0 (by decide), show vs 1 = _ from hd 1 (by decide), show vs 2 = _ from hd 2 (by decide), show vs 3 = _ from hd 3 (by decide)]
    clear hd; replace X2 := X2.below hJ; replace X3 := X3.below hJ; replace HB := Lib.hid (bt HB.out hJ); refine Jo.jdone (by kernel_rfl) ?_
    rcases y with _ | ⟨ya, yb⟩
    · obtain ⟨rfl, y6, y6b⟩ := v6
      obtain rfl : false = r := hr
      obtain ⟨_, rfl, rfl, rfl, rfl, rfl, rfl, rfl, rfl⟩ := (show Ci true K6 s6 M6 E6 K6b s6b M6b E6b none from ⟨rfl, y6, y6b⟩).uniq Ci.none
      clear y6 y6b; go_wp2; refine Jo.rj [0, 1, 2, 3] [some 14, some 15, some 16, some 13] [[], [], [0, 1], [2]] 4 [(some 14, 0), (some 15, 1), (some 16, 2), (some 13, 3)] 0 [Jo.q9 true 0 false 0 0 0 false 0 0, Jo.q9 true 0 false 0 0 0 false 0 0, Jo.qb true, Jo.qb true] (by kernel_rfl) (by kernel_rfl) (by decide) rfl rfl ?_ ?_
      · refine Jo.jn 0 (some 14) [] _ rfl rfl rfl rfl ?_ ?_
        · rintro wj hJ K hK; simp only [Jo.z] at hK ⊢; obtain ⟨xX30, xX31, xX32, xX33, xX34, xX35, xX36, xX37, xX38⟩ := (X3.below hJ).u9; go_simp; exact hK.out _ _ rfl (br _ _)
        refine Jo.jn 1 (some 15) [] _ rfl rfl rfl rfl ?_ ?_
        · rintro wj hJ K hK; simp only [Jo.z] at hK ⊢; go_simp; refine (kvNoneE).mono ?_; rintro ee wk ⟨rfl, B⟩; exact hK.out _ _ rfl B
        refine Jo.jn 2 (some 16) [(some 14, 0), (some 15, 1)] _ rfl rfl rfl rfl ?_ ?_
        · rintro wj hJ _ rfl _ rfl K hK; simp only [Jo.z] at hK ⊢; go_simp
          repeat' split
          all_goals exact hK.out _ _ (congrArg Value.bool (by first | rfl | (exfalso; simp_all) | simp_all)) (br _ _)
        refine Jo.jn 3 (some 13) [(some 16, 2)] _ rfl rfl rfl rfl ?_ ?_
        · rintro wj hJ _ rfl K hK; simp only [Jo.z] at hK ⊢; go_simp; exact hK.out _ _ rfl (br _ _)
        exact Jo.Steps.nil
      rintro w6 hJ _ rfl _ rfl _ rfl _ rfl -; simp only [Jo.z]; replace X2 := X2.below hJ; replace X3 := X3.below hJ; replace HB := Lib.hid (bt HB.out hJ); refine Jo.jdone (by kernel_rfl) ?_; go_wp2
      go_ret
      exact ⟨rfl, HB.out⟩
    · obtain ⟨rfl, a6, b6, o6, o6l, o6h⟩ := v6; go_wp2; refine Jo.rj [0, 1, 2, 3] [some 14, some 15, some 16, some 13] [[], [], [0, 1], [2]] 4 [(some 14, 0), (some 15, 1), (some 16, 2), (some 13, 3)] 0 [Jo.q9 false K6 s6 M6 E6 K6b s6b M6b E6b, Jo.q9 true 0 false 0 0 0 false 0 0, Jo.qb false, Jo.qb false] (by kernel_rfl) (by kernel_rfl) (by decide) rfl rfl ?_ ?_
      · refine Jo.jn 0 (some 14) [] _ rfl rfl rfl rfl ?_ ?_
        · rintro wj hJ K hK; simp only [Jo.z] at hK ⊢; obtain ⟨xX30, xX31, xX32, xX33, xX34, xX35, xX36, xX37, xX38⟩ := (X3.below hJ).u9; go_simp; exact hK.out _ _ rfl (br _ _)
        refine Jo.jn 1 (some 15) [] _ rfl rfl rfl rfl ?_ ?_
        · rintro wj hJ K hK; simp only [Jo.z] at hK ⊢; go_simp; refine (kvNoneE).mono ?_; rintro ee wk ⟨rfl, B⟩; exact hK.out _ _ rfl B
        refine Jo.jn 2 (some 16) [(some 14, 0), (some 15, 1)] _ rfl rfl rfl rfl ?_ ?_
        · rintro wj hJ _ rfl _ rfl K hK; simp only [Jo.z] at hK ⊢; go_simp
          repeat' split
          all_goals exact hK.out _ _ (congrArg Value.bool (by first | rfl | (exfalso; simp_all))) (br _ _)
        refine Jo.jn 3 (some 13) [(some 16, 2)] _ rfl rfl rfl rfl ?_ ?_
        · rintro wj hJ _ rfl K hK; simp only [Jo.z] at hK ⊢; go_simp; exact hK.out _ _ rfl (br _ _)
        exact Jo.Steps.nil
      rintro w6 hJ _ rfl _ rfl _ rfl _ rfl -; simp only [Jo.z]; replace X2 := X2.below hJ; replace X3 := X3.below hJ; replace HB := Lib.hid (bt HB.out hJ); refine Jo.jdone (by kernel_rfl) ?_
      have hr2 : (decide (ya ≤ xa) && decide (xb ≤ yb)) = r := hr
      clear hr
      cases hk1 : decide (ya ≤ xa)
      · rw [hk1] at hr2
        obtain rfl : false = r := hr2
        obtain ⟨c1, hc1⟩ : ∃ c, cmpI xa ya = c := ⟨_, rfl⟩; have ht1 := cmp_geE hc1; rw [hk1] at ht1
        have HC1 : Hid (cmpI (rk K1 s1 M1 E1) (rk K6 s6 M6 E6) = c1) := Lib.hid (by rw [a1.rk, a6.rk]; exact hc1)
        clear hc1 hk1; obtain ⟨xX20, xX21, xX22, xX23, xX24, xX25, xX26, xX27, xX28⟩ := X2.u9; obtain ⟨xX30, xX31, xX32, xX33, xX34, xX35, xX36, xX37, xX38⟩ := X3.u9
        go_wp2_with fail
        refine (nCmp a1.top a6.top HC1.out).mono ?_; rintro ee w7 ⟨rfl, B⟩; clear xX20 xX21 xX22 xX23 xX24 xX25 xX26 xX27 xX28 xX30 xX31 xX32 xX33 xX34 xX35 xX36 xX37 xX38; replace X2 := X2.below B; replace X3 := X3.below B; replace HB := Lib.hid (bt HB.out B); clear B; go_wp2
        go_ret
        exact ⟨rfl, HB.out⟩
      · rw [hk1] at hr2; obtain ⟨z, hk3⟩ : ∃ z, decide (xb ≤ yb) = z := ⟨_, rfl⟩; rw [hk3] at hr2
        obtain rfl : z = r := hr2
        obtain ⟨c1, hc1⟩ : ∃ c, cmpI xa ya = c := ⟨_, rfl⟩; have ht1 := cmp_geE hc1; rw [hk1] at ht1
        have HC1 : Hid (cmpI (rk K1 s1 M1 E1) (rk K6 s6 M6 E6) = c1) := Lib.hid (by rw [a1.rk, a6.rk]; exact hc1)
        clear hc1 hk1; obtain ⟨xX20, xX21, xX22, xX23, xX24, xX25, xX26, xX27, xX28⟩ := X2.u9; obtain ⟨xX30, xX31, xX32, xX33, xX34, xX35, xX36, xX37, xX38⟩ := X3.u9
        go_wp2_with fail
        refine (nCmp a1.top a6.top HC1.out).mono ?_; rintro ee w7 ⟨rfl, B⟩; clear xX20 xX21 xX22 xX23 xX24 xX25 xX26 xX27 xX28 xX30 xX31 xX32 xX33 xX34 xX35 xX36 xX37 xX38; replace X2 := X2.below B; replace X3 := X3.below B; replace HB := Lib.hid (bt HB.out B); clear B; obtain ⟨c3, hc3⟩ : ∃ c, cmpI xb yb = c := ⟨_, rfl⟩; have ht3 := cmp_le hc3; rw [hk3] at ht3
        have HC3 : Hid (cmpI (rk K1b s1b M1b E1b) (rk K6b s6b M6b E6b) = c3) := Lib.hid (by rw [b1.rk, b6.rk]; exact hc3)
        clear hc3 hk3; obtain ⟨xX20, xX21, xX22, xX23, xX24, xX25, xX26, xX27, xX28⟩ := X2.u9; obtain ⟨xX30, xX31, xX32, xX33, xX34, xX35, xX36, xX37, xX38⟩ := X3.u9
        go_wp2_with fail
        refine (nCmp b1.top b6.top HC3.out).mono ?_; rintro ee w8 ⟨rfl, B⟩; clear xX20 xX21 xX22 xX23 xX24 xX25 xX26 xX27 xX28 xX30 xX31 xX32 xX33 xX34 xX35 xX36 xX37 xX38; replace X2 := X2.below B; replace X3 := X3.below B; replace HB := Lib.hid (bt HB.out B); clear B; go_wp2
        go_ret
        exact ⟨by first | rfl | (show Ending.returned (.bool _) = _; rw [ht3]), HB.out⟩
theorem has_pt {x : Sp} {n : Int} (h1 : -19342822337206103650074625 < n) (h2 : n < 19342822337206103650074625) : hasI x n = witI (some (n, n)) x := by
  have hi : infp n = false := by
    rcases h : infp n
    · rfl
    · have := TP_eq
      rcases infp_true h with e | e <;> omega
  rcases x with _ | ⟨a, b⟩
  · rfl
  · show (!infp n && decide (a ≤ n) && decide (n ≤ b)) = (decide (a ≤ n) && decide (n ≤ b))
    rw [hi]
    rfl
theorem has_inf {x : Sp} {n : Int} (h : ¬ (-19342822337206103650074625 < n ∧ n < 19342822337206103650074625)) (b1 : -19342822337206103650074625 ≤ n) (b2 : n ≤ 19342822337206103650074625) : hasI x n = false := by
  have hi : infp n = true := by
    rcases (by omega : n = -19342822337206103650074625 ∨ n = 19342822337206103650074625) with rfl | rfl <;> rfl
  rcases x with _ | ⟨a, b⟩
  · rfl
  · show (!infp n && decide (a ≤ n) && decide (n ≤ b)) = false
    rw [hi]
    rfl
theorem rk_bdn {D : Int} {s : Bool} {M E n : Int} (hM : M < 18446744073709551616) (h : rk D s M E = n) : -19342822337206103650074625 ≤ n ∧ n ≤ 19342822337206103650074625 := by
  by_cases hm : MayQ D s M E
  · have := (rk_fq hM hm).bd
    rw [h] at this; exact this
  · rw [rk_not hm] at h
    omega
set_option maxHeartbeats 4000000 in
theorem kvHas {w : World} {e : Bool} {D M E D' M' E' : Int} {s s' : Bool} {G P Q : Int} {g : Bool} {x : Sp} {n : Int} {r : Bool} (hM : M < 18446744073709551616) (hM' : M' < 18446744073709551616) (hP : P < 18446744073709551616) (hx : rkI e D s M E D' s' M' E' = x) (hn : rk G g P Q = n) (hr : hasI x n = r) : Calls Tryz.prog 19 #[.agg #[.bool e, .int .i64 D, .bool s, .int .u64 M, .int .i64 E, .int .i64 D', .bool s', .int .u64 M', .int .i64 E'], .agg #[.int .i64 G, .bool g, .int .u64 P, .int .i64 Q]] w (PB w r) := by
  have hbd := rk_bdn hP hn; have HX := Lib.hid hx; have HN := Lib.hid hn; clear hx hn
  by_cases hin : -19342822337206103650074625 < n ∧ n < 19342822337206103650074625
  · have HR := Lib.hid ((has_pt hin.1 hin.2).symm.trans hr); have HI := Lib.hid (mkI_some (a := n) (b := n) (by omega) hin.2 hin.1); clear hr hbd
    go_enter Tryz.func19, Tryz.ntmps19
    go_upto_region 1 with (fail)
    generalize hW1 : (w.alloc _).alloc _ = w1 at *; obtain ⟨X2, X3, HB⟩ := Bo.en2 hW1; clear hW1; obtain ⟨xX30, xX31, xX32, xX33⟩ := X3.u4
    go_wp2_with fail
    refine (kvPoint hP HN.out HI.out).mono ?_; rintro ee w2 ⟨e1, K1, s1, M1, E1, K1b, s1b, M1b, E1b, rfl, v1, B⟩; clear xX30 xX31 xX32 xX33; replace X2 := X2.below B; replace X3 := X3.below B; replace HB := Lib.hid (bt HB.out B); clear B
    go_upto_region 2 with (fail)
    have lX5 := Nat.le_refl (World.heap w2).size; have nX5X2 := X2.lt; have nX5X3 := X3.lt; generalize hWn : w2.alloc _ = w3 at *; obtain ⟨X5, BW⟩ := Bo.nw hWn; clear hWn; replace X2 := X2.below BW; replace X3 := X3.below BW; replace HB := Lib.hid (bt HB.out BW); clear BW; clear lX5; have e1f := v1.1; subst e1f; refine Jo.rj [0, 1, 2, 3, 4, 5, 6, 7, 8] [some 8, some 9, some 10, some 11, some 12, some 13, some 14, some 15, some 4] [[], [], [0, 1], [2], [3], [3], [3, 4, 5], [3, 6], [7]] 9 [(some 8, 0), (some 9, 1), (some 10, 2), (some 11, 3), (some 12, 4), (some 13, 5), (some 14, 6), (some 15, 7), (some 4, 8)] 0 [Jo.q9 false K1 s1 M1 E1 K1b s1b M1b E1b, Jo.q9 true 0 false 0 0 0 false 0 0, Jo.qb true, Jo.qb true, Jo.q9 false K1 s1 M1 E1 K1b s1b M1b E1b, Jo.q9 e D s M E D' s' M' E', Jo.qb r, Jo.qb r, Jo.qb r] (by kernel_rfl) (by kernel_rfl) (by decide) rfl rfl ?_ ?_
    · refine Jo.jn 0 (some 8) [] _ rfl rfl rfl rfl ?_ ?_
      · rintro wj hJ K hK; simp only [Jo.z] at hK ⊢; obtain ⟨xX50, xX51, xX52, xX53, xX54, xX55, xX56, xX57, xX58⟩ := (X5.below hJ).u9; go_simp; exact hK.out _ _ rfl (br _ _)
      refine Jo.jn 1 (some 9) [] _ rfl rfl rfl rfl ?_ ?_
      · rintro wj hJ K hK; simp only [Jo.z] at hK ⊢; go_simp; refine (kvNoneE).mono ?_; rintro ee wk ⟨rfl, B⟩; exact hK.out _ _ rfl B
      refine Jo.jn 2 (some 10) [(some 8, 0), (some 9, 1)] _ rfl rfl rfl rfl ?_ ?_
      · rintro wj hJ _ rfl _ rfl K hK; simp only [Jo.z] at hK ⊢; go_simp
        repeat' split
        all_goals exact hK.out _ _ (congrArg Value.bool (by first | rfl | (exfalso; simp_all) | simp_all)) (br _ _)
      refine Jo.jn 3 (some 11) [(some 10, 2)] _ rfl rfl rfl rfl ?_ ?_
      · rintro wj hJ _ rfl K hK; simp only [Jo.z] at hK ⊢; go_simp; exact hK.out _ _ rfl (br _ _)
      refine Jo.jn 4 (some 12) [(some 11, 3)] _ rfl rfl rfl rfl ?_ ?_
      · rintro wj hJ _ rfl K hK; simp only [Jo.z] at hK ⊢; obtain ⟨xX50, xX51, xX52, xX53, xX54, xX55, xX56, xX57, xX58⟩ := (X5.below hJ).u9; go_simp; exact hK.out _ _ rfl (br _ _)
      refine Jo.jn 5 (some 13) [(some 11, 3)] _ rfl rfl rfl rfl ?_ ?_
      · rintro wj hJ _ rfl K hK; simp only [Jo.z] at hK ⊢; obtain ⟨xX20, xX21, xX22, xX23, xX24, xX25, xX26, xX27, xX28⟩ := (X2.below hJ).u9; go_simp; exact hK.out _ _ rfl (br _ _)
      refine Jo.jn 6 (some 14) [(some 11, 3), (some 12, 4), (some 13, 5)] _ rfl rfl rfl rfl ?_ ?_
      · rintro wj hJ _ rfl _ rfl _ rfl K hK; simp only [Jo.z] at hK ⊢; go_simp; refine (kvWithin v1.top.1 v1.top.2 hM hM' v1.rk HX.out HR.out).mono ?_; rintro ee wk ⟨rfl, B⟩; exact hK.out _ _ rfl B
      refine Jo.jn 7 (some 15) [(some 11, 3), (some 14, 6)] _ rfl rfl rfl rfl ?_ ?_
      · rintro wj hJ _ rfl _ rfl K hK; simp only [Jo.z] at hK ⊢; go_simp; exact hK.out _ _ rfl (br _ _)
      refine Jo.jn 8 (some 4) [(some 15, 7)] _ rfl rfl rfl rfl ?_ ?_
      · rintro wj hJ _ rfl K hK; simp only [Jo.z] at hK ⊢; go_simp; exact hK.out _ _ rfl (br _ _)
      exact Jo.Steps.nil
    rintro w8 hJ _ rfl _ rfl _ rfl _ rfl _ rfl _ rfl _ rfl _ rfl _ rfl -; simp only [Jo.z]; replace X2 := X2.below hJ; replace X3 := X3.below hJ; replace X5 := X5.below hJ; replace HB := Lib.hid (bt HB.out hJ); refine Jo.jdone (by kernel_rfl) ?_; go_wp2
    go_ret
    exact ⟨rfl, HB.out⟩
  · have hf := has_inf (x := x) hin hbd.1 hbd.2
    obtain rfl : false = r := hf.symm.trans hr
    have HI : Hid (mkI n n = none) := Lib.hid (mkI_none (by omega))
    clear hr hbd hf
    go_enter Tryz.func19, Tryz.ntmps19
    go_upto_region 1 with (fail)
    generalize hW1 : (w.alloc _).alloc _ = w1 at *; obtain ⟨X2, X3, HB⟩ := Bo.en2 hW1; clear hW1; obtain ⟨xX30, xX31, xX32, xX33⟩ := X3.u4
    go_wp2_with fail
    refine (kvPoint hP HN.out HI.out).mono ?_; rintro ee w2 ⟨e1, K1, s1, M1, E1, K1b, s1b, M1b, E1b, rfl, v1, B⟩; clear xX30 xX31 xX32 xX33; replace X2 := X2.below B; replace X3 := X3.below B; replace HB := Lib.hid (bt HB.out B); clear B
    go_upto_region 2 with (fail)
    have lX5 := Nat.le_refl (World.heap w2).size; have nX5X2 := X2.lt; have nX5X3 := X3.lt; generalize hWn : w2.alloc _ = w3 at *; obtain ⟨X5, BW⟩ := Bo.nw hWn; clear hWn; replace X2 := X2.below BW; replace X3 := X3.below BW; replace HB := Lib.hid (bt HB.out BW); clear BW; clear lX5; obtain ⟨rfl, rfl, rfl, rfl, rfl, rfl, rfl, rfl, rfl⟩ := v1.uniq Ci.none; refine Jo.rj [0, 1, 2, 3, 4, 5, 6, 7, 8] [some 8, some 9, some 10, some 11, some 12, some 13, some 14, some 15, some 4] [[], [], [0, 1], [2], [3], [3], [3, 4, 5], [3, 6], [7]] 9 [(some 8, 0), (some 9, 1), (some 10, 2), (some 11, 3), (some 12, 4), (some 13, 5), (some 14, 6), (some 15, 7), (some 4, 8)] 0 [Jo.q9 true 0 false 0 0 0 false 0 0, Jo.q9 true 0 false 0 0 0 false 0 0, Jo.qb false, Jo.qb false, Jo.qu, Jo.qu, Jo.qu, Jo.qb false, Jo.qb false] (by kernel_rfl) (by kernel_rfl) (by decide) rfl rfl ?_ ?_
    · refine Jo.jn 0 (some 8) [] _ rfl rfl rfl rfl ?_ ?_
      · rintro wj hJ K hK; simp only [Jo.z] at hK ⊢; obtain ⟨xX50, xX51, xX52, xX53, xX54, xX55, xX56, xX57, xX58⟩ := (X5.below hJ).u9; go_simp; exact hK.out _ _ rfl (br _ _)
      refine Jo.jn 1 (some 9) [] _ rfl rfl rfl rfl ?_ ?_
      · rintro wj hJ K hK; simp only [Jo.z] at hK ⊢; go_simp; refine (kvNoneE).mono ?_; rintro ee wk ⟨rfl, B⟩; exact hK.out _ _ rfl B
      refine Jo.jn 2 (some 10) [(some 8, 0), (some 9, 1)] _ rfl rfl rfl rfl ?_ ?_
      · rintro wj hJ _ rfl _ rfl K hK; simp only [Jo.z] at hK ⊢; go_simp
        repeat' split
        all_goals exact hK.out _ _ (congrArg Value.bool (by first | rfl | (exfalso; simp_all) | simp_all)) (br _ _)
      refine Jo.jn 3 (some 11) [(some 10, 2)] _ rfl rfl rfl rfl ?_ ?_
      · rintro wj hJ _ rfl K hK; simp only [Jo.z] at hK ⊢; go_simp; exact hK.out _ _ rfl (br _ _)
      refine Jo.jn 4 (some 12) [(some 11, 3)] _ rfl rfl rfl rfl ?_ ?_
      · rintro wj hJ _ rfl K hK; simp only [Jo.z] at hK ⊢; go_simp; exact hK.out _ _ rfl (br _ _)
      refine Jo.jn 5 (some 13) [(some 11, 3)] _ rfl rfl rfl rfl ?_ ?_
      · rintro wj hJ _ rfl K hK; simp only [Jo.z] at hK ⊢; go_simp; exact hK.out _ _ rfl (br _ _)
      refine Jo.jn 6 (some 14) [(some 11, 3), (some 12, 4), (some 13, 5)] _ rfl rfl rfl rfl ?_ ?_
      · rintro wj hJ _ rfl _ rfl _ rfl K hK; simp only [Jo.z] at hK ⊢; go_simp; exact hK.out _ _ rfl (br _ _)
      refine Jo.jn 7 (some 15) [(some 11, 3), (some 14, 6)] _ rfl rfl rfl rfl ?_ ?_
      · rintro wj hJ _ rfl _ rfl K hK; simp only [Jo.z] at hK ⊢; go_simp; exact hK.out _ _ rfl (br _ _)
      refine Jo.jn 8 (some 4) [(some 15, 7)] _ rfl rfl rfl rfl ?_ ?_
      · rintro wj hJ _ rfl K hK; simp only [Jo.z] at hK ⊢; go_simp; exact hK.out _ _ rfl (br _ _)
      exact Jo.Steps.nil
    rintro w8 hJ _ rfl _ rfl _ rfl _ rfl _ rfl _ rfl _ rfl _ rfl _ rfl -; simp only [Jo.z]; replace X2 := X2.below hJ; replace X3 := X3.below hJ; replace X5 := X5.below hJ; replace HB := Lib.hid (bt HB.out hJ); refine Jo.jdone (by kernel_rfl) ?_; go_wp2
    go_ret
    exact ⟨rfl, HB.out⟩
end Go.Proofs.YthhlccdmflgbbaaGreatDoor

/-
  What iv's ends, Meet and Hull do.
-/
namespace Go.Proofs.YthhlccdmflgbbaaGreatDoor
open Go.RowKit
set_option linter.unusedVariables false
set_option linter.unusedSimpArgs false
set_option maxRecDepth 100000

theorem Na.stn {w w' : World} {base n c g : Nat} {A : Option Addr} {l : List Int} {a b : Array Value} {T : TypeId} (h : Na w base A n c l) (S : StN w w' g a b T) (hT : (T == 24) = false) : Na w' base A n c l := by
  obtain ⟨r, h1, h2⟩ := h; refine ⟨r, ⟨h1.1, ?_⟩, h2⟩
  rcases h1.2 with h3 | ⟨g0, cap, cur, hv, hg, hh, q⟩
  · exact .inl h3
  · refine .inr ⟨g0, cap, cur, hv, hg, ?_, q⟩
    rw [S.2.2.1 g0 (fun e => ?_)]
    · exact hh
    · subst e
      have hb : w.heap[g0]? = some (.cells a T (0, 0)) := S.1
      rw [hh] at hb
      simp at hb
      rw [← hb.2] at hT
      simp at hT
theorem Bo.grownN {w w' : World} {base n c g : Nat} {A : Option Addr} {l : List Int} {a : Array Value} {T : TypeId} (X : Bo w g a T) (h : Na w base A n c l) (hT : (T == 24) = false) (G : w.grownBy w' (ownA A)) : Bo w' g a T := by
  refine X.keep (G.block g X.lt (fun e => ?_))
  obtain ⟨r, h1, h2⟩ := h
  rcases h1.2 with ⟨h3, _⟩ | ⟨g0, cap, cur, hv, hg, hh, q⟩
  · injection h3 with h4
    subst h4
    cases e
  · injection hv with h4
    subst h4
    cases e
    have hb := X
    unfold Bo at hb
    rw [hh] at hb
    simp at hb
    rw [← hb.2] at hT
    simp at hT
theorem ne_row {A A2 B B2 : Option Addr} {s1 s2 : Nat} (hne : ∀ k, ownA A = some k → ownA B ≠ some k) (a1 : ownA A2 = ownA A ∨ ownA A2 = some s1) (a2 : ownA B2 = ownA B ∨ ownA B2 = some s2) (lB : ∀ k, ownA B = some k → k < s1) (lA : ∀ k, ownA A2 = some k → k < s2) : ∀ k, ownA A2 = some k → ownA B2 ≠ some k := by
  intro k h c
  have hk := lA k h
  rcases a2 with e | e
  · rw [e] at c; have hb := lB k c
    rcases a1 with f | f
    · rw [f] at h; exact hne k h c
    · rw [f] at h
      injection h with h
      omega
  · rw [e] at c
    injection c with c
    omega
theorem own_ne {A B : Option Addr} (hne : ∀ k, ownA A = some k → ownA B ≠ some k) : ownA B = none ∨ ownA B ≠ ownA A := by
  rcases h : ownA B with _ | k
  · exact .inl rfl
  · exact .inr (fun c => hne k c.symm h)
theorem own_ne' {A B : Option Addr} (hne : ∀ k, ownA A = some k → ownA B ≠ some k) : ownA A = none ∨ ownA A ≠ ownA B := by
  rcases h : ownA A with _ | k
  · exact .inl rfl
  · exact .inr (fun c => hne k h c.symm)
/-- Behind k rounds: both rows of ends. -/
def EInv (w : World) (A B : Option Addr) (m c d : Nat) (la lb : List Int) (wr : World) : Prop :=
  Na wr w.heap.size A m c la ∧ Na wr w.heap.size B m d lb ∧ (∀ k, ownA A = some k → ownA B ≠ some k) ∧ Below w.heap.size w wr
set_option maxHeartbeats 8000000 in
theorem kvEnds {w : World} {A : Option Addr} {n c m : Nat} {l : List Sp} (h : Il8 w A n c l) (hm : (lowL l).length = m) : Calls Tryz.prog 40 #[.slice A n c] w (fun e w' => ∃ A1 c1 B1 d1, e = .returned (.tuple #[.slice A1 m c1, .slice B1 m d1]) ∧ Nl w' A1 m c1 (lowL l) ∧ Nl w' B1 m d1 (highL l) ∧ Below w.heap.size w w') := by
  have HM := Lib.hid hm; have HLn := Lib.hid h.1; have hcap := h.2.1; have hbig := h.2.2.1; have hD0 := h; clear hm h
  go_enter Tryz.func40, Tryz.ntmps40
  go_wp2
  go_loopw [2, 3, 8] (fun va vb i wr => ∃ k A1 B1 m1 c1 d1, k ≤ n ∧ m1 ≤ k ∧ va = .slice A1 m1 c1 ∧ vb = .slice B1 m1 d1 ∧ i = .int .i64 ((k : Nat) : Int) ∧ EInv w A1 B1 m1 c1 d1 (lowL (l.take k)) (highL (l.take k)) wr) (fun _ _ i _ => n - (intOf i).toNat)
  case atStart => exact ⟨0, _, _, _, _, _, Nat.zero_le _, Nat.zero_le _, rfl, rfl, rfl, Na.nil _ _, Na.nil _ _, (fun k h => by cases h), Below.refl _ _⟩
  case round =>
    obtain ⟨k, A1, B1, m1, c1, d1, hk, hmk, rfl, rfl, rfl, N1, N2, hne, hB⟩ := hrel; have HB := Lib.hid hB; clear hB
    by_cases hlt : k < n
    · have tlt : decide ((k : Int) < (n : Int)) = true := by simp; omega
      have h := hD0.below HB.out; obtain ⟨b, o, rfl, hcell⟩ := h.2.2.2 (by omega); obtain ⟨e, D, s, M, E, D', s', M', E', x0, x1, x2, x3, x4, x5, x6, x7, x8, hM, hM', hx⟩ := hcell k hlt; clear hcell h hD0
      have i1 : (k : Int) < n := by omega
      have i2 : (0 : Int) ≤ k := by omega
      have hsl := lowL_take (l := l) (k := k) (by rw [HLn.out]; exact hlt); have hsh := highL_take (l := l) (k := k) (by rw [HLn.out]; exact hlt); rw [← hx] at hsl hsh; generalize lowL (l.take k) = la at *; generalize highL (l.take k) = lb at *; obtain ⟨x, hX⟩ : ∃ x, rkI e D s M E D' s' M' E' = x := ⟨_, rfl⟩; rw [hX] at hsl hsh; have HX := Lib.hid hX; have HSL := Lib.hid hsl; have HSH := Lib.hid hsh
      have HNE := Lib.hid hne; clear hsl hsh hX hx hne; have hsz := HB.out.size
      go_upto_region 4 with (fail)
      clear x0 x1 x2 x3 x4 x5 x6 x7 x8; have lX5 := Nat.le_refl (World.heap wr).size; generalize hWn : wr.alloc _ = w3 at *; obtain ⟨X5, BW⟩ := Bo.nw hWn; clear hWn; replace N1 := N1.below BW; replace N2 := N2.below BW; replace HB := Lib.hid (bt HB.out BW); clear BW; clear lX5; obtain ⟨xX50, xX51, xX52, xX53, xX54, xX55, xX56, xX57, xX58⟩ := X5.u9
      go_wp2_with fail
      refine (kvOrE hM hM' HX.out).mono ?_; rintro ee w4 ⟨e1, K1, s1, M1, E1, K1b, s1b, M1b, E1b, rfl, v1, B⟩; clear xX50 xX51 xX52 xX53 xX54 xX55 xX56 xX57 xX58; replace X5 := X5.below B; replace N1 := N1.below B; replace N2 := N2.below B; replace HB := Lib.hid (bt HB.out B); clear B; clear HX hM hM'; obtain ⟨xX50, xX51, xX52, xX53, xX54, xX55, xX56, xX57, xX58⟩ := X5.u9; have zX50 := X5.frozen
      go_upto_region 5 with (fail)
      clear xX50 zX50 xX51 xX52 xX53 xX54 xX55 xX56 xX57 xX58; generalize hS : ((((((((w4.setCell _ _).setCell _ _).setCell _ _).setCell _ _).setCell _ _).setCell _ _).setCell _ _).setCell _ _).setCell _ _ = w5 at *; have SX := StN.of9 X5 hS; replace N1 := N1.stn SX (by decide); replace N2 := N2.stn SX (by decide); replace HB := Lib.hid (SX.below HB.out hsz); replace X5 := SX.box; clear SX hS
      rcases x with _ | ⟨xa, xb⟩
      · obtain ⟨rfl, y1, y1b⟩ := v1; have hsl2 := HSL.out; have hsh2 := HSH.out
        have hl0 : la ++ lo1 none = la := List.append_nil la
        have hh0 : lb ++ hi1 none = lb := List.append_nil lb
        rw [hl0] at hsl2; rw [hh0] at hsh2; clear HSL HSH hl0 hh0
        obtain ⟨_, rfl, rfl, rfl, rfl, rfl, rfl, rfl, rfl⟩ := (show Ci true K1 s1 M1 E1 K1b s1b M1b E1b none from ⟨rfl, y1, y1b⟩).uniq Ci.none
        clear y1 y1b; refine Jo.rj [0, 1, 2] [some 14, some 15, some 16] [[], [], [0, 1]] 3 [(some 14, 0), (some 15, 1), (some 16, 2)] 0 [Jo.q9 true 0 false 0 0 0 false 0 0, Jo.q9 true 0 false 0 0 0 false 0 0, Jo.qb false] (by kernel_rfl) (by kernel_rfl) (by decide) rfl rfl ?_ ?_
        · refine Jo.jn 0 (some 14) [] _ rfl rfl rfl rfl ?_ ?_
          · rintro wj hJ K hK; simp only [Jo.z] at hK ⊢; obtain ⟨xX50, xX51, xX52, xX53, xX54, xX55, xX56, xX57, xX58⟩ := (X5.below hJ).u9; go_simp; exact hK.out _ _ rfl (br _ _)
          refine Jo.jn 1 (some 15) [] _ rfl rfl rfl rfl ?_ ?_
          · rintro wj hJ K hK; simp only [Jo.z] at hK ⊢; go_simp; refine (kvNoneE).mono ?_; rintro ee wk ⟨rfl, B⟩; exact hK.out _ _ rfl B
          refine Jo.jn 2 (some 16) [(some 14, 0), (some 15, 1)] _ rfl rfl rfl rfl ?_ ?_
          · rintro wj hJ _ rfl _ rfl K hK; simp only [Jo.z] at hK ⊢; go_simp
            repeat' split
            all_goals exact hK.out _ _ (congrArg Value.bool (by first | rfl | (exfalso; simp_all) | simp_all)) (br _ _)
          exact Jo.Steps.nil
        rintro w6 hJ _ rfl _ rfl _ rfl -; simp only [Jo.z]; replace X5 := X5.below hJ; replace N1 := N1.below hJ; replace N2 := N2.below hJ; replace HB := Lib.hid (bt HB.out hJ); refine Jo.jdone (by kernel_rfl) ?_; go_wp2
        go_roundw
        case rel => exact ⟨k + 1, _, _, _, _, _, by omega, by omega, rfl, rfl, by go_num, by rw [hsl2]; exact N1, by rw [hsh2]; exact N2, HNE.out, HB.out⟩
        case measure => simp [intOf]; omega
      · obtain ⟨rfl, a1, b1, o1, o1l, o1h⟩ := v1
        have hsl2 : _ = la ++ [xa] := HSL.out
        have hsh2 : _ = lb ++ [xb] := HSH.out
        clear HSL HSH o1 o1l o1h; refine Jo.rj [0, 1, 2] [some 14, some 15, some 16] [[], [], [0, 1]] 3 [(some 14, 0), (some 15, 1), (some 16, 2)] 0 [Jo.q9 false K1 s1 M1 E1 K1b s1b M1b E1b, Jo.q9 true 0 false 0 0 0 false 0 0, Jo.qb true] (by kernel_rfl) (by kernel_rfl) (by decide) rfl rfl ?_ ?_
        · refine Jo.jn 0 (some 14) [] _ rfl rfl rfl rfl ?_ ?_
          · rintro wj hJ K hK; simp only [Jo.z] at hK ⊢; obtain ⟨xX50, xX51, xX52, xX53, xX54, xX55, xX56, xX57, xX58⟩ := (X5.below hJ).u9; go_simp; exact hK.out _ _ rfl (br _ _)
          refine Jo.jn 1 (some 15) [] _ rfl rfl rfl rfl ?_ ?_
          · rintro wj hJ K hK; simp only [Jo.z] at hK ⊢; go_simp; refine (kvNoneE).mono ?_; rintro ee wk ⟨rfl, B⟩; exact hK.out _ _ rfl B
          refine Jo.jn 2 (some 16) [(some 14, 0), (some 15, 1)] _ rfl rfl rfl rfl ?_ ?_
          · rintro wj hJ _ rfl _ rfl K hK; simp only [Jo.z] at hK ⊢; go_simp
            repeat' split
            all_goals exact hK.out _ _ (congrArg Value.bool (by first | rfl | (exfalso; simp_all) | simp_all)) (br _ _)
          exact Jo.Steps.nil
        rintro w6 hJ _ rfl _ rfl _ rfl -; simp only [Jo.z]; replace X5 := X5.below hJ; replace N1 := N1.below hJ; replace N2 := N2.below hJ; replace HB := Lib.hid (bt HB.out hJ); refine Jo.jdone (by kernel_rfl) ?_; obtain ⟨xX50, xX51, xX52, xX53, xX54, xX55, xX56, xX57, xX58⟩ := X5.u9
        go_wp2_with (at_builtin; refine wpList_na rfl _ _ rfl rfl rfl (N1.below (bel1 _ _)) a1 (Bo.new _ _ _) (by omega) (Nat.le_trans HB.out.size (bel1 _ _).size) ?_)
        intro A2 d2 w7 N1' G1 at1
        clear xX50 xX51 xX52 xX53 xX54 xX55 xX56 xX57 xX58; have hB2 := bt HB.out (bel1 _ (.cells #[.int .i64 K1, .bool s1, .int .u64 M1, .int .i64 E1] 24)); have N1b := N1.below (bel1 _ (.cells #[.int .i64 K1, .bool s1, .int .u64 M1, .int .i64 E1] 24)); have N2b := N2.below (bel1 _ (.cells #[.int .i64 K1, .bool s1, .int .u64 M1, .int .i64 E1] 24)); replace X5 := (X5.below (bel1 _ (.cells #[.int .i64 K1, .bool s1, .int .u64 M1, .int .i64 E1] 24))).grownN N1b (by decide) G1
        replace HB := Lib.hid (hB2.grown G1 hB2.size (fun k hk => (N1b.own_lt k hk).1))
        have l1 : ∀ k, ownA B1 = some k → k < w6.heap.size + 1 := fun k hk => by
          have := (N2b.own_lt k hk).2
          simpa using this
        replace N2 := N2b.kept G1 (own_ne HNE.out); clear N1 N1b N2b G1 hB2; obtain ⟨xX50, xX51, xX52, xX53, xX54, xX55, xX56, xX57, xX58⟩ := X5.u9
        go_wp2_with (at_builtin; refine wpList_na rfl _ _ rfl rfl rfl (N2.below (bel1 _ _)) b1 (Bo.new _ _ _) (by omega) (Nat.le_trans HB.out.size (bel1 _ _).size) ?_)
        intro B2 d3 w8 N2' G2 at2
        clear xX50 xX51 xX52 xX53 xX54 xX55 xX56 xX57 xX58; have hB2 := bt HB.out (bel1 _ (.cells #[.int .i64 K1b, .bool s1b, .int .u64 M1b, .int .i64 E1b] 24)); have N2b := N2.below (bel1 _ (.cells #[.int .i64 K1b, .bool s1b, .int .u64 M1b, .int .i64 E1b] 24)); have N1b := N1'.below (bel1 _ (.cells #[.int .i64 K1b, .bool s1b, .int .u64 M1b, .int .i64 E1b] 24))
        have lA : ∀ k, ownA A2 = some k → k < w7.heap.size + 1 := fun k hk => by
          have := (N1b.own_lt k hk).2
          simpa using this
        have hne2 : ∀ k, ownA A2 = some k → ownA B2 ≠ some k := ne_row HNE.out at1 at2 l1 lA
        have hne1 : ∀ k, ownA A2 = some k → ownA B1 ≠ some k := ne_row HNE.out at1 (.inl rfl) l1 lA
        replace HB := Lib.hid (hB2.grown G2 hB2.size (fun k hk => (N2b.own_lt k hk).1))
        replace N1' := N1b.kept G2 (own_ne' hne1)
        clear N1b N2b G2 hB2 hne1 X5 N2 l1 lA at1 at2; go_wp2
        go_roundw
        case rel => exact ⟨k + 1, _, _, _, _, _, by omega, by omega, rfl, rfl, by go_num, by rw [hsl2]; exact N1', by rw [hsh2]; exact N2', hne2, HB.out⟩
        case measure => simp [intOf]; omega
    · obtain rfl : k = n := by omega
      have tlt : decide ((k : Int) < (k : Int)) = false := by simp
      have e1 : l.take k = l := List.take_of_length_le (by rw [HLn.out]; omega)
      rw [e1] at N1 N2
      obtain rfl : m1 = m := by rw [← HM.out]; exact N1.len.symm
      have M1 := N1.nl (by omega); have M2 := N2.nl (by omega); clear N1 N2; go_wp2
      go_ret2
      exact ⟨_, _, _, _, rfl, M1, M2, HB.out⟩
set_option maxHeartbeats 4000000 in
theorem kvMeet {w : World} {A : Option Addr} {n c : Nat} {l : List Sp} {z : Sp} (h : Il8 w A n c l) (hr : meetL l = z) : Calls Tryz.prog 15 #[.slice A n c] w (PV w z) := by
  obtain ⟨m, hm⟩ : ∃ m, (lowL l).length = m := ⟨_, rfl⟩; have hln := h.1; have hle := len_lo l; have hok := h.ok; have HM := Lib.hid hm
  go_enter Tryz.func15, Tryz.ntmps15
  go_upto_region 1 with (fail)
  generalize hW1 : w.alloc _ = w1 at *; obtain ⟨XR, HB⟩ := Bo.en1 hW1; replace h := h.below HB.out; clear hW1
  go_wp2_with fail
  refine (kvEnds h HM.out).mono ?_; rintro ee w2 ⟨A1, c1, B1, d1, rfl, N1, N2, B⟩; replace XR := XR.below B; replace h := h.below B; replace HB := Lib.hid (bt HB.out B); clear B; clear h
  by_cases hl : m < n
  · rw [meet_no (by omega)] at hr
    obtain rfl : none = z := hr
    have tl : decide ((m : Int) < (n : Int)) = true := by simp; omega
    clear hm hle hln hok
    go_wp2_with fail
    refine (kvNoneE).mono ?_; rintro ee w3 ⟨rfl, B⟩; replace XR := XR.below B; replace N1 := N1.below B; replace N2 := N2.below B; replace HB := Lib.hid (bt HB.out B); clear B; clear N1 N2; obtain ⟨xXR0, xXR1, xXR2, xXR3, xXR4, xXR5, xXR6, xXR7, xXR8⟩ := XR.u9; have zXR0 := XR.frozen; go_wp2; clear xXR0 zXR0 xXR1 xXR2 xXR3 xXR4 xXR5 xXR6 xXR7 xXR8; have SX := StN.mk9 XR (.bool true) (.int .i64 0) (.bool false) (.int .u64 0) (.int .i64 0) (.int .i64 0) (.bool false) (.int .u64 0) (.int .i64 0)
    exact bodyPost_ret (by simp [results, Tryz.results15, go_sem, SX.box.cell]) rfl ⟨_, _, _, _, _, _, _, _, _, rfl, Ci.none, (SX.below HB.out (by omega))⟩
  · have hr2 := (meet_some (by omega)).symm.trans hr
    have tl : decide ((m : Int) < (n : Int)) = false := by simp; omega
    clear hr; obtain ⟨u, hu⟩ : ∃ u, mxp (lowL l) = u := ⟨_, rfl⟩; obtain ⟨v, hv⟩ : ∃ v, mnp (highL l) = v := ⟨_, rfl⟩; rw [hu, hv] at hr2; have HU := Lib.hid hu; have HVV := Lib.hid hv; have HR := Lib.hid hr2; clear hu hv hr2 hm hle hln hok
    go_wp2_with fail
    refine (nMost N1 HU.out).mono ?_; rintro ee w3 ⟨K1, s1, M1, E1, rfl, q1, B⟩; replace XR := XR.below B; replace N1 := N1.below B; replace N2 := N2.below B; replace HB := Lib.hid (bt HB.out B); clear B
    go_wp2_with fail
    refine (nLeast N2 HVV.out).mono ?_; rintro ee w4 ⟨K2, s2, M2, E2, rfl, q2, B⟩; replace XR := XR.below B; replace N1 := N1.below B; replace N2 := N2.below B; replace HB := Lib.hid (bt HB.out B); clear B
    go_wp2_with fail
    refine (kvMake q1.top q2.top q1.rk q2.rk HR.out).mono ?_; rintro ee w5 ⟨e3, K3, s3, M3, E3, K3b, s3b, M3b, E3b, rfl, v3, B⟩; replace XR := XR.below B; replace N1 := N1.below B; replace N2 := N2.below B; replace HB := Lib.hid (bt HB.out B); clear B; clear N1 N2; obtain ⟨xXR0, xXR1, xXR2, xXR3, xXR4, xXR5, xXR6, xXR7, xXR8⟩ := XR.u9; have zXR0 := XR.frozen; go_wp2; clear xXR0 zXR0 xXR1 xXR2 xXR3 xXR4 xXR5 xXR6 xXR7 xXR8
    have SX := StN.mk9 XR (.bool e3) (.int .i64 K3) (.bool s3) (.int .u64 M3) (.int .i64 E3) (.int .i64 K3b) (.bool s3b) (.int .u64 M3b) (.int .i64 E3b); exact bodyPost_ret (by simp [results, Tryz.results15, go_sem, SX.box.cell]) rfl ⟨_, _, _, _, _, _, _, _, _, rfl, v3, (SX.below HB.out (by omega))⟩
set_option maxHeartbeats 4000000 in
theorem kvHull {w : World} {A : Option Addr} {n c : Nat} {l : List Sp} {z : Sp} (h : Il8 w A n c l) (hr : hullL l = z) : Calls Tryz.prog 18 #[.slice A n c] w (PV w z) := by
  obtain ⟨m, hm⟩ : ∃ m, (lowL l).length = m := ⟨_, rfl⟩; have hln := h.1; have hle := len_lo l; have hok := h.ok; have HM := Lib.hid hm
  go_enter Tryz.func18, Tryz.ntmps18
  go_upto_region 1 with (fail)
  generalize hW1 : w.alloc _ = w1 at *; obtain ⟨XR, HB⟩ := Bo.en1 hW1; replace h := h.below HB.out; clear hW1
  go_wp2_with fail
  refine (kvEnds h HM.out).mono ?_; rintro ee w2 ⟨A1, c1, B1, d1, rfl, N1, N2, B⟩; replace XR := XR.below B; replace h := h.below B; replace HB := Lib.hid (bt HB.out B); clear B; clear h; have hr2 := (hull_ends hok).symm.trans hr; clear hr; obtain ⟨u, hu⟩ : ∃ u, mnp (lowL l) = u := ⟨_, rfl⟩; obtain ⟨v, hv⟩ : ∃ v, mxp (highL l) = v := ⟨_, rfl⟩; rw [hu, hv] at hr2; have HU := Lib.hid hu; have HVV := Lib.hid hv
  have HR := Lib.hid hr2; clear hu hv hr2 hm hle hln hok
  go_wp2_with fail
  refine (nLeast N1 HU.out).mono ?_; rintro ee w3 ⟨K1, s1, M1, E1, rfl, q1, B⟩; replace XR := XR.below B; replace N1 := N1.below B; replace N2 := N2.below B; replace HB := Lib.hid (bt HB.out B); clear B
  go_wp2_with fail
  refine (nMost N2 HVV.out).mono ?_; rintro ee w4 ⟨K2, s2, M2, E2, rfl, q2, B⟩; replace XR := XR.below B; replace N1 := N1.below B; replace N2 := N2.below B; replace HB := Lib.hid (bt HB.out B); clear B
  go_wp2_with fail
  refine (kvMake q1.top q2.top q1.rk q2.rk HR.out).mono ?_; rintro ee w5 ⟨e3, K3, s3, M3, E3, K3b, s3b, M3b, E3b, rfl, v3, B⟩; replace XR := XR.below B; replace N1 := N1.below B; replace N2 := N2.below B; replace HB := Lib.hid (bt HB.out B); clear B; clear N1 N2; obtain ⟨xXR0, xXR1, xXR2, xXR3, xXR4, xXR5, xXR6, xXR7, xXR8⟩ := XR.u9; have zXR0 := XR.frozen; go_wp2; clear xXR0 zXR0 xXR1 xXR2 xXR3 xXR4 xXR5 xXR6 xXR7 xXR8
  have SX := StN.mk9 XR (.bool e3) (.int .i64 K3) (.bool s3) (.int .u64 M3) (.int .i64 E3) (.int .i64 K3b) (.bool s3b) (.int .u64 M3b) (.int .i64 E3b); exact bodyPost_ret (by simp [results, Tryz.results18, go_sem, SX.box.cell]) rfl ⟨_, _, _, _, _, _, _, _, _, rfl, v3, (SX.below HB.out (by omega))⟩
end Go.Proofs.YthhlccdmflgbbaaGreatDoor

/-
  Contracts and words that the statement's proof rests on, several texts in one: Fx.
-/
import Derived.Test.YteejbcimmmcnlaaGreatDoorYBaz
import Derived.Test.YteejbcimmmcnlaaGreatDoorYBbg
import Derived.Test.YteejbcimmmcnlaaGreatDoorYBbk
import Derived.Test.YteejbcimmmcnlaaGreatDoorYBbs
/-
  What peloruslaw09.in tells of an exact number and an interval; what sums, differences, products and squares of two numbers are within.
-/
namespace Go.Proofs.YteejbcimmmcnlaaGreatDoor
open Go.RowKit
set_option linter.unusedVariables false
set_option linter.unusedSimpArgs false
set_option maxRecDepth 100000

theorem mk_exqI (D : Int) (s : Bool) (M E : Int) : mk (exq D s M E).1 (exq D s M E).2 = exq D s M E := by
  unfold exq
  split
  · exact mk_nf _ _
  · exact mk_zero 0
theorem hold_all {D2 M2 E2 D3 M3 E3 : Int} {s2 s3 : Bool} {X Y : Sp} {x y N1 F1 N2 F2 : Int} (u2 : M2 < 18446744073709551616) (u3 : M3 < 18446744073709551616) (oX : SpOk X) (oY : SpOk Y) (hx : rk D2 s2 M2 E2 = x) (hy : rk D3 s3 M3 E3 = y) (hp : fewq D2 E2 = true) (hq : fewq D3 E3 = true)
    (ha : exb D2 s2 M2 E2 = true) (hb : exb D3 s3 M3 E3 = true) (h0 : hasI X x = true) (h1 : hasI Y y = true) (hN1 : (exq D2 s2 M2 E2).1 = N1) (hF1 : (exq D2 s2 M2 E2).2 = F1) (hN2 : (exq D3 s3 M3 E3).1 = N2) (hF2 : (exq D3 s3 M3 E3).2 = F2) :
    Can [(N1, F1), (N2, F2)] ∧ Wi (vl (mk (smd [(N1, F1), (N2, F2)]).1 (smd [(N1, F1), (N2, F2)]).2)) (addI X Y) ∧ Can [(N1, F1), ng (mk N2 F2)] ∧ Wi (vl (mk (pl (mk N1 F1) (ng (mk N2 F2))).1 (pl (mk N1 F1) (ng (mk N2 F2))).2)) (subI X Y) ∧
      Wi (vl (mk (ml (mk N1 F1) (mk N2 F2)).1 (ml (mk N1 F1) (mk N2 F2)).2)) (mulI X Y) ∧ Wi (vl (mk (ml (mk N1 F1) (mk N1 F1)).1 (ml (mk N1 F1) (mk N1 F1)).2)) (sqrI X) := by
  have m0 : MayQ D2 s2 M2 E2 ∧ D2 ≠ 2 := by
    unfold exb at ha
    simpa using ha
  have m1 : MayQ D3 s3 M3 E3 ∧ D3 ≠ 2 := by
    unfold exb at hb
    simpa using hb
  have fx : Fz (rk D2 s2 M2 E2) 1600 := few_fz u2 hp
  have fy : Fz (rk D3 s3 M3 E3) 1600 := few_fz u3 hq
  have qx := rk_fq u2 m0.1; have qy := rk_fq u3 m1.1; rw [hx] at fx qx; rw [hy] at fy qy
  have ix : infp x = false := by rw [fq_inf qx]; simpa using m0.2
  have iy : infp y = false := by rw [fq_inf qy]; simpa using m1.2
  obtain ⟨x1, x2⟩ := infp_false qx.bd.1 qx.bd.2 ix; obtain ⟨y1, y2⟩ := infp_false qy.bd.1 qy.bd.2 iy
  have gx : Fit 1600 (ep x) := by
    rcases fx with g | g
    · rw [ix] at g; cases g
    · exact g
  have gy : Fit 1600 (ep y) := by
    rcases fy with g | g
    · rw [iy] at g; cases g
    · exact g
  have e1 : (N1, F1) = ep x := by rw [← exq_ep qx ha, ← hN1, ← hF1]
  have e2 : (N2, F2) = ep y := by rw [← exq_ep qy hb, ← hN2, ← hF2]
  have k1 : mk N1 F1 = ep x := by rw [← e1]; exact (by rw [e1]; exact ep_nf x : Nf (N1, F1))
  have k2 : mk N2 F2 = ep y := by rw [← e2]; exact (by rw [e2]; exact ep_nf y : Nf (N2, F2))
  have n2 : mk (ng (ep y)).1 (ng (ep y)).2 = ng (ep y) := ng_nf (ep_nf y)
  obtain ⟨f1, w1, c1⟩ := two_fit (h := 1600) (a := (N1, F1)) (b := (N2, F2)) (by decide) (by rw [k1]; exact gx) (by rw [k2]; exact gy); obtain ⟨f2, w2, c2⟩ := two_fit (h := 1600) (a := (N1, F1)) (b := ng (ep y)) (by decide) (by rw [k1]; exact gx) (by rw [n2]; exact gy.neg)
  have vx : vl (ep x) = vr x := ep_vl x1 x2
  have vy : vl (ep y) = vr y := ep_vl y1 y2
  have s1 : mk (smd [(N1, F1), (N2, F2)]).1 (smd [(N1, F1), (N2, F2)]).2 = smd [(N1, F1), (N2, F2)] := f1.nf
  have s2' : smd [(N1, F1), ng (ep y)] = pl (mk N1 F1) (ng (mk N2 F2)) := by rw [smd_two, k2, n2]
  have s3' : mk (pl (mk N1 F1) (ng (mk N2 F2))).1 (pl (mk N1 F1) (ng (mk N2 F2))).2 = pl (mk N1 F1) (ng (mk N2 F2)) := by rw [← s2']; exact f2.nf
  have q1 : mk (ml (ep x) (ep y)).1 (ml (ep x) (ep y)).2 = ml (ep x) (ep y) := mk_nf _ _
  have q2 : mk (ml (ep x) (ep x)).1 (ml (ep x) (ep x)).2 = ml (ep x) (ep x) := mk_nf _ _
  refine ⟨c1, ?_, by rw [k2]; exact c2, ?_, ?_, ?_⟩
  · rw [s1, w1]
    show Wi (vl (mk N1 F1) + vl (mk N2 F2)) _
    rw [k1, k2, vx, vy]; exact add_holds oX oY x1 x2 y1 y2 h0 h1
  · rw [s3', ← s2', w2]
    show Wi (vl (mk N1 F1) + vl (mk (ng (ep y)).1 (ng (ep y)).2)) _
    rw [n2, k1, vl_ng, vx, vy]; exact sub_holds oX oY x1 x2 y1 y2 h0 h1
  · rw [k1, k2, q1]; exact mul_holds oX oY x1 x2 y1 y2 h0 h1
  · rw [k1, q2]; exact sqr_holds oX x1 x2 h0
set_option maxHeartbeats 8000000 in
theorem kvin_tt {w : World} {A : Option Addr} {n c : Nat} {sd : Bool} {z e xa xb K1 M1 E1 K1b M1b E1b : Int} {s1 s1b : Bool} (hT : Tab w) (h0 : Wr w sd A n c z) (hn : n ≤ 100000) (v : Ci false K1 s1 M1 E1 K1b s1b M1b E1b (some (xa, xb))) (hxa : -19342822337206103650074625 < xa) (hva : vr xa ≤ vl (mk z e)) (hxb : xb < 19342822337206103650074625) (hvb : vl (mk z e) ≤ vr xb) :
    Calls Tryz.prog 31 #[.agg #[.bool sd, .slice A n c, .int .i64 e], .agg #[.bool false, .int .i64 K1, .bool s1, .int .u64 M1, .int .i64 E1, .int .i64 K1b, .bool s1b, .int .u64 M1b, .int .i64 E1b]] w (PB w true) := by
  obtain ⟨_, a1, b1, o1, o1l, o1h⟩ := v; obtain ⟨g1, k1⟩ := exq_vl a1 hxa o1l
  have hm1 : vl (exq K1 s1 M1 E1) ≤ vl (mk z e) := by rw [k1]; exact hva
  have w1M : 0 ≤ M1 := by rcases a1.cases with ⟨_, _, h, _⟩ | ⟨_, h, _⟩ | ⟨_, h, _⟩ <;> omega
  rw [← mk_exqI K1 s1 M1 E1] at hm1; have HG1 := Lib.hid g1; obtain ⟨N1, hN1⟩ : ∃ N, (exq K1 s1 M1 E1).1 = N := ⟨_, rfl⟩; obtain ⟨F1, hF1⟩ : ∃ N, (exq K1 s1 M1 E1).2 = N := ⟨_, rfl⟩; have HN1 := Lib.hid hN1; have HF1 := Lib.hid hF1; rw [hN1, hF1] at hm1; obtain ⟨c1, hc1⟩ : ∃ c, cmpI (vl (mk N1 F1)) (vl (mk z e)) = c := ⟨_, rfl⟩; have hl1 := (cmp_le hc1).trans (decide_eq_true hm1); have HC1 := Lib.hid hc1
  have HL1 := Lib.hid hl1; clear hc1 hl1 hm1 k1; clear hN1 hF1 g1; obtain ⟨g2, k2⟩ := exq_vl b1 o1h hxb
  have hm2 : vl (mk z e) ≤ vl (exq K1b s1b M1b E1b) := by rw [k2]; exact hvb
  have w2M : 0 ≤ M1b := by rcases b1.cases with ⟨_, _, h, _⟩ | ⟨_, h, _⟩ | ⟨_, h, _⟩ <;> omega
  rw [← mk_exqI K1b s1b M1b E1b] at hm2; have HG2 := Lib.hid g2; obtain ⟨N2, hN2⟩ : ∃ N, (exq K1b s1b M1b E1b).1 = N := ⟨_, rfl⟩; obtain ⟨F2, hF2⟩ : ∃ N, (exq K1b s1b M1b E1b).2 = N := ⟨_, rfl⟩; have HN2 := Lib.hid hN2; have HF2 := Lib.hid hF2; rw [hN2, hF2] at hm2; obtain ⟨c2, hc2⟩ : ∃ c, cmpI (vl (mk z e)) (vl (mk N2 F2)) = c := ⟨_, rfl⟩; have hl2 := (cmp_le hc2).trans (decide_eq_true hm2); have HC2 := Lib.hid hc2
  have HL2 := Lib.hid hl2; clear hc2 hl2 hm2 k2; clear hN2 hF2 g2; clear o1 o1l o1h hxa hva hxb hvb
  go_enter Tryz.func31, Tryz.ntmps31
  go_upto_region 1 with (fail)
  generalize hW1 : (w.alloc _).alloc _ = w1 at *; obtain ⟨X2, X3, HB⟩ := Bo.en2 hW1; replace hT := hT.below HB.out; replace h0 := h0.below HB.out; clear hW1; obtain ⟨xX30, xX31, xX32, xX33, xX34, xX35, xX36, xX37, xX38⟩ := X3.u9
  go_wp2_with fail
  refine (nExact hT w1M a1.top HG1.out HN1.out HF1.out).mono ?_; rintro ee w2 ⟨sa, Aa, na, ca, rfl, pa, ka, B⟩; clear xX30 xX31 xX32 xX33 xX34 xX35 xX36 xX37 xX38; replace X2 := X2.below B; replace X3 := X3.below B; replace hT := hT.below B; replace h0 := h0.below B; replace HB := Lib.hid (bt HB.out B); clear B
  go_upto_region 4 with (fail)
  have lX5 := Nat.le_refl (World.heap w2).size; have nX5X2 := X2.lt; have nX5X3 := X3.lt; generalize hWn : w2.alloc _ = w3 at *; obtain ⟨X5, BW⟩ := Bo.nw hWn; clear hWn; replace X2 := X2.below BW; replace X3 := X3.below BW; replace hT := hT.below BW; replace h0 := h0.below BW; replace pa := pa.below BW; replace HB := Lib.hid (bt HB.out BW); clear BW; clear lX5; obtain ⟨xX30, xX31, xX32, xX33, xX34, xX35, xX36, xX37, xX38⟩ := X3.u9
  go_wp2_with fail
  refine (nExact hT w2M b1.top HG2.out HN2.out HF2.out).mono ?_; rintro ee w4 ⟨sb, Ab, nb, cb, rfl, pb, kb, B⟩; clear xX30 xX31 xX32 xX33 xX34 xX35 xX36 xX37 xX38; replace X2 := X2.below B; replace X3 := X3.below B; replace X5 := X5.below B; replace hT := hT.below B; replace h0 := h0.below B; replace pa := pa.below B; replace HB := Lib.hid (bt HB.out B); clear B
  go_upto_region 5 with (fail)
  have lX7 := Nat.le_refl (World.heap w4).size; have nX7X2 := X2.lt; have nX7X3 := X3.lt; have nX7X5 := X5.lt; generalize hWn : w4.alloc _ = w5 at *; obtain ⟨X7, BW⟩ := Bo.nw hWn; clear hWn; replace X2 := X2.below BW; replace X3 := X3.below BW; replace X5 := X5.below BW; replace hT := hT.below BW; replace h0 := h0.below BW; replace pa := pa.below BW; replace pb := pb.below BW; replace HB := Lib.hid (bt HB.out BW)
  clear BW; clear lX7; refine Jo.rk [0, 1, 2, 3, 4, 5, 6, 7, 8, 9, 10, 11, 12, 13, 14, 15, 16, 17, 18, 19, 20, 21, 22, 23, 24, 25, 26, 27, 28, 29, 30, 31, 32, 33, 34, 35, 36] [some 23, some 24, some 25, some 26, some 27, some 28, some 29, some 30, some 31, some 32, some 33, some 34, some 35, some 36, some 37, some 38, some 39, some 40, some 41, some 42, some 43, some 44, some 45, some 46, some 47, some 48, some 49, some 50, some 51, some 52, some 53, some 54, some 55, some 56, some 57, some 58, some 4] [[], [0], [1], [2], [2], [2, 3, 4], [2, 5], [2, 6], [7], [8], [8, 9], [8, 10], [11], [11], [11, 12, 13], [11, 14], [8, 11, 15], [8, 16], [17], [18], [18, 19], [20], [20, 21], [20], [20, 22, 23], [18, 20, 24], [18, 25], [26], [27], [27, 28], [29], [29, 30], [29], [29, 31, 32], [27, 29, 33], [27, 34], [35]] 37 0 [Jo.qb true, Jo.qb false, Jo.qb false, Jo.Fact.eq (.agg #[.bool sa, .slice Aa na ca, .int .i64 F1]), Jo.Fact.eq (.agg #[.bool sd, .slice A n c, .int .i64 e]), Jo.qi c1, Jo.qb true, Jo.qb true, Jo.qb true, Jo.qb true, Jo.qb false, Jo.qb false, Jo.Fact.eq (.agg #[.bool sd, .slice A n c, .int .i64 e]), Jo.Fact.eq (.agg #[.bool sb, .slice Ab nb cb, .int .i64 F2]), Jo.qi c2, Jo.qb true, Jo.qb true, Jo.qb true, Jo.qb true, Jo.qb true, Jo.qb true, Jo.qu, Jo.qu, Jo.qu, Jo.qu, Jo.qb true, Jo.qb true, Jo.qb true, Jo.qb true, Jo.qb true, Jo.qu, Jo.qu, Jo.qu, Jo.qu, Jo.qb true, Jo.qb true, Jo.qb true] (by kernel_rfl) (by kernel_rfl) (by decide) rfl ?_ ?_
  · refine Jo.jm rfl ?_ ?_
    · rintro wj hJ K hK; simp only [Jo.z] at hK ⊢; go_simp; exact hK.out _ _ rfl (br _ _)
    refine Jo.jm rfl ?_ ?_
    · rintro wj hJ _ rfl K hK; simp only [Jo.z] at hK ⊢; go_simp; exact hK.out _ _ rfl (br _ _)
    refine Jo.jm rfl ?_ ?_
    · rintro wj hJ _ rfl K hK; simp only [Jo.z] at hK ⊢; go_simp; exact hK.out _ _ rfl (br _ _)
    refine Jo.jm rfl ?_ ?_
    · rintro wj hJ _ rfl K hK; simp only [Jo.z] at hK ⊢; obtain ⟨xX50, xX51, xX52⟩ := (X5.below hJ).u3; go_simp; exact hK.out _ _ rfl (br _ _)
    refine Jo.jm rfl ?_ ?_
    · rintro wj hJ _ rfl K hK; simp only [Jo.z] at hK ⊢; obtain ⟨xX20, xX21, xX22⟩ := (X2.below hJ).u3; go_simp; exact hK.out _ _ rfl (br _ _)
    refine Jo.jm rfl ?_ ?_
    · rintro wj hJ _ rfl _ rfl _ rfl K hK; simp only [Jo.z] at hK ⊢; go_simp; refine (dCmp (hT.below hJ) (pa.wr.below hJ) (h0.below hJ) (by omega) (by omega) HC1.out).mono ?_; rintro ee wk ⟨rfl, B⟩; exact hK.out _ _ rfl B
    refine Jo.jm rfl ?_ ?_
    · rintro wj hJ _ rfl _ rfl K hK; simp only [Jo.z] at hK ⊢; have hc0 := HL1.out; go_simp
      exact hK.out _ _ (by first | rfl | (show Value.bool _ = Value.bool _; rw [hc0]) | simp_all) (br _ _)
    refine Jo.jm rfl ?_ ?_
    · rintro wj hJ _ rfl _ rfl K hK; simp only [Jo.z] at hK ⊢; go_simp; exact hK.out _ _ rfl (br _ _)
    refine Jo.jm rfl ?_ ?_
    · rintro wj hJ _ rfl K hK; simp only [Jo.z] at hK ⊢; go_simp; exact hK.out _ _ rfl (br _ _)
    refine Jo.jm rfl ?_ ?_
    · rintro wj hJ _ rfl K hK; simp only [Jo.z] at hK ⊢; go_simp; exact hK.out _ _ rfl (br _ _)
    refine Jo.jm rfl ?_ ?_
    · rintro wj hJ _ rfl _ rfl K hK; simp only [Jo.z] at hK ⊢; go_simp; exact hK.out _ _ rfl (br _ _)
    refine Jo.jm rfl ?_ ?_
    · rintro wj hJ _ rfl _ rfl K hK; simp only [Jo.z] at hK ⊢; go_simp; exact hK.out _ _ rfl (br _ _)
    refine Jo.jm rfl ?_ ?_
    · rintro wj hJ _ rfl K hK; simp only [Jo.z] at hK ⊢; obtain ⟨xX20, xX21, xX22⟩ := (X2.below hJ).u3; go_simp; exact hK.out _ _ rfl (br _ _)
    refine Jo.jm rfl ?_ ?_
    · rintro wj hJ _ rfl K hK; simp only [Jo.z] at hK ⊢; obtain ⟨xX70, xX71, xX72⟩ := (X7.below hJ).u3; go_simp; exact hK.out _ _ rfl (br _ _)
    refine Jo.jm rfl ?_ ?_
    · rintro wj hJ _ rfl _ rfl _ rfl K hK; simp only [Jo.z] at hK ⊢; go_simp; refine (dCmp (hT.below hJ) (h0.below hJ) (pb.wr.below hJ) (by omega) (by omega) HC2.out).mono ?_; rintro ee wk ⟨rfl, B⟩; exact hK.out _ _ rfl B
    refine Jo.jm rfl ?_ ?_
    · rintro wj hJ _ rfl _ rfl K hK; simp only [Jo.z] at hK ⊢; have hc0 := HL2.out; go_simp
      exact hK.out _ _ (by first | rfl | (show Value.bool _ = Value.bool _; rw [hc0]) | simp_all) (br _ _)
    refine Jo.jm rfl ?_ ?_
    · rintro wj hJ _ rfl _ rfl _ rfl K hK; simp only [Jo.z] at hK ⊢; go_simp; exact hK.out _ _ rfl (br _ _)
    refine Jo.jm rfl ?_ ?_
    · rintro wj hJ _ rfl _ rfl K hK; simp only [Jo.z] at hK ⊢; go_simp; exact hK.out _ _ rfl (br _ _)
    refine Jo.jm rfl ?_ ?_
    · rintro wj hJ _ rfl K hK; simp only [Jo.z] at hK ⊢; go_simp; exact hK.out _ _ rfl (br _ _)
    refine Jo.jm rfl ?_ ?_
    · rintro wj hJ _ rfl K hK; simp only [Jo.z] at hK ⊢; go_simp; exact hK.out _ _ rfl (br _ _)
    refine Jo.jm rfl ?_ ?_
    · rintro wj hJ _ rfl _ rfl K hK; simp only [Jo.z] at hK ⊢; go_simp; exact hK.out _ _ rfl (br _ _)
    refine Jo.jm rfl ?_ ?_
    · rintro wj hJ _ rfl K hK; simp only [Jo.z] at hK ⊢; go_simp; exact hK.out _ _ rfl (br _ _)
    refine Jo.jm rfl ?_ ?_
    · rintro wj hJ _ rfl _ rfl K hK; simp only [Jo.z] at hK ⊢; go_simp; exact hK.out _ _ rfl (br _ _)
    refine Jo.jm rfl ?_ ?_
    · rintro wj hJ _ rfl K hK; simp only [Jo.z] at hK ⊢; go_simp; exact hK.out _ _ rfl (br _ _)
    refine Jo.jm rfl ?_ ?_
    · rintro wj hJ _ rfl _ rfl _ rfl K hK; simp only [Jo.z] at hK ⊢; go_simp; exact hK.out _ _ rfl (br _ _)
    refine Jo.jm rfl ?_ ?_
    · rintro wj hJ _ rfl _ rfl _ rfl K hK; simp only [Jo.z] at hK ⊢; go_simp; exact hK.out _ _ rfl (br _ _)
    refine Jo.jm rfl ?_ ?_
    · rintro wj hJ _ rfl _ rfl K hK; simp only [Jo.z] at hK ⊢; go_simp; exact hK.out _ _ rfl (br _ _)
    refine Jo.jm rfl ?_ ?_
    · rintro wj hJ _ rfl K hK; simp only [Jo.z] at hK ⊢; go_simp; exact hK.out _ _ rfl (br _ _)
    refine Jo.jm rfl ?_ ?_
    · rintro wj hJ _ rfl K hK; simp only [Jo.z] at hK ⊢; go_simp; exact hK.out _ _ rfl (br _ _)
    refine Jo.jm rfl ?_ ?_
    · rintro wj hJ _ rfl _ rfl K hK; simp only [Jo.z] at hK ⊢; go_simp; exact hK.out _ _ rfl (br _ _)
    refine Jo.jm rfl ?_ ?_
    · rintro wj hJ _ rfl K hK; simp only [Jo.z] at hK ⊢; go_simp; exact hK.out _ _ rfl (br _ _)
    refine Jo.jm rfl ?_ ?_
    · rintro wj hJ _ rfl _ rfl K hK; simp only [Jo.z] at hK ⊢; go_simp; exact hK.out _ _ rfl (br _ _)
    refine Jo.jm rfl ?_ ?_
    · rintro wj hJ _ rfl K hK; simp only [Jo.z] at hK ⊢; go_simp; exact hK.out _ _ rfl (br _ _)
    refine Jo.jm rfl ?_ ?_
    · rintro wj hJ _ rfl _ rfl _ rfl K hK; simp only [Jo.z] at hK ⊢; go_simp; exact hK.out _ _ rfl (br _ _)
    refine Jo.jm rfl ?_ ?_
    · rintro wj hJ _ rfl _ rfl _ rfl K hK; simp only [Jo.z] at hK ⊢; go_simp; exact hK.out _ _ rfl (br _ _)
    refine Jo.jm rfl ?_ ?_
    · rintro wj hJ _ rfl _ rfl K hK; simp only [Jo.z] at hK ⊢; go_simp; exact hK.out _ _ rfl (br _ _)
    refine Jo.jm rfl ?_ ?_
    · rintro wj hJ _ rfl K hK; simp only [Jo.z] at hK ⊢; go_simp; exact hK.out _ _ rfl (br _ _)
    exact Jo.Steps.nil
  rintro w8 hJ _ rfl _ rfl _ rfl _ rfl _ rfl _ rfl _ rfl _ rfl _ rfl _ rfl _ rfl _ rfl _ rfl _ rfl _ rfl _ rfl _ rfl _ rfl _ rfl _ rfl _ rfl _ rfl _ rfl _ rfl _ rfl _ rfl _ rfl _ rfl _ rfl _ rfl _ rfl _ rfl _ rfl _ rfl _ rfl _ rfl _ rfl -; simp only [Jo.z]; replace X2 := X2.below hJ; replace X3 := X3.below hJ; replace X5 := X5.below hJ; replace X7 := X7.below hJ; replace hT := hT.below hJ; replace h0 := h0.below hJ
  replace pa := pa.below hJ; replace pb := pb.below hJ; replace HB := Lib.hid (bt HB.out hJ); refine Jo.jdone (by kernel_rfl) ?_; go_wp2
  go_ret
  exact ⟨rfl, HB.out⟩
set_option maxHeartbeats 8000000 in
theorem kvin_tf {w : World} {A : Option Addr} {n c : Nat} {sd : Bool} {z e xa xb K1 M1 E1 K1b M1b E1b : Int} {s1 s1b : Bool} (hT : Tab w) (h0 : Wr w sd A n c z) (hn : n ≤ 100000) (v : Ci false K1 s1 M1 E1 K1b s1b M1b E1b (some (xa, xb))) (hxa : -19342822337206103650074625 < xa) (hva : vr xa ≤ vl (mk z e)) (hxb : xb = 19342822337206103650074625) :
    Calls Tryz.prog 31 #[.agg #[.bool sd, .slice A n c, .int .i64 e], .agg #[.bool false, .int .i64 K1, .bool s1, .int .u64 M1, .int .i64 E1, .int .i64 K1b, .bool s1b, .int .u64 M1b, .int .i64 E1b]] w (PB w true) := by
  obtain ⟨_, a1, b1, o1, o1l, o1h⟩ := v; obtain ⟨g1, k1⟩ := exq_vl a1 hxa o1l
  have hm1 : vl (exq K1 s1 M1 E1) ≤ vl (mk z e) := by rw [k1]; exact hva
  have w1M : 0 ≤ M1 := by rcases a1.cases with ⟨_, _, h, _⟩ | ⟨_, h, _⟩ | ⟨_, h, _⟩ <;> omega
  rw [← mk_exqI K1 s1 M1 E1] at hm1; have HG1 := Lib.hid g1; obtain ⟨N1, hN1⟩ : ∃ N, (exq K1 s1 M1 E1).1 = N := ⟨_, rfl⟩; obtain ⟨F1, hF1⟩ : ∃ N, (exq K1 s1 M1 E1).2 = N := ⟨_, rfl⟩; have HN1 := Lib.hid hN1; have HF1 := Lib.hid hF1; rw [hN1, hF1] at hm1; obtain ⟨c1, hc1⟩ : ∃ c, cmpI (vl (mk N1 F1)) (vl (mk z e)) = c := ⟨_, rfl⟩; have hl1 := (cmp_le hc1).trans (decide_eq_true hm1); have HC1 := Lib.hid hc1
  have HL1 := Lib.hid hl1; clear hc1 hl1 hm1 k1; clear hN1 hF1 g1; subst hxb; obtain ⟨rfl, rfl, rfl, rfl⟩ := b1.uniq (fq_inf2 false)
  have g2 : exb 2 false 0 0 = false := by simp [exb]
  have w2M : (0 : Int) ≤ 0 := Int.le_refl _
  have HG2 := Lib.hid g2; obtain ⟨N2, hN2⟩ : ∃ N, (exq 2 false 0 0).1 = N := ⟨_, rfl⟩; obtain ⟨F2, hF2⟩ : ∃ N, (exq 2 false 0 0).2 = N := ⟨_, rfl⟩; have HN2 := Lib.hid hN2; have HF2 := Lib.hid hF2; clear hN2 hF2 g2; clear o1 o1l o1h hxa hva
  go_enter Tryz.func31, Tryz.ntmps31
  go_upto_region 1 with (fail)
  generalize hW1 : (w.alloc _).alloc _ = w1 at *; obtain ⟨X2, X3, HB⟩ := Bo.en2 hW1; replace hT := hT.below HB.out; replace h0 := h0.below HB.out; clear hW1; obtain ⟨xX30, xX31, xX32, xX33, xX34, xX35, xX36, xX37, xX38⟩ := X3.u9
  go_wp2_with fail
  refine (nExact hT w1M a1.top HG1.out HN1.out HF1.out).mono ?_; rintro ee w2 ⟨sa, Aa, na, ca, rfl, pa, ka, B⟩; clear xX30 xX31 xX32 xX33 xX34 xX35 xX36 xX37 xX38; replace X2 := X2.below B; replace X3 := X3.below B; replace hT := hT.below B; replace h0 := h0.below B; replace HB := Lib.hid (bt HB.out B); clear B
  go_upto_region 4 with (fail)
  have lX5 := Nat.le_refl (World.heap w2).size; have nX5X2 := X2.lt; have nX5X3 := X3.lt; generalize hWn : w2.alloc _ = w3 at *; obtain ⟨X5, BW⟩ := Bo.nw hWn; clear hWn; replace X2 := X2.below BW; replace X3 := X3.below BW; replace hT := hT.below BW; replace h0 := h0.below BW; replace pa := pa.below BW; replace HB := Lib.hid (bt HB.out BW); clear BW; clear lX5; obtain ⟨xX30, xX31, xX32, xX33, xX34, xX35, xX36, xX37, xX38⟩ := X3.u9
  go_wp2_with fail
  refine (nExact hT w2M (by decide) HG2.out HN2.out HF2.out).mono ?_; rintro ee w4 ⟨sb, Ab, nb, cb, rfl, pb, kb, B⟩; clear xX30 xX31 xX32 xX33 xX34 xX35 xX36 xX37 xX38; replace X2 := X2.below B; replace X3 := X3.below B; replace X5 := X5.below B; replace hT := hT.below B; replace h0 := h0.below B; replace pa := pa.below B; replace HB := Lib.hid (bt HB.out B); clear B
  go_upto_region 5 with (fail)
  have lX7 := Nat.le_refl (World.heap w4).size; have nX7X2 := X2.lt; have nX7X3 := X3.lt; have nX7X5 := X5.lt; generalize hWn : w4.alloc _ = w5 at *; obtain ⟨X7, BW⟩ := Bo.nw hWn; clear hWn; replace X2 := X2.below BW; replace X3 := X3.below BW; replace X5 := X5.below BW; replace hT := hT.below BW; replace h0 := h0.below BW; replace pa := pa.below BW; replace pb := pb.below BW; replace HB := Lib.hid (bt HB.out BW)
  clear BW; clear lX7; refine Jo.rk [0, 1, 2, 3, 4, 5, 6, 7, 8, 9, 10, 11, 12, 13, 14, 15, 16, 17, 18, 19, 20, 21, 22, 23, 24, 25, 26, 27, 28, 29, 30, 31, 32, 33, 34, 35, 36] [some 23, some 24, some 25, some 26, some 27, some 28, some 29, some 30, some 31, some 32, some 33, some 34, some 35, some 36, some 37, some 38, some 39, some 40, some 41, some 42, some 43, some 44, some 45, some 46, some 47, some 48, some 49, some 50, some 51, some 52, some 53, some 54, some 55, some 56, some 57, some 58, some 4] [[], [0], [1], [2], [2], [2, 3, 4], [2, 5], [2, 6], [7], [8], [8, 9], [8, 10], [11], [11], [11, 12, 13], [11, 14], [8, 11, 15], [8, 16], [17], [18], [18, 19], [20], [20, 21], [20], [20, 22, 23], [18, 20, 24], [18, 25], [26], [27], [27, 28], [29], [29, 30], [29], [29, 31, 32], [27, 29, 33], [27, 34], [35]] 37 0 [Jo.qb true, Jo.qb false, Jo.qb false, Jo.Fact.eq (.agg #[.bool sa, .slice Aa na ca, .int .i64 F1]), Jo.Fact.eq (.agg #[.bool sd, .slice A n c, .int .i64 e]), Jo.qi c1, Jo.qb true, Jo.qb true, Jo.qb true, Jo.qb false, Jo.qb true, Jo.qb true, Jo.qu, Jo.qu, Jo.qu, Jo.qu, Jo.qb true, Jo.qb true, Jo.qb true, Jo.qb true, Jo.qb true, Jo.qu, Jo.qu, Jo.qu, Jo.qu, Jo.qb true, Jo.qb true, Jo.qb true, Jo.qb false, Jo.qb false, Jo.qp (w.heap.size + 1) 5, Jo.q4 2 false 0 0, Jo.q4 2 false 0 0, Jo.qb true, Jo.qb true, Jo.qb true, Jo.qb true] (by kernel_rfl) (by kernel_rfl) (by decide) rfl ?_ ?_
  · refine Jo.jm rfl ?_ ?_
    · rintro wj hJ K hK; simp only [Jo.z] at hK ⊢; go_simp; exact hK.out _ _ rfl (br _ _)
    refine Jo.jm rfl ?_ ?_
    · rintro wj hJ _ rfl K hK; simp only [Jo.z] at hK ⊢; go_simp; exact hK.out _ _ rfl (br _ _)
    refine Jo.jm rfl ?_ ?_
    · rintro wj hJ _ rfl K hK; simp only [Jo.z] at hK ⊢; go_simp; exact hK.out _ _ rfl (br _ _)
    refine Jo.jm rfl ?_ ?_
    · rintro wj hJ _ rfl K hK; simp only [Jo.z] at hK ⊢; obtain ⟨xX50, xX51, xX52⟩ := (X5.below hJ).u3; go_simp; exact hK.out _ _ rfl (br _ _)
    refine Jo.jm rfl ?_ ?_
    · rintro wj hJ _ rfl K hK; simp only [Jo.z] at hK ⊢; obtain ⟨xX20, xX21, xX22⟩ := (X2.below hJ).u3; go_simp; exact hK.out _ _ rfl (br _ _)
    refine Jo.jm rfl ?_ ?_
    · rintro wj hJ _ rfl _ rfl _ rfl K hK; simp only [Jo.z] at hK ⊢; go_simp; refine (dCmp (hT.below hJ) (pa.wr.below hJ) (h0.below hJ) (by omega) (by omega) HC1.out).mono ?_; rintro ee wk ⟨rfl, B⟩; exact hK.out _ _ rfl B
    refine Jo.jm rfl ?_ ?_
    · rintro wj hJ _ rfl _ rfl K hK; simp only [Jo.z] at hK ⊢; have hc0 := HL1.out; go_simp
      exact hK.out _ _ (by first | rfl | (show Value.bool _ = Value.bool _; rw [hc0]) | simp_all) (br _ _)
    refine Jo.jm rfl ?_ ?_
    · rintro wj hJ _ rfl _ rfl K hK; simp only [Jo.z] at hK ⊢; go_simp; exact hK.out _ _ rfl (br _ _)
    refine Jo.jm rfl ?_ ?_
    · rintro wj hJ _ rfl K hK; simp only [Jo.z] at hK ⊢; go_simp; exact hK.out _ _ rfl (br _ _)
    refine Jo.jm rfl ?_ ?_
    · rintro wj hJ _ rfl K hK; simp only [Jo.z] at hK ⊢; go_simp; exact hK.out _ _ rfl (br _ _)
    refine Jo.jm rfl ?_ ?_
    · rintro wj hJ _ rfl _ rfl K hK; simp only [Jo.z] at hK ⊢; go_simp; exact hK.out _ _ rfl (br _ _)
    refine Jo.jm rfl ?_ ?_
    · rintro wj hJ _ rfl _ rfl K hK; simp only [Jo.z] at hK ⊢; go_simp; exact hK.out _ _ rfl (br _ _)
    refine Jo.jm rfl ?_ ?_
    · rintro wj hJ _ rfl K hK; simp only [Jo.z] at hK ⊢; go_simp; exact hK.out _ _ rfl (br _ _)
    refine Jo.jm rfl ?_ ?_
    · rintro wj hJ _ rfl K hK; simp only [Jo.z] at hK ⊢; go_simp; exact hK.out _ _ rfl (br _ _)
    refine Jo.jm rfl ?_ ?_
    · rintro wj hJ _ rfl _ rfl _ rfl K hK; simp only [Jo.z] at hK ⊢; go_simp; exact hK.out _ _ rfl (br _ _)
    refine Jo.jm rfl ?_ ?_
    · rintro wj hJ _ rfl _ rfl K hK; simp only [Jo.z] at hK ⊢; go_simp; exact hK.out _ _ rfl (br _ _)
    refine Jo.jm rfl ?_ ?_
    · rintro wj hJ _ rfl _ rfl _ rfl K hK; simp only [Jo.z] at hK ⊢; go_simp; exact hK.out _ _ rfl (br _ _)
    refine Jo.jm rfl ?_ ?_
    · rintro wj hJ _ rfl _ rfl K hK; simp only [Jo.z] at hK ⊢; go_simp; exact hK.out _ _ rfl (br _ _)
    refine Jo.jm rfl ?_ ?_
    · rintro wj hJ _ rfl K hK; simp only [Jo.z] at hK ⊢; go_simp; exact hK.out _ _ rfl (br _ _)
    refine Jo.jm rfl ?_ ?_
    · rintro wj hJ _ rfl K hK; simp only [Jo.z] at hK ⊢; go_simp; exact hK.out _ _ rfl (br _ _)
    refine Jo.jm rfl ?_ ?_
    · rintro wj hJ _ rfl _ rfl K hK; simp only [Jo.z] at hK ⊢; go_simp; exact hK.out _ _ rfl (br _ _)
    refine Jo.jm rfl ?_ ?_
    · rintro wj hJ _ rfl K hK; simp only [Jo.z] at hK ⊢; go_simp; exact hK.out _ _ rfl (br _ _)
    refine Jo.jm rfl ?_ ?_
    · rintro wj hJ _ rfl _ rfl K hK; simp only [Jo.z] at hK ⊢; go_simp; exact hK.out _ _ rfl (br _ _)
    refine Jo.jm rfl ?_ ?_
    · rintro wj hJ _ rfl K hK; simp only [Jo.z] at hK ⊢; go_simp; exact hK.out _ _ rfl (br _ _)
    refine Jo.jm rfl ?_ ?_
    · rintro wj hJ _ rfl _ rfl _ rfl K hK; simp only [Jo.z] at hK ⊢; go_simp; exact hK.out _ _ rfl (br _ _)
    refine Jo.jm rfl ?_ ?_
    · rintro wj hJ _ rfl _ rfl _ rfl K hK; simp only [Jo.z] at hK ⊢; go_simp; exact hK.out _ _ rfl (br _ _)
    refine Jo.jm rfl ?_ ?_
    · rintro wj hJ _ rfl _ rfl K hK; simp only [Jo.z] at hK ⊢; go_simp; exact hK.out _ _ rfl (br _ _)
    refine Jo.jm rfl ?_ ?_
    · rintro wj hJ _ rfl K hK; simp only [Jo.z] at hK ⊢; go_simp; exact hK.out _ _ rfl (br _ _)
    refine Jo.jm rfl ?_ ?_
    · rintro wj hJ _ rfl K hK; simp only [Jo.z] at hK ⊢; go_simp; exact hK.out _ _ rfl (br _ _)
    refine Jo.jm rfl ?_ ?_
    · rintro wj hJ _ rfl _ rfl K hK; simp only [Jo.z] at hK ⊢; go_simp; exact hK.out _ _ rfl (br _ _)
    refine Jo.jm rfl ?_ ?_
    · rintro wj hJ _ rfl K hK; simp only [Jo.z] at hK ⊢; go_simp; exact hK.out _ _ rfl (br _ _)
    refine Jo.jm rfl ?_ ?_
    · rintro wj hJ _ rfl _ rfl K hK; simp only [Jo.z] at hK ⊢; obtain ⟨xX35, xX36, xX37, xX38⟩ := (X3.below hJ).v9; go_simp; exact hK.out _ _ rfl (br _ _)
    refine Jo.jm rfl ?_ ?_
    · rintro wj hJ _ rfl K hK; simp only [Jo.z] at hK ⊢; go_simp; refine (nInfE false).mono ?_; rintro ee wk ⟨rfl, B⟩; exact hK.out _ _ rfl B
    refine Jo.jm rfl ?_ ?_
    · rintro wj hJ _ rfl _ rfl _ rfl K hK; simp only [Jo.z] at hK ⊢; go_simp
      repeat' split
      all_goals exact hK.out _ _ (congrArg Value.bool (by first | rfl | (exfalso; simp_all) | simp_all)) (br _ _)
    refine Jo.jm rfl ?_ ?_
    · rintro wj hJ _ rfl _ rfl _ rfl K hK; simp only [Jo.z] at hK ⊢; go_simp; exact hK.out _ _ rfl (br _ _)
    refine Jo.jm rfl ?_ ?_
    · rintro wj hJ _ rfl _ rfl K hK; simp only [Jo.z] at hK ⊢; go_simp; exact hK.out _ _ rfl (br _ _)
    refine Jo.jm rfl ?_ ?_
    · rintro wj hJ _ rfl K hK; simp only [Jo.z] at hK ⊢; go_simp; exact hK.out _ _ rfl (br _ _)
    exact Jo.Steps.nil
  rintro w8 hJ _ rfl _ rfl _ rfl _ rfl _ rfl _ rfl _ rfl _ rfl _ rfl _ rfl _ rfl _ rfl _ rfl _ rfl _ rfl _ rfl _ rfl _ rfl _ rfl _ rfl _ rfl _ rfl _ rfl _ rfl _ rfl _ rfl _ rfl _ rfl _ rfl _ rfl _ _ _ rfl _ rfl _ rfl _ rfl _ rfl _ rfl -; simp only [Jo.z]; replace X2 := X2.below hJ; replace X3 := X3.below hJ; replace X5 := X5.below hJ; replace X7 := X7.below hJ; replace hT := hT.below hJ; replace h0 := h0.below hJ
  replace pa := pa.below hJ; replace pb := pb.below hJ; replace HB := Lib.hid (bt HB.out hJ); refine Jo.jdone (by kernel_rfl) ?_; go_wp2
  go_ret
  exact ⟨rfl, HB.out⟩
set_option maxHeartbeats 8000000 in
theorem kvin_ft {w : World} {A : Option Addr} {n c : Nat} {sd : Bool} {z e xa xb K1 M1 E1 K1b M1b E1b : Int} {s1 s1b : Bool} (hT : Tab w) (h0 : Wr w sd A n c z) (hn : n ≤ 100000) (v : Ci false K1 s1 M1 E1 K1b s1b M1b E1b (some (xa, xb))) (hxa : xa = -19342822337206103650074625) (hxb : xb < 19342822337206103650074625) (hvb : vl (mk z e) ≤ vr xb) :
    Calls Tryz.prog 31 #[.agg #[.bool sd, .slice A n c, .int .i64 e], .agg #[.bool false, .int .i64 K1, .bool s1, .int .u64 M1, .int .i64 E1, .int .i64 K1b, .bool s1b, .int .u64 M1b, .int .i64 E1b]] w (PB w true) := by
  obtain ⟨_, a1, b1, o1, o1l, o1h⟩ := v; subst hxa; obtain ⟨rfl, rfl, rfl, rfl⟩ := a1.uniq (fq_inf2 true)
  have g1 : exb 2 true 0 0 = false := by simp [exb]
  have w1M : (0 : Int) ≤ 0 := Int.le_refl _
  have HG1 := Lib.hid g1; obtain ⟨N1, hN1⟩ : ∃ N, (exq 2 true 0 0).1 = N := ⟨_, rfl⟩; obtain ⟨F1, hF1⟩ : ∃ N, (exq 2 true 0 0).2 = N := ⟨_, rfl⟩; have HN1 := Lib.hid hN1; have HF1 := Lib.hid hF1; clear hN1 hF1 g1; obtain ⟨g2, k2⟩ := exq_vl b1 o1h hxb
  have hm2 : vl (mk z e) ≤ vl (exq K1b s1b M1b E1b) := by rw [k2]; exact hvb
  have w2M : 0 ≤ M1b := by rcases b1.cases with ⟨_, _, h, _⟩ | ⟨_, h, _⟩ | ⟨_, h, _⟩ <;> omega
  rw [← mk_exqI K1b s1b M1b E1b] at hm2; have HG2 := Lib.hid g2; obtain ⟨N2, hN2⟩ : ∃ N, (exq K1b s1b M1b E1b).1 = N := ⟨_, rfl⟩; obtain ⟨F2, hF2⟩ : ∃ N, (exq K1b s1b M1b E1b).2 = N := ⟨_, rfl⟩; have HN2 := Lib.hid hN2; have HF2 := Lib.hid hF2; rw [hN2, hF2] at hm2; obtain ⟨c2, hc2⟩ : ∃ c, cmpI (vl (mk z e)) (vl (mk N2 F2)) = c := ⟨_, rfl⟩; have hl2 := (cmp_le hc2).trans (decide_eq_true hm2); have HC2 := Lib.hid hc2
  have HL2 := Lib.hid hl2; clear hc2 hl2 hm2 k2; clear hN2 hF2 g2; clear o1 o1l o1h hxb hvb
  go_enter Tryz.func31, Tryz.ntmps31
  go_upto_region 1 with (fail)
  generalize hW1 : (w.alloc _).alloc _ = w1 at *; obtain ⟨X2, X3, HB⟩ := Bo.en2 hW1; replace hT := hT.below HB.out; replace h0 := h0.below HB.out; clear hW1; obtain ⟨xX30, xX31, xX32, xX33, xX34, xX35, xX36, xX37, xX38⟩ := X3.u9
  go_wp2_with fail
  refine (nExact hT w1M (by decide) HG1.out HN1.out HF1.out).mono ?_; rintro ee w2 ⟨sa, Aa, na, ca, rfl, pa, ka, B⟩; clear xX30 xX31 xX32 xX33 xX34 xX35 xX36 xX37 xX38; replace X2 := X2.below B; replace X3 := X3.below B; replace hT := hT.below B; replace h0 := h0.below B; replace HB := Lib.hid (bt HB.out B); clear B
  go_upto_region 4 with (fail)
  have lX5 := Nat.le_refl (World.heap w2).size; have nX5X2 := X2.lt; have nX5X3 := X3.lt; generalize hWn : w2.alloc _ = w3 at *; obtain ⟨X5, BW⟩ := Bo.nw hWn; clear hWn; replace X2 := X2.below BW; replace X3 := X3.below BW; replace hT := hT.below BW; replace h0 := h0.below BW; replace pa := pa.below BW; replace HB := Lib.hid (bt HB.out BW); clear BW; clear lX5; obtain ⟨xX30, xX31, xX32, xX33, xX34, xX35, xX36, xX37, xX38⟩ := X3.u9
  go_wp2_with fail
  refine (nExact hT w2M b1.top HG2.out HN2.out HF2.out).mono ?_; rintro ee w4 ⟨sb, Ab, nb, cb, rfl, pb, kb, B⟩; clear xX30 xX31 xX32 xX33 xX34 xX35 xX36 xX37 xX38; replace X2 := X2.below B; replace X3 := X3.below B; replace X5 := X5.below B; replace hT := hT.below B; replace h0 := h0.below B; replace pa := pa.below B; replace HB := Lib.hid (bt HB.out B); clear B
  go_upto_region 5 with (fail)
  have lX7 := Nat.le_refl (World.heap w4).size; have nX7X2 := X2.lt; have nX7X3 := X3.lt; have nX7X5 := X5.lt; generalize hWn : w4.alloc _ = w5 at *; obtain ⟨X7, BW⟩ := Bo.nw hWn; clear hWn; replace X2 := X2.below BW; replace X3 := X3.below BW; replace X5 := X5.below BW; replace hT := hT.below BW; replace h0 := h0.below BW; replace pa := pa.below BW; replace pb := pb.below BW; replace HB := Lib.hid (bt HB.out BW)
  clear BW; clear lX7; refine Jo.rk [0, 1, 2, 3, 4, 5, 6, 7, 8, 9, 10, 11, 12, 13, 14, 15, 16, 17, 18, 19, 20, 21, 22, 23, 24, 25, 26, 27, 28, 29, 30, 31, 32, 33, 34, 35, 36] [some 23, some 24, some 25, some 26, some 27, some 28, some 29, some 30, some 31, some 32, some 33, some 34, some 35, some 36, some 37, some 38, some 39, some 40, some 41, some 42, some 43, some 44, some 45, some 46, some 47, some 48, some 49, some 50, some 51, some 52, some 53, some 54, some 55, some 56, some 57, some 58, some 4] [[], [0], [1], [2], [2], [2, 3, 4], [2, 5], [2, 6], [7], [8], [8, 9], [8, 10], [11], [11], [11, 12, 13], [11, 14], [8, 11, 15], [8, 16], [17], [18], [18, 19], [20], [20, 21], [20], [20, 22, 23], [18, 20, 24], [18, 25], [26], [27], [27, 28], [29], [29, 30], [29], [29, 31, 32], [27, 29, 33], [27, 34], [35]] 37 0 [Jo.qb false, Jo.qb true, Jo.qb true, Jo.qu, Jo.qu, Jo.qu, Jo.qu, Jo.qb true, Jo.qb true, Jo.qb true, Jo.qb false, Jo.qb false, Jo.Fact.eq (.agg #[.bool sd, .slice A n c, .int .i64 e]), Jo.Fact.eq (.agg #[.bool sb, .slice Ab nb cb, .int .i64 F2]), Jo.qi c2, Jo.qb true, Jo.qb true, Jo.qb true, Jo.qb true, Jo.qb false, Jo.qb false, Jo.qp (w.heap.size + 1) 1, Jo.q4 2 true 0 0, Jo.q4 2 true 0 0, Jo.qb true, Jo.qb true, Jo.qb true, Jo.qb true, Jo.qb true, Jo.qb true, Jo.qu, Jo.qu, Jo.qu, Jo.qu, Jo.qb true, Jo.qb true, Jo.qb true] (by kernel_rfl) (by kernel_rfl) (by decide) rfl ?_ ?_
  · refine Jo.jm rfl ?_ ?_
    · rintro wj hJ K hK; simp only [Jo.z] at hK ⊢; go_simp; exact hK.out _ _ rfl (br _ _)
    refine Jo.jm rfl ?_ ?_
    · rintro wj hJ _ rfl K hK; simp only [Jo.z] at hK ⊢; go_simp; exact hK.out _ _ rfl (br _ _)
    refine Jo.jm rfl ?_ ?_
    · rintro wj hJ _ rfl K hK; simp only [Jo.z] at hK ⊢; go_simp; exact hK.out _ _ rfl (br _ _)
    refine Jo.jm rfl ?_ ?_
    · rintro wj hJ _ rfl K hK; simp only [Jo.z] at hK ⊢; go_simp; exact hK.out _ _ rfl (br _ _)
    refine Jo.jm rfl ?_ ?_
    · rintro wj hJ _ rfl K hK; simp only [Jo.z] at hK ⊢; go_simp; exact hK.out _ _ rfl (br _ _)
    refine Jo.jm rfl ?_ ?_
    · rintro wj hJ _ rfl _ rfl _ rfl K hK; simp only [Jo.z] at hK ⊢; go_simp; exact hK.out _ _ rfl (br _ _)
    refine Jo.jm rfl ?_ ?_
    · rintro wj hJ _ rfl _ rfl K hK; simp only [Jo.z] at hK ⊢; go_simp; exact hK.out _ _ rfl (br _ _)
    refine Jo.jm rfl ?_ ?_
    · rintro wj hJ _ rfl _ rfl K hK; simp only [Jo.z] at hK ⊢; go_simp; exact hK.out _ _ rfl (br _ _)
    refine Jo.jm rfl ?_ ?_
    · rintro wj hJ _ rfl K hK; simp only [Jo.z] at hK ⊢; go_simp; exact hK.out _ _ rfl (br _ _)
    refine Jo.jm rfl ?_ ?_
    · rintro wj hJ _ rfl K hK; simp only [Jo.z] at hK ⊢; go_simp; exact hK.out _ _ rfl (br _ _)
    refine Jo.jm rfl ?_ ?_
    · rintro wj hJ _ rfl _ rfl K hK; simp only [Jo.z] at hK ⊢; go_simp; exact hK.out _ _ rfl (br _ _)
    refine Jo.jm rfl ?_ ?_
    · rintro wj hJ _ rfl _ rfl K hK; simp only [Jo.z] at hK ⊢; go_simp; exact hK.out _ _ rfl (br _ _)
    refine Jo.jm rfl ?_ ?_
    · rintro wj hJ _ rfl K hK; simp only [Jo.z] at hK ⊢; obtain ⟨xX20, xX21, xX22⟩ := (X2.below hJ).u3; go_simp; exact hK.out _ _ rfl (br _ _)
    refine Jo.jm rfl ?_ ?_
    · rintro wj hJ _ rfl K hK; simp only [Jo.z] at hK ⊢; obtain ⟨xX70, xX71, xX72⟩ := (X7.below hJ).u3; go_simp; exact hK.out _ _ rfl (br _ _)
    refine Jo.jm rfl ?_ ?_
    · rintro wj hJ _ rfl _ rfl _ rfl K hK; simp only [Jo.z] at hK ⊢; go_simp; refine (dCmp (hT.below hJ) (h0.below hJ) (pb.wr.below hJ) (by omega) (by omega) HC2.out).mono ?_; rintro ee wk ⟨rfl, B⟩; exact hK.out _ _ rfl B
    refine Jo.jm rfl ?_ ?_
    · rintro wj hJ _ rfl _ rfl K hK; simp only [Jo.z] at hK ⊢; have hc0 := HL2.out; go_simp
      exact hK.out _ _ (by first | rfl | (show Value.bool _ = Value.bool _; rw [hc0]) | simp_all) (br _ _)
    refine Jo.jm rfl ?_ ?_
    · rintro wj hJ _ rfl _ rfl _ rfl K hK; simp only [Jo.z] at hK ⊢; go_simp; exact hK.out _ _ rfl (br _ _)
    refine Jo.jm rfl ?_ ?_
    · rintro wj hJ _ rfl _ rfl K hK; simp only [Jo.z] at hK ⊢; go_simp; exact hK.out _ _ rfl (br _ _)
    refine Jo.jm rfl ?_ ?_
    · rintro wj hJ _ rfl K hK; simp only [Jo.z] at hK ⊢; go_simp; exact hK.out _ _ rfl (br _ _)
    refine Jo.jm rfl ?_ ?_
    · rintro wj hJ _ rfl K hK; simp only [Jo.z] at hK ⊢; go_simp; exact hK.out _ _ rfl (br _ _)
    refine Jo.jm rfl ?_ ?_
    · rintro wj hJ _ rfl _ rfl K hK; simp only [Jo.z] at hK ⊢; go_simp; exact hK.out _ _ rfl (br _ _)
    refine Jo.jm rfl ?_ ?_
    · rintro wj hJ _ rfl K hK; simp only [Jo.z] at hK ⊢; go_simp; exact hK.out _ _ rfl (br _ _)
    refine Jo.jm rfl ?_ ?_
    · rintro wj hJ _ rfl _ rfl K hK; simp only [Jo.z] at hK ⊢; obtain ⟨xX31, xX32, xX33, xX34⟩ := (X3.below hJ).w9; go_simp; exact hK.out _ _ rfl (br _ _)
    refine Jo.jm rfl ?_ ?_
    · rintro wj hJ _ rfl K hK; simp only [Jo.z] at hK ⊢; go_simp; refine (nInfE true).mono ?_; rintro ee wk ⟨rfl, B⟩; exact hK.out _ _ rfl B
    refine Jo.jm rfl ?_ ?_
    · rintro wj hJ _ rfl _ rfl _ rfl K hK; simp only [Jo.z] at hK ⊢; go_simp
      repeat' split
      all_goals exact hK.out _ _ (congrArg Value.bool (by first | rfl | (exfalso; simp_all) | simp_all)) (br _ _)
    refine Jo.jm rfl ?_ ?_
    · rintro wj hJ _ rfl _ rfl _ rfl K hK; simp only [Jo.z] at hK ⊢; go_simp; exact hK.out _ _ rfl (br _ _)
    refine Jo.jm rfl ?_ ?_
    · rintro wj hJ _ rfl _ rfl K hK; simp only [Jo.z] at hK ⊢; go_simp; exact hK.out _ _ rfl (br _ _)
    refine Jo.jm rfl ?_ ?_
    · rintro wj hJ _ rfl K hK; simp only [Jo.z] at hK ⊢; go_simp; exact hK.out _ _ rfl (br _ _)
    refine Jo.jm rfl ?_ ?_
    · rintro wj hJ _ rfl K hK; simp only [Jo.z] at hK ⊢; go_simp; exact hK.out _ _ rfl (br _ _)
    refine Jo.jm rfl ?_ ?_
    · rintro wj hJ _ rfl _ rfl K hK; simp only [Jo.z] at hK ⊢; go_simp; exact hK.out _ _ rfl (br _ _)
    refine Jo.jm rfl ?_ ?_
    · rintro wj hJ _ rfl K hK; simp only [Jo.z] at hK ⊢; go_simp; exact hK.out _ _ rfl (br _ _)
    refine Jo.jm rfl ?_ ?_
    · rintro wj hJ _ rfl _ rfl K hK; simp only [Jo.z] at hK ⊢; go_simp; exact hK.out _ _ rfl (br _ _)
    refine Jo.jm rfl ?_ ?_
    · rintro wj hJ _ rfl K hK; simp only [Jo.z] at hK ⊢; go_simp; exact hK.out _ _ rfl (br _ _)
    refine Jo.jm rfl ?_ ?_
    · rintro wj hJ _ rfl _ rfl _ rfl K hK; simp only [Jo.z] at hK ⊢; go_simp; exact hK.out _ _ rfl (br _ _)
    refine Jo.jm rfl ?_ ?_
    · rintro wj hJ _ rfl _ rfl _ rfl K hK; simp only [Jo.z] at hK ⊢; go_simp; exact hK.out _ _ rfl (br _ _)
    refine Jo.jm rfl ?_ ?_
    · rintro wj hJ _ rfl _ rfl K hK; simp only [Jo.z] at hK ⊢; go_simp; exact hK.out _ _ rfl (br _ _)
    refine Jo.jm rfl ?_ ?_
    · rintro wj hJ _ rfl K hK; simp only [Jo.z] at hK ⊢; go_simp; exact hK.out _ _ rfl (br _ _)
    exact Jo.Steps.nil
  rintro w8 hJ _ rfl _ rfl _ rfl _ rfl _ rfl _ rfl _ rfl _ rfl _ rfl _ rfl _ rfl _ rfl _ rfl _ rfl _ rfl _ rfl _ rfl _ rfl _ rfl _ rfl _ rfl _ _ _ rfl _ rfl _ rfl _ rfl _ rfl _ rfl _ rfl _ rfl _ rfl _ rfl _ rfl _ rfl _ rfl _ rfl _ rfl -; simp only [Jo.z]; replace X2 := X2.below hJ; replace X3 := X3.below hJ; replace X5 := X5.below hJ; replace X7 := X7.below hJ; replace hT := hT.below hJ; replace h0 := h0.below hJ
  replace pa := pa.below hJ; replace pb := pb.below hJ; replace HB := Lib.hid (bt HB.out hJ); refine Jo.jdone (by kernel_rfl) ?_; go_wp2
  go_ret
  exact ⟨rfl, HB.out⟩
set_option maxHeartbeats 8000000 in
theorem kvin_ff {w : World} {A : Option Addr} {n c : Nat} {sd : Bool} {z e xa xb K1 M1 E1 K1b M1b E1b : Int} {s1 s1b : Bool} (hT : Tab w) (h0 : Wr w sd A n c z) (hn : n ≤ 100000) (v : Ci false K1 s1 M1 E1 K1b s1b M1b E1b (some (xa, xb))) (hxa : xa = -19342822337206103650074625) (hxb : xb = 19342822337206103650074625) :
    Calls Tryz.prog 31 #[.agg #[.bool sd, .slice A n c, .int .i64 e], .agg #[.bool false, .int .i64 K1, .bool s1, .int .u64 M1, .int .i64 E1, .int .i64 K1b, .bool s1b, .int .u64 M1b, .int .i64 E1b]] w (PB w true) := by
  obtain ⟨_, a1, b1, o1, o1l, o1h⟩ := v; subst hxa; obtain ⟨rfl, rfl, rfl, rfl⟩ := a1.uniq (fq_inf2 true)
  have g1 : exb 2 true 0 0 = false := by simp [exb]
  have w1M : (0 : Int) ≤ 0 := Int.le_refl _
  have HG1 := Lib.hid g1; obtain ⟨N1, hN1⟩ : ∃ N, (exq 2 true 0 0).1 = N := ⟨_, rfl⟩; obtain ⟨F1, hF1⟩ : ∃ N, (exq 2 true 0 0).2 = N := ⟨_, rfl⟩; have HN1 := Lib.hid hN1; have HF1 := Lib.hid hF1; clear hN1 hF1 g1; subst hxb; obtain ⟨rfl, rfl, rfl, rfl⟩ := b1.uniq (fq_inf2 false)
  have g2 : exb 2 false 0 0 = false := by simp [exb]
  have w2M : (0 : Int) ≤ 0 := Int.le_refl _
  have HG2 := Lib.hid g2; obtain ⟨N2, hN2⟩ : ∃ N, (exq 2 false 0 0).1 = N := ⟨_, rfl⟩; obtain ⟨F2, hF2⟩ : ∃ N, (exq 2 false 0 0).2 = N := ⟨_, rfl⟩; have HN2 := Lib.hid hN2; have HF2 := Lib.hid hF2; clear hN2 hF2 g2; clear o1 o1l o1h
  go_enter Tryz.func31, Tryz.ntmps31
  go_upto_region 1 with (fail)
  generalize hW1 : (w.alloc _).alloc _ = w1 at *; obtain ⟨X2, X3, HB⟩ := Bo.en2 hW1; replace hT := hT.below HB.out; replace h0 := h0.below HB.out; clear hW1; obtain ⟨xX30, xX31, xX32, xX33, xX34, xX35, xX36, xX37, xX38⟩ := X3.u9
  go_wp2_with fail
  refine (nExact hT w1M (by decide) HG1.out HN1.out HF1.out).mono ?_; rintro ee w2 ⟨sa, Aa, na, ca, rfl, pa, ka, B⟩; clear xX30 xX31 xX32 xX33 xX34 xX35 xX36 xX37 xX38; replace X2 := X2.below B; replace X3 := X3.below B; replace hT := hT.below B; replace h0 := h0.below B; replace HB := Lib.hid (bt HB.out B); clear B
  go_upto_region 4 with (fail)
  have lX5 := Nat.le_refl (World.heap w2).size; have nX5X2 := X2.lt; have nX5X3 := X3.lt; generalize hWn : w2.alloc _ = w3 at *; obtain ⟨X5, BW⟩ := Bo.nw hWn; clear hWn; replace X2 := X2.below BW; replace X3 := X3.below BW; replace hT := hT.below BW; replace h0 := h0.below BW; replace pa := pa.below BW; replace HB := Lib.hid (bt HB.out BW); clear BW; clear lX5; obtain ⟨xX30, xX31, xX32, xX33, xX34, xX35, xX36, xX37, xX38⟩ := X3.u9
  go_wp2_with fail
  refine (nExact hT w2M (by decide) HG2.out HN2.out HF2.out).mono ?_; rintro ee w4 ⟨sb, Ab, nb, cb, rfl, pb, kb, B⟩; clear xX30 xX31 xX32 xX33 xX34 xX35 xX36 xX37 xX38; replace X2 := X2.below B; replace X3 := X3.below B; replace X5 := X5.below B; replace hT := hT.below B; replace h0 := h0.below B; replace pa := pa.below B; replace HB := Lib.hid (bt HB.out B); clear B
  go_upto_region 5 with (fail)
  have lX7 := Nat.le_refl (World.heap w4).size; have nX7X2 := X2.lt; have nX7X3 := X3.lt; have nX7X5 := X5.lt; generalize hWn : w4.alloc _ = w5 at *; obtain ⟨X7, BW⟩ := Bo.nw hWn; clear hWn; replace X2 := X2.below BW; replace X3 := X3.below BW; replace X5 := X5.below BW; replace hT := hT.below BW; replace h0 := h0.below BW; replace pa := pa.below BW; replace pb := pb.below BW; replace HB := Lib.hid (bt HB.out BW)
  clear BW; clear lX7; refine Jo.rk [0, 1, 2, 3, 4, 5, 6, 7, 8, 9, 10, 11, 12, 13, 14, 15, 16, 17, 18, 19, 20, 21, 22, 23, 24, 25, 26, 27, 28, 29, 30, 31, 32, 33, 34, 35, 36] [some 23, some 24, some 25, some 26, some 27, some 28, some 29, some 30, some 31, some 32, some 33, some 34, some 35, some 36, some 37, some 38, some 39, some 40, some 41, some 42, some 43, some 44, some 45, some 46, some 47, some 48, some 49, some 50, some 51, some 52, some 53, some 54, some 55, some 56, some 57, some 58, some 4] [[], [0], [1], [2], [2], [2, 3, 4], [2, 5], [2, 6], [7], [8], [8, 9], [8, 10], [11], [11], [11, 12, 13], [11, 14], [8, 11, 15], [8, 16], [17], [18], [18, 19], [20], [20, 21], [20], [20, 22, 23], [18, 20, 24], [18, 25], [26], [27], [27, 28], [29], [29, 30], [29], [29, 31, 32], [27, 29, 33], [27, 34], [35]] 37 0 [Jo.qb false, Jo.qb true, Jo.qb true, Jo.qu, Jo.qu, Jo.qu, Jo.qu, Jo.qb true, Jo.qb true, Jo.qb false, Jo.qb true, Jo.qb true, Jo.qu, Jo.qu, Jo.qu, Jo.qu, Jo.qb true, Jo.qb true, Jo.qb true, Jo.qb false, Jo.qb false, Jo.qp (w.heap.size + 1) 1, Jo.q4 2 true 0 0, Jo.q4 2 true 0 0, Jo.qb true, Jo.qb true, Jo.qb true, Jo.qb true, Jo.qb false, Jo.qb false, Jo.qp (w.heap.size + 1) 5, Jo.q4 2 false 0 0, Jo.q4 2 false 0 0, Jo.qb true, Jo.qb true, Jo.qb true, Jo.qb true] (by kernel_rfl) (by kernel_rfl) (by decide) rfl ?_ ?_
  · refine Jo.jm rfl ?_ ?_
    · rintro wj hJ K hK; simp only [Jo.z] at hK ⊢; go_simp; exact hK.out _ _ rfl (br _ _)
    refine Jo.jm rfl ?_ ?_
    · rintro wj hJ _ rfl K hK; simp only [Jo.z] at hK ⊢; go_simp; exact hK.out _ _ rfl (br _ _)
    refine Jo.jm rfl ?_ ?_
    · rintro wj hJ _ rfl K hK; simp only [Jo.z] at hK ⊢; go_simp; exact hK.out _ _ rfl (br _ _)
    refine Jo.jm rfl ?_ ?_
    · rintro wj hJ _ rfl K hK; simp only [Jo.z] at hK ⊢; go_simp; exact hK.out _ _ rfl (br _ _)
    refine Jo.jm rfl ?_ ?_
    · rintro wj hJ _ rfl K hK; simp only [Jo.z] at hK ⊢; go_simp; exact hK.out _ _ rfl (br _ _)
    refine Jo.jm rfl ?_ ?_
    · rintro wj hJ _ rfl _ rfl _ rfl K hK; simp only [Jo.z] at hK ⊢; go_simp; exact hK.out _ _ rfl (br _ _)
    refine Jo.jm rfl ?_ ?_
    · rintro wj hJ _ rfl _ rfl K hK; simp only [Jo.z] at hK ⊢; go_simp; exact hK.out _ _ rfl (br _ _)
    refine Jo.jm rfl ?_ ?_
    · rintro wj hJ _ rfl _ rfl K hK; simp only [Jo.z] at hK ⊢; go_simp; exact hK.out _ _ rfl (br _ _)
    refine Jo.jm rfl ?_ ?_
    · rintro wj hJ _ rfl K hK; simp only [Jo.z] at hK ⊢; go_simp; exact hK.out _ _ rfl (br _ _)
    refine Jo.jm rfl ?_ ?_
    · rintro wj hJ _ rfl K hK; simp only [Jo.z] at hK ⊢; go_simp; exact hK.out _ _ rfl (br _ _)
    refine Jo.jm rfl ?_ ?_
    · rintro wj hJ _ rfl _ rfl K hK; simp only [Jo.z] at hK ⊢; go_simp; exact hK.out _ _ rfl (br _ _)
    refine Jo.jm rfl ?_ ?_
    · rintro wj hJ _ rfl _ rfl K hK; simp only [Jo.z] at hK ⊢; go_simp; exact hK.out _ _ rfl (br _ _)
    refine Jo.jm rfl ?_ ?_
    · rintro wj hJ _ rfl K hK; simp only [Jo.z] at hK ⊢; go_simp; exact hK.out _ _ rfl (br _ _)
    refine Jo.jm rfl ?_ ?_
    · rintro wj hJ _ rfl K hK; simp only [Jo.z] at hK ⊢; go_simp; exact hK.out _ _ rfl (br _ _)
    refine Jo.jm rfl ?_ ?_
    · rintro wj hJ _ rfl _ rfl _ rfl K hK; simp only [Jo.z] at hK ⊢; go_simp; exact hK.out _ _ rfl (br _ _)
    refine Jo.jm rfl ?_ ?_
    · rintro wj hJ _ rfl _ rfl K hK; simp only [Jo.z] at hK ⊢; go_simp; exact hK.out _ _ rfl (br _ _)
    refine Jo.jm rfl ?_ ?_
    · rintro wj hJ _ rfl _ rfl _ rfl K hK; simp only [Jo.z] at hK ⊢; go_simp; exact hK.out _ _ rfl (br _ _)
    refine Jo.jm rfl ?_ ?_
    · rintro wj hJ _ rfl _ rfl K hK; simp only [Jo.z] at hK ⊢; go_simp; exact hK.out _ _ rfl (br _ _)
    refine Jo.jm rfl ?_ ?_
    · rintro wj hJ _ rfl K hK; simp only [Jo.z] at hK ⊢; go_simp; exact hK.out _ _ rfl (br _ _)
    refine Jo.jm rfl ?_ ?_
    · rintro wj hJ _ rfl K hK; simp only [Jo.z] at hK ⊢; go_simp; exact hK.out _ _ rfl (br _ _)
    refine Jo.jm rfl ?_ ?_
    · rintro wj hJ _ rfl _ rfl K hK; simp only [Jo.z] at hK ⊢; go_simp; exact hK.out _ _ rfl (br _ _)
    refine Jo.jm rfl ?_ ?_
    · rintro wj hJ _ rfl K hK; simp only [Jo.z] at hK ⊢; go_simp; exact hK.out _ _ rfl (br _ _)
    refine Jo.jm rfl ?_ ?_
    · rintro wj hJ _ rfl _ rfl K hK; simp only [Jo.z] at hK ⊢; obtain ⟨xX31, xX32, xX33, xX34⟩ := (X3.below hJ).w9; go_simp; exact hK.out _ _ rfl (br _ _)
    refine Jo.jm rfl ?_ ?_
    · rintro wj hJ _ rfl K hK; simp only [Jo.z] at hK ⊢; go_simp; refine (nInfE true).mono ?_; rintro ee wk ⟨rfl, B⟩; exact hK.out _ _ rfl B
    refine Jo.jm rfl ?_ ?_
    · rintro wj hJ _ rfl _ rfl _ rfl K hK; simp only [Jo.z] at hK ⊢; go_simp
      repeat' split
      all_goals exact hK.out _ _ (congrArg Value.bool (by first | rfl | (exfalso; simp_all) | simp_all)) (br _ _)
    refine Jo.jm rfl ?_ ?_
    · rintro wj hJ _ rfl _ rfl _ rfl K hK; simp only [Jo.z] at hK ⊢; go_simp; exact hK.out _ _ rfl (br _ _)
    refine Jo.jm rfl ?_ ?_
    · rintro wj hJ _ rfl _ rfl K hK; simp only [Jo.z] at hK ⊢; go_simp; exact hK.out _ _ rfl (br _ _)
    refine Jo.jm rfl ?_ ?_
    · rintro wj hJ _ rfl K hK; simp only [Jo.z] at hK ⊢; go_simp; exact hK.out _ _ rfl (br _ _)
    refine Jo.jm rfl ?_ ?_
    · rintro wj hJ _ rfl K hK; simp only [Jo.z] at hK ⊢; go_simp; exact hK.out _ _ rfl (br _ _)
    refine Jo.jm rfl ?_ ?_
    · rintro wj hJ _ rfl _ rfl K hK; simp only [Jo.z] at hK ⊢; go_simp; exact hK.out _ _ rfl (br _ _)
    refine Jo.jm rfl ?_ ?_
    · rintro wj hJ _ rfl K hK; simp only [Jo.z] at hK ⊢; go_simp; exact hK.out _ _ rfl (br _ _)
    refine Jo.jm rfl ?_ ?_
    · rintro wj hJ _ rfl _ rfl K hK; simp only [Jo.z] at hK ⊢; obtain ⟨xX35, xX36, xX37, xX38⟩ := (X3.below hJ).v9; go_simp; exact hK.out _ _ rfl (br _ _)
    refine Jo.jm rfl ?_ ?_
    · rintro wj hJ _ rfl K hK; simp only [Jo.z] at hK ⊢; go_simp; refine (nInfE false).mono ?_; rintro ee wk ⟨rfl, B⟩; exact hK.out _ _ rfl B
    refine Jo.jm rfl ?_ ?_
    · rintro wj hJ _ rfl _ rfl _ rfl K hK; simp only [Jo.z] at hK ⊢; go_simp
      repeat' split
      all_goals exact hK.out _ _ (congrArg Value.bool (by first | rfl | (exfalso; simp_all) | simp_all)) (br _ _)
    refine Jo.jm rfl ?_ ?_
    · rintro wj hJ _ rfl _ rfl _ rfl K hK; simp only [Jo.z] at hK ⊢; go_simp; exact hK.out _ _ rfl (br _ _)
    refine Jo.jm rfl ?_ ?_
    · rintro wj hJ _ rfl _ rfl K hK; simp only [Jo.z] at hK ⊢; go_simp; exact hK.out _ _ rfl (br _ _)
    refine Jo.jm rfl ?_ ?_
    · rintro wj hJ _ rfl K hK; simp only [Jo.z] at hK ⊢; go_simp; exact hK.out _ _ rfl (br _ _)
    exact Jo.Steps.nil
  rintro w8 hJ _ rfl _ rfl _ rfl _ rfl _ rfl _ rfl _ rfl _ rfl _ rfl _ rfl _ rfl _ rfl _ rfl _ rfl _ rfl _ rfl _ rfl _ rfl _ rfl _ rfl _ rfl _ _ _ rfl _ rfl _ rfl _ rfl _ rfl _ rfl _ rfl _ rfl _ _ _ rfl _ rfl _ rfl _ rfl _ rfl _ rfl -; simp only [Jo.z]; replace X2 := X2.below hJ; replace X3 := X3.below hJ; replace X5 := X5.below hJ; replace X7 := X7.below hJ; replace hT := hT.below hJ; replace h0 := h0.below hJ
  replace pa := pa.below hJ; replace pb := pb.below hJ; replace HB := Lib.hid (bt HB.out hJ); refine Jo.jdone (by kernel_rfl) ?_; go_wp2
  go_ret
  exact ⟨rfl, HB.out⟩
theorem kvIn {w : World} {A : Option Addr} {n c : Nat} {sd e0 : Bool} {z e K1 M1 E1 K1b M1b E1b : Int} {s1 s1b : Bool} {x : Sp} (hT : Tab w) (h0 : Wr w sd A n c z) (hn : n ≤ 100000) (v : Ci e0 K1 s1 M1 E1 K1b s1b M1b E1b x) (hw : Wi (vl (mk z e)) x) :
    Calls Tryz.prog 31 #[.agg #[.bool sd, .slice A n c, .int .i64 e], .agg #[.bool e0, .int .i64 K1, .bool s1, .int .u64 M1, .int .i64 E1, .int .i64 K1b, .bool s1b, .int .u64 M1b, .int .i64 E1b]] w (PB w true) := by
  rcases x with _ | ⟨xa, xb⟩
  · exact absurd hw id
  · have hv := v; obtain ⟨rfl, a1, b1, _, _, _⟩ := hv; obtain ⟨ha, hb⟩ := hw; have d1 := a1.bd; have d2 := b1.bd
    by_cases ea : xa = -19342822337206103650074625
    · by_cases eb : xb = 19342822337206103650074625
      · exact kvin_ff hT h0 hn v ea eb
      · exact kvin_ft hT h0 hn v ea (by omega) (hb.resolve_left eb)
    · by_cases eb : xb = 19342822337206103650074625
      · exact kvin_tf hT h0 hn v (by omega) (ha.resolve_left ea) eb
      · exact kvin_tt hT h0 hn v (by omega) (ha.resolve_left ea) (by omega) (hb.resolve_left eb)
end Go.Proofs.YteejbcimmmcnlaaGreatDoor

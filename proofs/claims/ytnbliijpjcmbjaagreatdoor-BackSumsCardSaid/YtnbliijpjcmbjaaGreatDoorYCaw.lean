/-
 Contracts that the proof rests on.
-/
import Derived.Test.YtnbliijpjcmbjaaGreatDoorYCav
namespace Go.Proofs.YtnbliijpjcmbjaaGreatDoor
set_option maxHeartbeats 8000000
open Go.RowKit
set_option linter.unusedVariables false
set_option maxRecDepth 100000
theorem q3two_l {w : World} {A B : Option Addr} {n c m d : Nat} {s t : Bool} {z e y f N1 E1 N2 E2 : Int} (h : Wr w s A n c z) (k : Wr w t B m d y) (hn : n ≤ 20000) (hm : m ≤ 20000)
   (HN1 : Hid ((mk z e).1 = N1)) (HE1 : Hid ((mk z e).2 = E1)) (HN2 : Hid ((mk y f).1 = N2)) (HE2 : Hid ((mk y f).2 = E2)) (h1 : N1 = 0) :
   Calls Tryz.prog 100 #[.agg #[.bool s, .slice A n c, .int .i64 e], .agg #[.bool t, .slice B m d, .int .i64 f]] w (D1 w m N2 E2) := by
 go_enter Tryz.func100, Tryz.ntmps100
 go_upto_region 1 with (fail)
 generalize hW1 : ((w.alloc _).alloc _).alloc _ = w1 at *; obtain ⟨X1, X2, XR, HB⟩ := Bo.en3 hW1; replace h := h.below HB.out; replace k := k.below HB.out; clear hW1; have xX1 := X1.cell
 go_wp2_with fail
 refine (q3Make h (by omega) HN1.out HE1.out).mono ?_; rintro ee w2 ⟨s1, A1, n1, c1, rfl, p1, k1, B⟩; clear xX1; replace X1 := X1.below B; replace X2 := X2.below B; replace XR := XR.below B; replace h := h.below B; replace k := k.below B; replace HB := Hqb HB B; clear B; have xX2 := X2.cell
 go_upto_region 2 with (fail)
 clear xX2; have lX5 := Nat.le_refl (World.heap w2).size; have nX5X2 := X2.lt; have nX5XR := XR.lt; generalize hWn : w2.alloc _ = w3 at *; obtain ⟨X5, BW⟩ := Bo.nw hWn; clear hWn; replace X2 := X2.below BW; replace XR := XR.below BW; replace k := k.below BW; replace p1 := p1.below BW; replace HB := Hqb HB BW; clear BW; have xX2 := X2.cell
 go_wp2_with fail
 refine (q3Make k (by omega) HN2.out HE2.out).mono ?_; rintro ee w4 ⟨s2, A2, n2, c2, rfl, p2, k2, B⟩; clear xX2; replace X2 := X2.below B; replace XR := XR.below B; replace X5 := X5.below B; replace k := k.below B; replace p1 := p1.below B; replace HB := Hqb HB B; clear B
 go_upto_region 3 with (fail)
 have lX6 := Nat.le_refl (World.heap w4).size; have nX6XR := XR.lt; have nX6X5 := X5.lt; generalize hWn : w4.alloc _ = w5 at *; obtain ⟨X6, BW⟩ := Bo.nw hWn; clear hWn; replace XR := XR.below BW; replace X5 := X5.below BW; replace p1 := p1.below BW; replace p2 := p2.below BW; replace HB := Hqb HB BW; clear BW; clear lX6
 have hz : n1 = 0 := by have := p1.1.pos; omega
 subst hz; have xX5 := X5.cell; have xX6 := X6.cell; have xXR := XR.cell; have zXR0 := XR.frozen; go_wp2; clear xX5 xX6 xXR zXR0; have SX := StN.mk3 XR (.bool s2) (.slice A2 n2 c2) (.int .i64 E2); replace p2 := p2.stn SX (by simp [no32]); exact bodyPost_ret (v := .agg #[.bool s2, .slice A2 n2 c2, .int .i64 E2]) (by simp [results, Tryz.results100, go_sem, SX.box.cell]) rfl ⟨s2, _, _, _, rfl, p2, k2, (SX.below HB.out (by omega))⟩
theorem q3two_r {w : World} {A B : Option Addr} {n c m d : Nat} {s t : Bool} {z e y f N1 E1 N2 E2 : Int} (h : Wr w s A n c z) (k : Wr w t B m d y) (hn : n ≤ 20000) (hm : m ≤ 20000)
   (HN1 : Hid ((mk z e).1 = N1)) (HE1 : Hid ((mk z e).2 = E1)) (HN2 : Hid ((mk y f).1 = N2)) (HE2 : Hid ((mk y f).2 = E2)) (h1 : N1 ≠ 0) (h2 : N2 = 0) :
   Calls Tryz.prog 100 #[.agg #[.bool s, .slice A n c, .int .i64 e], .agg #[.bool t, .slice B m d, .int .i64 f]] w (D1 w n N1 E1) := by
 go_enter Tryz.func100, Tryz.ntmps100
 go_upto_region 1 with (fail)
 generalize hW1 : ((w.alloc _).alloc _).alloc _ = w1 at *; obtain ⟨X1, X2, XR, HB⟩ := Bo.en3 hW1; replace h := h.below HB.out; replace k := k.below HB.out; clear hW1; have xX1 := X1.cell
 go_wp2_with fail
 refine (q3Make h (by omega) HN1.out HE1.out).mono ?_; rintro ee w2 ⟨s1, A1, n1, c1, rfl, p1, k1, B⟩; clear xX1; replace X1 := X1.below B; replace X2 := X2.below B; replace XR := XR.below B; replace h := h.below B; replace k := k.below B; replace HB := Hqb HB B; clear B; have xX2 := X2.cell
 go_upto_region 2 with (fail)
 clear xX2; have lX5 := Nat.le_refl (World.heap w2).size; have nX5X2 := X2.lt; have nX5XR := XR.lt; generalize hWn : w2.alloc _ = w3 at *; obtain ⟨X5, BW⟩ := Bo.nw hWn; clear hWn; replace X2 := X2.below BW; replace XR := XR.below BW; replace k := k.below BW; replace p1 := p1.below BW; replace HB := Hqb HB BW; clear BW; have xX2 := X2.cell
 go_wp2_with fail
 refine (q3Make k (by omega) HN2.out HE2.out).mono ?_; rintro ee w4 ⟨s2, A2, n2, c2, rfl, p2, k2, B⟩; clear xX2; replace X2 := X2.below B; replace XR := XR.below B; replace X5 := X5.below B; replace k := k.below B; replace p1 := p1.below B; replace HB := Hqb HB B; clear B
 go_upto_region 3 with (fail)
 have lX6 := Nat.le_refl (World.heap w4).size; have nX6XR := XR.lt; have nX6X5 := X5.lt; generalize hWn : w4.alloc _ = w5 at *; obtain ⟨X6, BW⟩ := Bo.nw hWn; clear hWn; replace XR := XR.below BW; replace X5 := X5.below BW; replace p1 := p1.below BW; replace p2 := p2.below BW; replace HB := Hqb HB BW; clear BW; clear lX6
 have hpa : 0 < n1 := by have := p1.1.pos; omega
 have qa : ((n1 : Int) == 0) = false := by have : (n1 : Int) ≠ 0 := by omega
                                           simpa using this
 have la := p1.1.rd.big
 have hz : n2 = 0 := by have := p2.1.pos; omega
 subst hz; have xX5 := X5.cell; have xX6 := X6.cell; have xXR := XR.cell; have zXR0 := XR.frozen; go_wp2; clear xX5 xX6 xXR zXR0; have SX := StN.mk3 XR (.bool s1) (.slice A1 n1 c1) (.int .i64 E1); replace p1 := p1.stn SX (by simp [no32]); exact bodyPost_ret (v := .agg #[.bool s1, .slice A1 n1 c1, .int .i64 E1]) (by simp [results, Tryz.results100, go_sem, SX.box.cell]) rfl ⟨s1, _, _, _, rfl, p1, k1, (SX.below HB.out (by omega))⟩
theorem q3sum_up {w : World} {A B : Option Addr} {n c m d : Nat} {s t : Bool} {z e y f N1 E1 N2 E2 N E : Int} (h : Wr w s A n c z) (k : Wr w t B m d y) (hn : n ≤ 20000) (hm : m ≤ 20000)
   (HN1 : Hid ((mk z e).1 = N1)) (HE1 : Hid ((mk z e).2 = E1)) (HN2 : Hid ((mk y f).1 = N2)) (HE2 : Hid ((mk y f).2 = E2)) (h1 : N1 ≠ 0) (h2 : N2 ≠ 0) (hle : E1 ≤ E2) (hfar : E2 - E1 ≤ 640000) (b1 : -4194304 ≤ E1) (b2 : E2 ≤ 4194304)
   (HN : Hid ((mk (N1 + N2 * ((2 ^ (E2 - E1).toNat : Nat) : Int)) E1).1 = N)) (HE : Hid ((mk (N1 + N2 * ((2 ^ (E2 - E1).toNat : Nat) : Int)) E1).2 = E)) :
   Calls Tryz.prog 100 #[.agg #[.bool s, .slice A n c, .int .i64 e], .agg #[.bool t, .slice B m d, .int .i64 f]] w (D1 w (n + m + 20010) N E) := by
 obtain ⟨δ, hδ⟩ : ∃ x, E2 - E1 = x := ⟨_, rfl⟩
 have HW : Hid (IntKind.i64.wrap (E2 - E1) = δ) := Lib.hid (by rw [hδ]; exact IntWalk.i64_in _ (by omega))
 have hd0 : 0 ≤ δ := by omega
 rw [hδ] at hfar HN HE
 have tle : decide (E2 < E1) = false := by simp; omega
 clear hδ
 go_enter Tryz.func100, Tryz.ntmps100
 go_upto_region 1 with (fail)
 generalize hW1 : ((w.alloc _).alloc _).alloc _ = w1 at *; obtain ⟨X1, X2, XR, HB⟩ := Bo.en3 hW1; replace h := h.below HB.out; replace k := k.below HB.out; clear hW1; have xX1 := X1.cell
 go_wp2_with fail
 refine (q3Make h (by omega) HN1.out HE1.out).mono ?_; rintro ee w2 ⟨s1, A1, n1, c1, rfl, p1, k1, B⟩; clear xX1; replace X1 := X1.below B; replace X2 := X2.below B; replace XR := XR.below B; replace h := h.below B; replace k := k.below B; replace HB := Hqb HB B; clear B; have xX2 := X2.cell
 go_upto_region 2 with (fail)
 clear xX2; have lX5 := Nat.le_refl (World.heap w2).size; have nX5X2 := X2.lt; have nX5XR := XR.lt; generalize hWn : w2.alloc _ = w3 at *; obtain ⟨X5, BW⟩ := Bo.nw hWn; clear hWn; replace X2 := X2.below BW; replace XR := XR.below BW; replace k := k.below BW; replace p1 := p1.below BW; replace HB := Hqb HB BW; clear BW; have xX2 := X2.cell
 go_wp2_with fail
 refine (q3Make k (by omega) HN2.out HE2.out).mono ?_; rintro ee w4 ⟨s2, A2, n2, c2, rfl, p2, k2, B⟩; clear xX2; replace X2 := X2.below B; replace XR := XR.below B; replace X5 := X5.below B; replace k := k.below B; replace p1 := p1.below B; replace HB := Hqb HB B; clear B
 go_upto_region 3 with (fail)
 have lX6 := Nat.le_refl (World.heap w4).size; have nX6XR := XR.lt; have nX6X5 := X5.lt; generalize hWn : w4.alloc _ = w5 at *; obtain ⟨X6, BW⟩ := Bo.nw hWn; clear hWn; replace XR := XR.below BW; replace X5 := X5.below BW; replace p1 := p1.below BW; replace p2 := p2.below BW; replace HB := Hqb HB BW; clear BW; clear lX6
 have hpa : 0 < n1 := by have := p1.1.pos; omega
 have qa : ((n1 : Int) == 0) = false := by have : (n1 : Int) ≠ 0 := by omega
                                           simpa using this
 have la := p1.1.rd.big
 have hpb : 0 < n2 := by have := p2.1.pos; omega
 have qb : ((n2 : Int) == 0) = false := by have : (n2 : Int) ≠ 0 := by omega
                                           simpa using this
 have lb := p2.1.rd.big; clear h1 h2; have xX5 := X5.cell; have xX6 := X6.cell
 go_upto_region 11 with (fail)
 clear xX5 xX6; have HC := Lib.hid (sg_scale s2 N2 (2 ^ δ.toNat) p2.wr.eq); have lt5 := X5.lt; have lt6 := X6.lt; have ltR := XR.lt; refine Jo.rk [0, 1, 2, 3, 4, 5, 6, 7, 8, 9, 10, 11, 12, 13] [some 39, some 40, some 41, some 42, some 43, some 44, some 45, some 46, some 47, some 48, some 49, some 50, some 51, some 8, none] [[], [0], [1], [], [3], [4], [], [6], [], [8], [7, 9], [5, 10], [2, 11], [], []] 15 1 [Jo.qp w4.heap.size 0, Jo.qp w4.heap.size 0, Jo.qb s2, Jo.qp w4.heap.size 0, Jo.qp w4.heap.size 1, Jo.Fact.eq (.slice A2 n2 c2), Jo.qp w4.heap.size 2, Jo.qi E2, Jo.qp w2.heap.size 2, Jo.qi E1, Jo.qi δ, Jo.Fact.nm (N2.natAbs * 2 ^ δ.toNat) (n2 + δ.toNat / 32 + 1), Jo.Fact.wn (N2 * ((2 ^ δ.toNat : Nat) : Int)) (n2 + δ.toNat / 32 + 1), Jo.Fact.bo w5.heap.size #[.bool false, .slice none 0 0] 75, Jo.Fact.any] (by kernel_rfl) (by kernel_rfl) (by decide) rfl ?_ ?_
 · iterate 2 (refine Jo.jm rfl ?_ ?_; rotate_left)
   refine Jo.jm rfl ?_ ?_
   · rintro wj hJ _ rfl K hK; simp only [Jo.z] at hK ⊢; have xX60 := (X6.below hJ).a 0 (.bool s2) rfl; go_simp; exact hK.out _ _ rfl (br _ _)
   iterate 2 (refine Jo.jm rfl ?_ ?_; rotate_left)
   refine Jo.jm rfl ?_ ?_
   · rintro wj hJ _ rfl K hK; simp only [Jo.z] at hK ⊢; have xX61 := (X6.below hJ).a 1 (.slice A2 n2 c2) rfl; go_simp; exact hK.out _ _ rfl (br _ _)
   refine Jo.jm rfl ?_ ?_; rotate_left
   refine Jo.jm rfl ?_ ?_
   · rintro wj hJ _ rfl K hK; simp only [Jo.z] at hK ⊢; have xX62 := (X6.below hJ).a 2 (.int .i64 E2) rfl; go_simp; exact hK.out _ _ rfl (br _ _)
   refine Jo.jm rfl ?_ ?_; rotate_left
   refine Jo.jm rfl ?_ ?_
   · rintro wj hJ _ rfl K hK; simp only [Jo.z] at hK ⊢; have xX52 := (X5.below hJ).a 2 (.int .i64 E1) rfl; go_simp; exact hK.out _ _ rfl (br _ _)
   refine Jo.jm rfl ?_ ?_
   · rintro wj hJ _ rfl _ rfl K hK; simp only [Jo.z] at hK ⊢; have hw := HW.out; go_simp; exact hK.out _ _ rfl (br _ _)
   refine Jo.jm rfl ?_ ?_
   · rintro wj hJ _ rfl _ rfl K hK; simp only [Jo.z] at hK ⊢; go_simp; refine (rShlN (p2.below hJ).1.rd (by omega) hd0 (by omega) rfl).mono ?_; rintro ee wk ⟨A7, n7, c7, rfl, p7, k7, B⟩; exact hK.out _ _ ⟨A7, n7, c7, rfl, p7, k7⟩ B
   refine Jo.jm rfl ?_ ?_
   · rintro wj hJ _ rfl _ ⟨A7, n7, c7, rfl, p7, k7⟩ K hK; simp only [Jo.z] at hK ⊢; go_simp; refine (qMake s2 p7.rd).mono ?_; rintro ee wk ⟨s8, A8, n8, c8, rfl, p8, k8, B⟩; exact hK.out _ _ ⟨s8, A8, n8, c8, rfl, HC.out ▸ p8, Nat.le_trans k8 k7⟩ B
   refine Jo.jm rfl ?_ ?_
   · rintro wj hJ K hK; simp only [Jo.z] at hK ⊢; go_simp; exact hK.out _ _ ⟨_, rfl, hJ.size, Bo.new _ _ _⟩ (bel1 _ _)
   exact Jo.Steps.nil
   all_goals (rintro wj hJ; (repeat rintro _ rfl); intro K hK; simp only [Jo.z] at hK ⊢; go_simp; exact hK.out _ _ rfl (br _ _))
 rintro w9 hJ _ _ _ _ _ rfl _ _ _ _ _ rfl _ _ _ rfl _ _ _ rfl _ rfl _ ⟨A7, n7, c7, rfl, _, _⟩ _ ⟨s8, A8, n8, c8, rfl, p8, k8⟩ _ ⟨g8, rfl, hg8, X8⟩ -; simp only [Jo.z]; replace XR := XR.below hJ; replace X5 := X5.below hJ; replace X6 := X6.below hJ; replace p1 := p1.below hJ; replace p2 := p2.below hJ; replace HB := Hqb HB hJ; have xX8 := X8.cell; have zX80 := X8.frozen
 refine Jo.jnext (i := 14) (o := ⟨none, _, _, _, _, _⟩) (by kernel_rfl) rfl (fun K hK => ?_)
 go_simp; refine hK.out _ _ ?_; clear hK K xX8 zX80; generalize hS : (w9.setCell _ _).setCell _ _ = w10 at *; have SX := StN.of2 X8 hS; replace XR := XR.stn SX (by omega); replace X5 := X5.stn SX (by omega); replace X6 := X6.stn SX (by omega); replace p1 := p1.stn SX (by simp [no32]); replace p2 := p2.stn SX (by simp [no32]); replace p8 := p8.stn SX (by simp [no32]); replace HB := Hqs HB SX (by omega)
 replace X8 := SX.box; clear SX hS; refine Jo.jdone (by kernel_rfl) ?_
 go_upto_region 12 with (fail)
 refine Jo.rk [0, 1, 2, 3, 4, 5, 6] [some 52, some 53, some 54, some 55, some 56, some 57, some 58, none] [[], [0], [], [1, 2], [], [4], [3, 5], []] 8 1 [Jo.qp w2.heap.size 0, Jo.Fact.eq (.agg #[.bool s1, .slice A1 n1 c1]), Jo.Fact.eq (.agg #[.bool s8, .slice A8 n8 c8]), Jo.Fact.wn (N1 + N2 * ((2 ^ δ.toNat : Nat) : Int)) (n + m + 20010), Jo.qp w2.heap.size 2, Jo.qi E1, Jo.Fact.dy N E (n + m + 20010), Jo.Fact.any] (by kernel_rfl) (by kernel_rfl) (by decide) rfl ?_ ?_
 · iterate 3 (refine Jo.jm rfl ?_ ?_; rotate_left)
   refine Jo.jm rfl ?_ ?_
   · rintro wj hJ _ rfl _ rfl K hK; simp only [Jo.z] at hK ⊢; go_simp; refine (qAdd (p1.below hJ).wr (p8.below hJ).wr (by omega) (by omega) rfl).mono ?_; rintro ee wk ⟨s3, A3, n3, c3, rfl, p3, k3, B⟩; exact hK.out _ _ ⟨s3, A3, n3, c3, rfl, p3, by omega⟩ B
   refine Jo.jm rfl ?_ ?_; rotate_left
   refine Jo.jm rfl ?_ ?_
   · rintro wj hJ _ rfl K hK; simp only [Jo.z] at hK ⊢; have xX52 := (X5.below hJ).a 2 (.int .i64 E1) rfl; go_simp; exact hK.out _ _ rfl (br _ _)
   refine Jo.jm rfl ?_ ?_
   · rintro wj hJ _ ⟨s3, A3, n3, c3, rfl, p3, k3⟩ _ rfl K hK; simp only [Jo.z] at hK ⊢; go_simp; refine (q3Make p3.wr (by omega) HN.out HE.out).mono ?_; rintro ee wk ⟨s4, A4, n4, c4, rfl, p4, k4, B⟩; exact hK.out _ _ ⟨s4, A4, n4, c4, rfl, p4, Nat.le_trans k4 k3⟩ B
   exact Jo.Steps.nil
   all_goals (rintro wj hJ; (repeat rintro _ rfl); intro K hK; simp only [Jo.z] at hK ⊢; have xX5 := (X5.below hJ).cell; have xX8 := (X8.below hJ).cell; go_simp; exact hK.out _ _ rfl (br _ _))
 rintro w11 hJ _ _ _ rfl _ rfl _ ⟨s3, A3, n3, c3, rfl, _, _⟩ _ _ _ rfl _ ⟨s4, A4, n4, c4, rfl, p4, k4⟩ -; simp only [Jo.z]; replace XR := XR.below hJ; replace X5 := X5.below hJ; replace X6 := X6.below hJ; replace X8 := X8.below hJ; replace p1 := p1.below hJ; replace p2 := p2.below hJ; replace p8 := p8.below hJ; replace HB := Hqb HB hJ; have xXR := XR.cell; have zXR0 := XR.frozen
 refine Jo.jnext (i := 7) (o := ⟨none, _, _, _, _, _⟩) (by kernel_rfl) rfl (fun K hK => ?_)
 go_simp; refine hK.out _ _ ?_; clear hK K xXR zXR0; have SX := StN.mk3 XR (.bool s4) (.slice A4 n4 c4) (.int .i64 E); replace p4 := p4.stn SX (by simp [no32]); refine Jo.jdone (by kernel_rfl) ?_; go_wp2; exact bodyPost_ret (v := .agg #[.bool s4, .slice A4 n4 c4, .int .i64 E]) (by simp [results, Tryz.results100, go_sem, SX.box.cell]) rfl ⟨s4, _, _, _, rfl, p4, k4, (SX.below HB.out (by omega))⟩
theorem q3sum_dn {w : World} {A B : Option Addr} {n c m d : Nat} {s t : Bool} {z e y f N1 E1 N2 E2 N E : Int} (h : Wr w s A n c z) (k : Wr w t B m d y) (hn : n ≤ 20000) (hm : m ≤ 20000)
   (HN1 : Hid ((mk z e).1 = N1)) (HE1 : Hid ((mk z e).2 = E1)) (HN2 : Hid ((mk y f).1 = N2)) (HE2 : Hid ((mk y f).2 = E2)) (h1 : N1 ≠ 0) (h2 : N2 ≠ 0) (hle : E2 < E1) (hfar : E1 - E2 ≤ 640000) (b1 : -4194304 ≤ E2) (b2 : E1 ≤ 4194304)
   (HN : Hid ((mk (N2 + N1 * ((2 ^ (E1 - E2).toNat : Nat) : Int)) E2).1 = N)) (HE : Hid ((mk (N2 + N1 * ((2 ^ (E1 - E2).toNat : Nat) : Int)) E2).2 = E)) :
   Calls Tryz.prog 100 #[.agg #[.bool s, .slice A n c, .int .i64 e], .agg #[.bool t, .slice B m d, .int .i64 f]] w (D1 w (n + m + 20010) N E) := by
 obtain ⟨δ, hδ⟩ : ∃ x, E1 - E2 = x := ⟨_, rfl⟩
 have HW : Hid (IntKind.i64.wrap (E1 - E2) = δ) := Lib.hid (by rw [hδ]; exact IntWalk.i64_in _ (by omega))
 have hd0 : 0 ≤ δ := by omega
 rw [hδ] at hfar HN HE
 have tle : decide (E2 < E1) = true := by simp; omega
 clear hδ
 go_enter Tryz.func100, Tryz.ntmps100
 go_upto_region 1 with (fail)
 generalize hW1 : ((w.alloc _).alloc _).alloc _ = w1 at *; obtain ⟨X1, X2, XR, HB⟩ := Bo.en3 hW1; replace h := h.below HB.out; replace k := k.below HB.out; clear hW1; have xX1 := X1.cell
 go_wp2_with fail
 refine (q3Make h (by omega) HN1.out HE1.out).mono ?_; rintro ee w2 ⟨s1, A1, n1, c1, rfl, p1, k1, B⟩; clear xX1; replace X1 := X1.below B; replace X2 := X2.below B; replace XR := XR.below B; replace h := h.below B; replace k := k.below B; replace HB := Hqb HB B; clear B; have xX2 := X2.cell
 go_upto_region 2 with (fail)
 clear xX2; have lX5 := Nat.le_refl (World.heap w2).size; have nX5X2 := X2.lt; have nX5XR := XR.lt; generalize hWn : w2.alloc _ = w3 at *; obtain ⟨X5, BW⟩ := Bo.nw hWn; clear hWn; replace X2 := X2.below BW; replace XR := XR.below BW; replace k := k.below BW; replace p1 := p1.below BW; replace HB := Hqb HB BW; clear BW; have xX2 := X2.cell
 go_wp2_with fail
 refine (q3Make k (by omega) HN2.out HE2.out).mono ?_; rintro ee w4 ⟨s2, A2, n2, c2, rfl, p2, k2, B⟩; clear xX2; replace X2 := X2.below B; replace XR := XR.below B; replace X5 := X5.below B; replace k := k.below B; replace p1 := p1.below B; replace HB := Hqb HB B; clear B
 go_upto_region 3 with (fail)
 have lX6 := Nat.le_refl (World.heap w4).size; have nX6XR := XR.lt; have nX6X5 := X5.lt; generalize hWn : w4.alloc _ = w5 at *; obtain ⟨X6, BW⟩ := Bo.nw hWn; clear hWn; replace XR := XR.below BW; replace X5 := X5.below BW; replace p1 := p1.below BW; replace p2 := p2.below BW; replace HB := Hqb HB BW; clear BW; clear lX6
 have hpa : 0 < n1 := by have := p1.1.pos; omega
 have qa : ((n1 : Int) == 0) = false := by have : (n1 : Int) ≠ 0 := by omega
                                           simpa using this
 have la := p1.1.rd.big
 have hpb : 0 < n2 := by have := p2.1.pos; omega
 have qb : ((n2 : Int) == 0) = false := by have : (n2 : Int) ≠ 0 := by omega
                                           simpa using this
 have lb := p2.1.rd.big; clear h1 h2; have xX5 := X5.cell; have xX6 := X6.cell
 go_upto_region 9 with (fail)
 clear xX5 xX6; have lX7 := Nat.le_refl (World.heap w5).size; have nX7XR := XR.lt; have nX7X5 := X5.lt; have nX7X6 := X6.lt; generalize hWn : w5.alloc _ = w6 at *; obtain ⟨X7, BW⟩ := Bo.nw hWn; clear hWn; replace XR := XR.below BW; replace X5 := X5.below BW; replace X6 := X6.below BW; replace p1 := p1.below BW; replace p2 := p2.below BW; replace HB := Hqb HB BW; clear BW
 have xX6 := X6.cell; have xX5 := X5.cell; have zX50 := X5.frozen
 go_upto_region 10 with (fail)
 clear xX6 xX5 zX50; generalize hS : ((w6.setCell _ _).setCell _ _).setCell _ _ = w7 at *; have SX := StN.of3 X5 hS; replace XR := XR.stn SX (by omega); replace X6 := X6.stn SX (by omega); replace X7 := X7.stn SX (by omega); replace p1 := p1.stn SX (by simp [no32]); replace p2 := p2.stn SX (by simp [no32]); replace HB := Hqs HB SX (by omega); replace X5 := SX.box
 clear SX hS; have xX7 := X7.cell; have xX6 := X6.cell; have zX60 := X6.frozen
 go_upto_region 11 with (fail)
 clear xX7 xX6 zX60; generalize hS : ((w7.setCell _ _).setCell _ _).setCell _ _ = w8 at *; have SX := StN.of3 X6 hS; replace XR := XR.stn SX (by omega); replace X5 := X5.stn SX (by omega); replace X7 := X7.stn SX (by omega); replace p1 := p1.stn SX (by simp [no32]); replace p2 := p2.stn SX (by simp [no32]); replace HB := Hqs HB SX (by omega); replace X6 := SX.box
 clear SX hS; have HC := Lib.hid (sg_scale s1 N1 (2 ^ δ.toNat) p1.wr.eq); have lt5 := X5.lt; have lt6 := X6.lt; have ltR := XR.lt; refine Jo.rk [0, 1, 2, 3, 4, 5, 6, 7, 8, 9, 10, 11, 12, 13] [some 39, some 40, some 41, some 42, some 43, some 44, some 45, some 46, some 47, some 48, some 49, some 50, some 51, some 8, none] [[], [0], [1], [], [3], [4], [], [6], [], [8], [7, 9], [5, 10], [2, 11], [], []] 15 1 [Jo.qp w4.heap.size 0, Jo.qp w4.heap.size 0, Jo.qb s1, Jo.qp w4.heap.size 0, Jo.qp w4.heap.size 1, Jo.Fact.eq (.slice A1 n1 c1), Jo.qp w4.heap.size 2, Jo.qi E1, Jo.qp w2.heap.size 2, Jo.qi E2, Jo.qi δ, Jo.Fact.nm (N1.natAbs * 2 ^ δ.toNat) (n1 + δ.toNat / 32 + 1), Jo.Fact.wn (N1 * ((2 ^ δ.toNat : Nat) : Int)) (n1 + δ.toNat / 32 + 1), Jo.Fact.bo w8.heap.size #[.bool false, .slice none 0 0] 75, Jo.Fact.any] (by kernel_rfl) (by kernel_rfl) (by decide) rfl ?_ ?_
 · iterate 2 (refine Jo.jm rfl ?_ ?_; rotate_left)
   refine Jo.jm rfl ?_ ?_
   · rintro wj hJ _ rfl K hK; simp only [Jo.z] at hK ⊢; have xX60 := (X6.below hJ).a 0 (.bool s1) rfl; go_simp; exact hK.out _ _ rfl (br _ _)
   iterate 2 (refine Jo.jm rfl ?_ ?_; rotate_left)
   refine Jo.jm rfl ?_ ?_
   · rintro wj hJ _ rfl K hK; simp only [Jo.z] at hK ⊢; have xX61 := (X6.below hJ).a 1 (.slice A1 n1 c1) rfl; go_simp; exact hK.out _ _ rfl (br _ _)
   refine Jo.jm rfl ?_ ?_; rotate_left
   refine Jo.jm rfl ?_ ?_
   · rintro wj hJ _ rfl K hK; simp only [Jo.z] at hK ⊢; have xX62 := (X6.below hJ).a 2 (.int .i64 E1) rfl; go_simp; exact hK.out _ _ rfl (br _ _)
   refine Jo.jm rfl ?_ ?_; rotate_left
   refine Jo.jm rfl ?_ ?_
   · rintro wj hJ _ rfl K hK; simp only [Jo.z] at hK ⊢; have xX52 := (X5.below hJ).a 2 (.int .i64 E2) rfl; go_simp; exact hK.out _ _ rfl (br _ _)
   refine Jo.jm rfl ?_ ?_
   · rintro wj hJ _ rfl _ rfl K hK; simp only [Jo.z] at hK ⊢; have hw := HW.out; go_simp; exact hK.out _ _ rfl (br _ _)
   refine Jo.jm rfl ?_ ?_
   · rintro wj hJ _ rfl _ rfl K hK; simp only [Jo.z] at hK ⊢; go_simp; refine (rShlN (p1.below hJ).1.rd (by omega) hd0 (by omega) rfl).mono ?_; rintro ee wk ⟨A7, n7, c7, rfl, p7, k7, B⟩; exact hK.out _ _ ⟨A7, n7, c7, rfl, p7, k7⟩ B
   refine Jo.jm rfl ?_ ?_
   · rintro wj hJ _ rfl _ ⟨A7, n7, c7, rfl, p7, k7⟩ K hK; simp only [Jo.z] at hK ⊢; go_simp; refine (qMake s1 p7.rd).mono ?_; rintro ee wk ⟨s8, A8, n8, c8, rfl, p8, k8, B⟩; exact hK.out _ _ ⟨s8, A8, n8, c8, rfl, HC.out ▸ p8, Nat.le_trans k8 k7⟩ B
   refine Jo.jm rfl ?_ ?_
   · rintro wj hJ K hK; simp only [Jo.z] at hK ⊢; go_simp; exact hK.out _ _ ⟨_, rfl, hJ.size, Bo.new _ _ _⟩ (bel1 _ _)
   exact Jo.Steps.nil
   all_goals (rintro wj hJ; (repeat rintro _ rfl); intro K hK; simp only [Jo.z] at hK ⊢; go_simp; exact hK.out _ _ rfl (br _ _))
 rintro w9 hJ _ _ _ _ _ rfl _ _ _ _ _ rfl _ _ _ rfl _ _ _ rfl _ rfl _ ⟨A7, n7, c7, rfl, _, _⟩ _ ⟨s8, A8, n8, c8, rfl, p8, k8⟩ _ ⟨g8, rfl, hg8, X8⟩ -; simp only [Jo.z]; replace XR := XR.below hJ; replace X5 := X5.below hJ; replace X6 := X6.below hJ; replace p1 := p1.below hJ; replace p2 := p2.below hJ; replace HB := Hqb HB hJ; have xX8 := X8.cell; have zX80 := X8.frozen
 refine Jo.jnext (i := 14) (o := ⟨none, _, _, _, _, _⟩) (by kernel_rfl) rfl (fun K hK => ?_)
 go_simp; refine hK.out _ _ ?_; clear hK K xX8 zX80; generalize hS : (w9.setCell _ _).setCell _ _ = w10 at *; have SX := StN.of2 X8 hS; replace XR := XR.stn SX (by omega); replace X5 := X5.stn SX (by omega); replace X6 := X6.stn SX (by omega); replace p1 := p1.stn SX (by simp [no32]); replace p2 := p2.stn SX (by simp [no32]); replace p8 := p8.stn SX (by simp [no32]); replace HB := Hqs HB SX (by omega)
 replace X8 := SX.box; clear SX hS; refine Jo.jdone (by kernel_rfl) ?_
 go_upto_region 12 with (fail)
 refine Jo.rk [0, 1, 2, 3, 4, 5, 6] [some 52, some 53, some 54, some 55, some 56, some 57, some 58, none] [[], [0], [], [1, 2], [], [4], [3, 5], []] 8 1 [Jo.qp w2.heap.size 0, Jo.Fact.eq (.agg #[.bool s2, .slice A2 n2 c2]), Jo.Fact.eq (.agg #[.bool s8, .slice A8 n8 c8]), Jo.Fact.wn (N2 + N1 * ((2 ^ δ.toNat : Nat) : Int)) (n + m + 20010), Jo.qp w2.heap.size 2, Jo.qi E2, Jo.Fact.dy N E (n + m + 20010), Jo.Fact.any] (by kernel_rfl) (by kernel_rfl) (by decide) rfl ?_ ?_
 · iterate 3 (refine Jo.jm rfl ?_ ?_; rotate_left)
   refine Jo.jm rfl ?_ ?_
   · rintro wj hJ _ rfl _ rfl K hK; simp only [Jo.z] at hK ⊢; go_simp; refine (qAdd (p2.below hJ).wr (p8.below hJ).wr (by omega) (by omega) rfl).mono ?_; rintro ee wk ⟨s3, A3, n3, c3, rfl, p3, k3, B⟩; exact hK.out _ _ ⟨s3, A3, n3, c3, rfl, p3, by omega⟩ B
   refine Jo.jm rfl ?_ ?_; rotate_left
   refine Jo.jm rfl ?_ ?_
   · rintro wj hJ _ rfl K hK; simp only [Jo.z] at hK ⊢; have xX52 := (X5.below hJ).a 2 (.int .i64 E2) rfl; go_simp; exact hK.out _ _ rfl (br _ _)
   refine Jo.jm rfl ?_ ?_
   · rintro wj hJ _ ⟨s3, A3, n3, c3, rfl, p3, k3⟩ _ rfl K hK; simp only [Jo.z] at hK ⊢; go_simp; refine (q3Make p3.wr (by omega) HN.out HE.out).mono ?_; rintro ee wk ⟨s4, A4, n4, c4, rfl, p4, k4, B⟩; exact hK.out _ _ ⟨s4, A4, n4, c4, rfl, p4, Nat.le_trans k4 k3⟩ B
   exact Jo.Steps.nil
   all_goals (rintro wj hJ; (repeat rintro _ rfl); intro K hK; simp only [Jo.z] at hK ⊢; have xX5 := (X5.below hJ).cell; have xX8 := (X8.below hJ).cell; go_simp; exact hK.out _ _ rfl (br _ _))
 rintro w11 hJ _ _ _ rfl _ rfl _ ⟨s3, A3, n3, c3, rfl, _, _⟩ _ _ _ rfl _ ⟨s4, A4, n4, c4, rfl, p4, k4⟩ -; simp only [Jo.z]; replace XR := XR.below hJ; replace X5 := X5.below hJ; replace X6 := X6.below hJ; replace X8 := X8.below hJ; replace p1 := p1.below hJ; replace p2 := p2.below hJ; replace p8 := p8.below hJ; replace HB := Hqb HB hJ; have xXR := XR.cell; have zXR0 := XR.frozen
 refine Jo.jnext (i := 7) (o := ⟨none, _, _, _, _, _⟩) (by kernel_rfl) rfl (fun K hK => ?_)
 go_simp; refine hK.out _ _ ?_; clear hK K xXR zXR0; have SX := StN.mk3 XR (.bool s4) (.slice A4 n4 c4) (.int .i64 E); replace p4 := p4.stn SX (by simp [no32]); refine Jo.jdone (by kernel_rfl) ?_; go_wp2; exact bodyPost_ret (v := .agg #[.bool s4, .slice A4 n4 c4, .int .i64 E]) (by simp [results, Tryz.results100, go_sem, SX.box.cell]) rfl ⟨s4, _, _, _, rfl, p4, k4, (SX.below HB.out (by omega))⟩
theorem q3Two {w : World} {A B : Option Addr} {n c m d : Nat} {s t : Bool} {z e y f N E : Int} (h : Wr w s A n c z) (k : Wr w t B m d y) (hn : n ≤ 20000) (hm : m ≤ 20000) (hf : Near (mk z e) (mk y f))
   (hN : (pl (mk z e) (mk y f)).1 = N) (hE : (pl (mk z e) (mk y f)).2 = E) :
   Calls Tryz.prog 100 #[.agg #[.bool s, .slice A n c, .int .i64 e], .agg #[.bool t, .slice B m d, .int .i64 f]] w (D1 w (n + m + 20010) N E) := by
 have mono : ∀ K, K ≤ n + m + 20010 → ∀ N E e w', D1 w K N E e w' → D1 w (n + m + 20010) N E e w' := fun K hK N E e w' ⟨s, A, n, c, e1, p, q, b⟩ => ⟨s, A, n, c, e1, p, Nat.le_trans q hK, b⟩
 obtain ⟨b1, b2⟩ := mk_bd z e; obtain ⟨b3, b4⟩ := mk_bd y f
 unfold pl at hN hE
 by_cases h1 : (mk z e).1 = 0
 · rw [if_pos h1] at hN hE; subst hN; subst hE; exact (q3two_l h k hn hm (Lib.hid rfl) (Lib.hid rfl) (Lib.hid rfl) (Lib.hid rfl) h1).mono (mono _ (by omega) _ _)
 · rw [if_neg h1] at hN hE
   by_cases h2 : (mk y f).1 = 0
   · rw [if_pos h2] at hN hE; subst hN; subst hE; exact (q3two_r h k hn hm (Lib.hid rfl) (Lib.hid rfl) (Lib.hid rfl) (Lib.hid rfl) h1 h2).mono (mono _ (by omega) _ _)
   · rw [if_neg h2] at hN hE; obtain ⟨g1, g2⟩ := hf h1 h2
     by_cases hle : (mk z e).2 ≤ (mk y f).2
     · rw [Int.min_eq_left hle] at hN hE; exact q3sum_up h k hn hm (Lib.hid rfl) (Lib.hid rfl) (Lib.hid rfl) (Lib.hid rfl) h1 h2 hle g2 b1 b4 (Lib.hid (by simpa using hN)) (Lib.hid (by simpa using hE))
     · rw [Int.min_eq_right (by omega), Int.add_comm] at hN hE; exact q3sum_dn h k hn hm (Lib.hid rfl) (Lib.hid rfl) (Lib.hid rfl) (Lib.hid rfl) h1 h2 (by omega) g1 b3 b2 (Lib.hid (by simpa using hN)) (Lib.hid (by simpa using hE))
theorem sgi_mul (s : Bool) (x y : Int) : sgi s x * y = sgi s (x * y) := by
 cases s
 · rfl
 · exact Int.neg_mul _ _
theorem vp_vr {x : Int} (s : Bool) (h : 0 < x) : vr (sgi s x) = sgi s (vp x) := by
 rw [vr_sgi]
 congr 1
 unfold vr
 rw [if_neg (by omega)]
theorem exq_vl {D : Int} {s : Bool} {M E r : Int} (q : Fq D s M E r) (h1 : -19342822337206103650074625 < r) (h2 : r < 19342822337206103650074625) : exb D s M E = true ∧ vl (exq D s M E) = vr r := by
 have hb : exb D s M E = true := by
   unfold exb
   rw [decide_eq_true q.1, Bool.true_and]
   rcases q.cases with ⟨rfl, rfl, rfl, rfl, h0⟩ | ⟨rfl, _⟩ | ⟨rfl, rfl, rfl, ⟨rfl, h5⟩ | ⟨rfl, h5⟩⟩
   · rfl
   · rfl
   · omega
   · omega
 refine ⟨hb, ?_⟩
 unfold exq
 rw [if_pos hb]; have hr := q.2.2
 rcases q.1 with ⟨rfl, rfl, rfl, rfl⟩ | ⟨rfl, g1, g2, g3⟩ | ⟨rfl, rfl, rfl⟩
 · obtain rfl : 0 = r := hr
   have e0 : sgi false 0 = 0 := if_neg (by decide)
   rw [e0, mk_zero, vl_zero]
   rfl
 · have hM := q.2.1
   have hpl : plc 1 M E = M - 9223372036854775808 + 1 + (E + 1048576) * 9223372036854775808 := rfl
   rw [hpl] at hr
   have ha : (sgi s M).natAbs = M.toNat := by
     cases s
     · show M.natAbs = M.toNat; omega
     · show (-M).natAbs = M.toNat; omega
   obtain ⟨η, hη⟩ : ∃ η : Nat, 4194304 = η := ⟨_, rfl⟩
   have hf := mk_fit (z := sgi s M) (e := E) (h := η) (by omega) (by omega) (by
     rw [ha]
     have : M.toNat < 2 ^ 64 := by omega
     have := Nat.mul_lt_mul_of_pos_right this (Nat.pow_pos (n := (E + (η : Int)).toNat) (show 0 < 2 by decide))
     rw [← Nat.pow_add] at this; exact Nat.lt_of_lt_of_le this (Nat.pow_le_pow_right (by decide) (by omega)))
   rw [hf.2, ← hr, vp_vr s (by omega), vp_fin g1 hM (by omega), sgi_mul]
 · exfalso
   have : r = sgi s TP := hr.symm
   have := TP_eq
   cases s
   · have e : sgi false TP = TP := if_neg (by decide)
     omega
   · have e : sgi true TP = -TP := if_pos rfl
     omega
theorem lo_full {m : Nat} {E : Int} (h1 : 9223372036854775808 ≤ m) (h2 : m < 18446744073709551616) (h3 : -1048576 ≤ E) (h4 : E ≤ 1048576) : lo m E = (m : Int) - 9223372036854775808 + 1 + (E + 1048576) * 9223372036854775808 := by
 have hb : blen m = 64 := blen_uniq (k := 63) (by omega) (by omega) (by omega)
 have hx : xp m E = E := by unfold xp; rw [hb]; omega
 have ht : tp m = m := by
   rw [tp_small (by omega), hb, Nat.sub_self, Nat.pow_zero, Nat.mul_one]
 unfold lo
 rw [if_neg (by omega), hx, if_neg (by omega), if_neg (by omega), ht]
theorem back_odd {m k t : Nat} {E F : Int} (hm : m = k * 2 ^ t) (h1 : 9223372036854775808 ≤ m) (h2 : m < 18446744073709551616) (h3 : -1048576 ≤ E) (h4 : E ≤ 1048576) (hF : F = E + (t : Nat)) : ext k F = true ∧ lo k F = lo m E := by
 have hb : blen m = 64 := blen_uniq (k := 63) (by omega) (by omega) (by omega)
 have hk : k ≠ 0 := fun e => by rw [e, Nat.zero_mul] at hm; omega
 have b1 := blen_mul hk t; rw [← hm, hb] at b1; refine ⟨?_, ?_⟩
 · have e0 : (k == 0) = false := by simpa using hk
   unfold ext xp
   rw [e0, Bool.false_or, decide_eq_true (by omega), decide_eq_true (by omega), decide_eq_true (by omega)]
   rfl
 · rw [hm, lo_mul hk, hF]
theorem back_fin {s : Bool} {M E : Int} (up : Bool) (g1 : 9223372036854775808 ≤ M) (hM : LQ M) (g2 : -1048576 ≤ E) (g3 : E ≤ 1048576) {z : Int} (hz : z.natAbs = M.toNat) (hs : decide (z < 0) = s) : rnd up (mk z E).1 (mk z E).2 = sgi s (M - 9223372036854775808 + 1 + (E + 1048576) * 9223372036854775808) := by
 have h0 : z ≠ 0 := by omega
 have hv := v2_pow_le (n := z.natAbs) (by omega)
 have hv2 : v2 z.natAbs < 64 := (Nat.pow_lt_pow_iff_right (a := 2) (by decide)).1 (show 2 ^ v2 z.natAbs < 2 ^ 64 by omega)
 obtain ⟨e1, e2, e3, e4, e5⟩ := mk_in (z := z) (e := E) h0 (by omega) (by omega)
 revert e1 e3 e4 e5
 generalize mk z E = p; obtain ⟨N, F⟩ := p
 intro e1 e3 e4 e5
 simp only at e1 e3 e4 e5 ⊢
 have ea : z.natAbs = N.natAbs * 2 ^ v2 z.natAbs := by
   have := congrArg Int.natAbs e5
   rwa [natAbs_mul_pow] at this
 obtain ⟨x1, x2⟩ := back_odd ea (by omega) (by omega) g2 g3 e1
 rw [rnd_ext x1, x2, lo_full (by omega) (by omega) g2 g3, show decide (N < 0) = s by rw [← hs]; simp only [e3], show ((z.natAbs : Nat) : Int) = M by omega]
theorem rnd_nought (up : Bool) : rnd up 0 0 = 0 := by
 rw [rnd_ext rfl]
 rfl
theorem rnd_back {D : Int} {s : Bool} {M E r : Int} (up : Bool) (q : Fq D s M E r) (hx : exb D s M E = true) : rnd up (exq D s M E).1 (exq D s M E).2 = r := by
 unfold exq
 rw [if_pos hx]; have hr := q.2.2
 rcases q.1 with ⟨rfl, rfl, rfl, rfl⟩ | ⟨rfl, g1, g2, g3⟩ | ⟨rfl, rfl, rfl⟩
 · obtain rfl : 0 = r := hr
   have e0 : sgi false 0 = 0 := if_neg (by decide)
   rw [e0, mk_zero]; exact rnd_nought up
 · have hM := q.2.1
   have hpl : plc 1 M E = M - 9223372036854775808 + 1 + (E + 1048576) * 9223372036854775808 := rfl
   rw [hpl] at hr; rw [← hr]; refine back_fin up g1 hM g2 g3 ?_ ?_
   · cases s
     · rw [show sgi false M = M from if_neg (by decide)]; omega
     · rw [show sgi true M = -M from if_pos rfl]; omega
   · cases s
     · rw [show sgi false M = M from if_neg (by decide)]; exact decide_eq_false (by omega)
     · rw [show sgi true M = -M from if_pos rfl]; exact decide_eq_true (by omega)
 · exact absurd hx (by unfold exb; simp)
def opl (n : Int) : Int := sgi (decide (n < 0)) (lo n.natAbs 0)
theorem opl_zero : opl 0 = 0 := rfl
theorem opl_vr {n : Int} (h1 : -9223372036854775808 ≤ n) (h2 : n ≤ 9223372036854775807) : vr (opl n) = n * 2 ^ KK := by
 by_cases h0 : n = 0
 · subst h0; rw [opl_zero, Int.zero_mul]
   rfl
 · have q := of_fq h0 h1 h2; have hs := of_shl h0 h1 h2; have a3 := blen_mono_le (n := n.natAbs) (k := 64) (by omega)
   have hr : _ = opl n := q.2.2
   have g := q.plc (by decide)
   rcases g with ⟨_, g1, g2, g3, g4, g5⟩ | ⟨g, _⟩
   · rw [← hr, vp_vr _ (by rw [g5]; omega), g5, vp_fin g1 g2 (by omega), ← hs, Int.mul_assoc, ← Int.pow_add, show (64 - (blen n.natAbs : Int)).toNat + (-(64 - (blen n.natAbs : Int)) + (KK : Int)).toNat = KK by rw [KK_eq]; omega, ← sgi_mul]
     congr 1
     by_cases hn : n < 0
     · rw [decide_eq_true hn]; show -(n.natAbs : Int) = n; omega
     · rw [decide_eq_false hn]; show (n.natAbs : Int) = n; omega
   · exact absurd g (by decide)
theorem opl_cmp {a b : Int} (h1 : -9223372036854775808 ≤ a) (h2 : a ≤ 9223372036854775807) (k1 : -9223372036854775808 ≤ b) (k2 : b ≤ 9223372036854775807) : cmpI (opl a) (opl b) = cmpI a b := by
 rw [← vr_cmp, opl_vr h1 h2, opl_vr k1 k2, cmpI_scale (p2pos KK)]
theorem sgi_not {n : Int} (h0 : n ≠ 0) (l : Int) : sgi (decide (-n < 0)) l = -sgi (decide (n < 0)) l := by
 by_cases hn : n < 0
 · rw [decide_eq_true hn, decide_eq_false (show ¬ -n < 0 by omega), show sgi false l = l from if_neg (by decide), show sgi true l = -l from if_pos rfl, Int.neg_neg]
 · rw [decide_eq_false hn, decide_eq_true (show -n < 0 by omega), show sgi false l = l from if_neg (by decide), show sgi true l = -l from if_pos rfl]
theorem opl_neg (n : Int) : opl (-n) = -opl n := by
 by_cases h0 : n = 0
 · rw [h0, Int.neg_zero, opl_zero, Int.neg_zero]
 · unfold opl
   rw [Int.natAbs_neg]; exact sgi_not h0 _
def Dn (X r : Int) : Prop := -19342822337206103650074625 ≤ r ∧ r ≤ 19342822337206103650074624 ∧ (-19342822337206103650074625 < r → vr r ≤ X) ∧ (r < 19342822337206103650074624 → X < vr (r + 1))
def Up (X r : Int) : Prop := Dn (-X) (-r)
theorem Dn.mono {X Y r t : Int} (h : Dn X r) (k : Dn Y t) (hXY : X ≤ Y) : r ≤ t := by
 obtain ⟨h1, h2, h3, h4⟩ := h; obtain ⟨k1, k2, k3, k4⟩ := k
 rcases Int.lt_or_le t r with q | q
 · exfalso
   have a := h3 (by omega); have b := k4 (by omega)
   rcases Int.lt_or_eq_of_le (show t + 1 ≤ r by omega) with q | q
   · have := vr_lt q
     omega
   · rw [q] at b
     omega
 · exact q
theorem Dn.uniq {X r t : Int} (h : Dn X r) (k : Dn X t) : r = t := by
 have a := h.mono k (Int.le_refl _); have b := k.mono h (Int.le_refl _)
 omega
theorem Up.mono {X Y r t : Int} (h : Up X r) (k : Up Y t) (hXY : X ≤ Y) : r ≤ t := by
 have := Dn.mono k h (by omega)
 omega
theorem Up.uniq {X r t : Int} (h : Up X r) (k : Up X t) : r = t := by
 have := Dn.uniq h k
 omega
theorem dn_self {r : Int} (h1 : -19342822337206103650074625 < r) (h2 : r < 19342822337206103650074625) : Dn (vr r) r := ⟨by omega, by omega, fun _ => Int.le_refl _, fun _ => vr_succ r⟩
theorem up_self {r : Int} (h1 : -19342822337206103650074625 < r) (h2 : r < 19342822337206103650074625) : Up (vr r) r := by
 unfold Up
 rw [← vr_neg]; exact dn_self (by omega) (by omega)
theorem m_lt (m : Nat) {a b : Int} (ha : 0 ≤ a) (hb : 0 ≤ b) (h : (blen m : Int) + a ≤ b) : (m : Int) * 2 ^ a.toNat < 2 ^ b.toNat := by
 have h1 := Nat.mul_lt_mul_of_pos_right (blen_lt m) (Nat.pow_pos (n := a.toNat) (show 0 < 2 by decide))
 rw [← Nat.pow_add] at h1
 have h2 := Nat.lt_of_lt_of_le h1 (Nat.pow_le_pow_right (show 0 < 2 by decide) (show blen m + a.toNat ≤ b.toNat by omega))
 exact_mod_cast h2
theorem m_ge {m : Nat} (h0 : m ≠ 0) {a b : Int} (ha : 0 ≤ a) (hb : 0 ≤ b) (h : b ≤ (blen m : Int) - 1 + a) : (2 : Int) ^ b.toNat ≤ (m : Int) * 2 ^ a.toNat := by
 have hl : blen m ≠ 0 := fun e => h0 (blen_eq_zero.1 e)
 have h1 := Nat.mul_le_mul_right (2 ^ a.toNat) (blen_le h0); rw [← Nat.pow_add] at h1
 have h2 := Nat.le_trans (Nat.pow_le_pow_right (show 0 < 2 by decide) (show b.toNat ≤ blen m - 1 + a.toNat by omega)) h1
 exact_mod_cast h2
theorem vp_one : vp 1 = 2 ^ (63 - 1048576 + (KK : Int)).toNat := by
 have := vp_fin (M := 9223372036854775808) (E := -1048576) (by decide) (by decide) (by decide)
 rw [show (9223372036854775808 : Int) - 9223372036854775808 + 1 + (-1048576 + 1048576) * 9223372036854775808 = 1 by decide] at this
 rw [this, show (63 - 1048576 + (KK : Int)).toNat = 63 + (-1048576 + (KK : Int)).toNat by rw [KK_eq]; omega, Int.pow_add]
 rfl
theorem vp_top : vp 19342822337206103650074624 < 2 ^ (64 + 1048576 + (KK : Int)).toNat := by
 have := vp_fin (M := 18446744073709551615) (E := 1048576) (by decide) (by decide) (by decide)
 rw [show (18446744073709551615 : Int) - 9223372036854775808 + 1 + (1048576 + 1048576) * 9223372036854775808 = 19342822337206103650074624 by decide] at this
 rw [this, show (64 + 1048576 + (KK : Int)).toNat = 64 + (1048576 + (KK : Int)).toNat by rw [KK_eq]; omega, Int.pow_add]
 exact Int.mul_lt_mul_of_pos_right (by decide) (p2pos _)
theorem lo_dn {m : Nat} {E : Int} (h0 : m ≠ 0) (hE1 : -4194304 ≤ E) (hE2 : E ≤ 4194304) (ho : m % 2 = 1) : Dn ((m : Int) * 2 ^ (E + KK).toNat) (lo m E) ∧ Up ((m : Int) * 2 ^ (E + KK).toNat) (hi m E) ∧ 0 ≤ lo m E ∧ 0 ≤ hi m E := by
 have hk := KK_eq; obtain ⟨b1, b2⟩ := lo_bd m E
 have hl : blen m ≠ 0 := fun e => h0 (blen_eq_zero.1 e)
 have hx : xp m E = E + (blen m : Nat) - 64 := rfl
 have e0 : (m == 0) = false := by simpa using h0
 have hpos : 0 < (m : Int) * 2 ^ (E + KK).toNat := Int.mul_pos (by omega) (p2pos _)
 by_cases c1 : 1048576 < xp m E
 · have el : lo m E = 19342822337206103650074624 := by
     unfold lo
     rw [if_neg h0, if_pos c1]
   have ex : ext m E = false := by
     unfold ext
     rw [e0, decide_eq_false (show ¬ xp m E ≤ 1048576 by omega)]
     rfl
   have eh : hi m E = lo m E + 1 := by
     unfold hi
     rw [ex, if_neg (by decide)]
   have g := m_ge h0 (a := E + KK) (b := 64 + 1048576 + KK) (by omega) (by omega) (by omega); have ht := vp_top
   have ev : vr 19342822337206103650074624 = vp 19342822337206103650074624 := by
     unfold vr
     rw [if_neg (by decide)]
   rw [eh, el]
   refine ⟨⟨by decide, by decide, fun _ => by omega, fun h => absurd h (by decide)⟩, ⟨by decide, by decide, fun h => absurd h (by decide), fun _ => ?_⟩, by decide, by decide⟩
   have en : vr (-(19342822337206103650074624 + 1) + 1) = -vr 19342822337206103650074624 := vr_neg 19342822337206103650074624
   omega
 · by_cases c2 : xp m E < -1048576
   · have el : lo m E = 0 := by
       unfold lo
       rw [if_neg h0, if_neg c1, if_pos c2]
     have ex : ext m E = false := by
       unfold ext
       rw [e0, decide_eq_false (show ¬ -1048576 ≤ xp m E by omega)]
       simp
     have eh : hi m E = lo m E + 1 := by
       unfold hi
       rw [ex, if_neg (by decide)]
     have g := m_lt m (a := E + KK) (b := 63 - 1048576 + KK) (by omega) (by omega) (by omega); have h1 := vp_one
     have ev : vr 1 = vp 1 := by
       unfold vr
       rw [if_neg (by decide)]
     have ez : vr 0 = 0 := rfl
     rw [eh, el]
     have en : vr (-(0 + 1)) = -vr 1 := vr_neg 1
     refine ⟨⟨by decide, by decide, fun _ => by omega, fun _ => ?_⟩, ⟨by decide, by decide, fun _ => by omega, fun _ => ?_⟩, by decide, by decide⟩
     · rw [show (0 : Int) + 1 = 1 from rfl]
       omega
     · rw [show (-(0 + 1) + 1 : Int) = 0 from rfl]
       omega
   · obtain ⟨v1, v2, v3, v4⟩ := lo_vr (m := m) (E := E) h0 (by omega) (by omega) (by omega) ho
     revert v1 v2 v3 v4
     have hh : hi m E = if ext m E = true then lo m E else lo m E + 1 := rfl
     cases hx : ext m E
     · rw [hx, if_neg (by decide)] at hh; rw [hh]
       revert b1 b2
       generalize lo m E = l
       intro b1 b2 v1 v2 v3 v4
       have v5 := v4 rfl; have n1 := vr_neg (l + 1); have n2 := vr_neg l
       refine ⟨⟨by omega, by omega, fun _ => v1, fun _ => v2⟩, ⟨by omega, by omega, fun _ => by omega, fun _ => ?_⟩, b1, by omega⟩
       rw [show -(l + 1) + 1 = -l by omega]
       omega
     · rw [hx, if_pos rfl] at hh; rw [hh]
       revert b1 b2
       generalize lo m E = l
       intro b1 b2 v1 v2 v3 v4
       have v5 := v3 rfl; have n1 := vr_neg l; have n2 := vr_succ (-l)
       refine ⟨⟨by omega, by omega, fun _ => v1, fun _ => v2⟩, ⟨by omega, by omega, fun _ => by omega, fun _ => by omega⟩, b1, b1⟩
theorem up_of_dn {X r : Int} (h : Dn X r) : Up (-X) (-r) := by
 unfold Up
 rw [Int.neg_neg, Int.neg_neg]; exact h
theorem dn_of_up {X r : Int} (h : Up X r) : Dn (-X) (-r) := h
theorem rnd_spec {P : Int × Int} (hP : Nf P) : Dn (vl P) (rnd false P.1 P.2) ∧ Up (vl P) (rnd true P.1 P.2) := by
 rcases hP.cases with e | ⟨h0, ho, e1, e2⟩
 · subst e; rw [rnd_nought, rnd_nought, vl_zero]; have h := dn_self (r := 0) (by decide) (by decide); have k := up_self (r := 0) (by decide) (by decide)
   rw [show vr 0 = 0 from rfl] at h k
   exact ⟨h, k⟩
 · obtain ⟨d, u, _, _⟩ := lo_dn (m := P.1.natAbs) (E := P.2) (by omega) e1 e2 ho
   have hvl : vl P = P.1 * 2 ^ (P.2 + KK).toNat := rfl
   rcases Int.lt_or_lt_of_ne h0 with hn | hp
   · have hs : true = decide (P.1 < 0) := (decide_eq_true hn).symm
     have r1 := rnd_diff (E := P.2) hs; have r2 := rnd_same (up := true) (E := P.2) hs rfl
     rw [show (!true) = false from rfl] at r1
     have ev : vl P = -((P.1.natAbs : Int) * 2 ^ (P.2 + KK).toNat) := by
       rw [hvl, ← Int.neg_mul]
       congr 1
       omega
     have s1 : ∀ x, sgi true x = -x := fun x => if_pos rfl
     rw [r1, r2, ev, s1, s1]; exact ⟨dn_of_up u, up_of_dn d⟩
   · have hs : false = decide (P.1 < 0) := (decide_eq_false (by omega)).symm
     have r1 := rnd_same (up := false) (E := P.2) hs rfl; have r2 := rnd_diff (E := P.2) hs
     rw [show (!false) = true from rfl] at r2
     have ev : vl P = (P.1.natAbs : Int) * 2 ^ (P.2 + KK).toNat := by
       rw [hvl]
       congr 1
       omega
     have s1 : ∀ x, sgi false x = x := fun x => if_neg (by decide)
     rw [r1, r2, ev, s1, s1]; exact ⟨d, u⟩
theorem rnd_monoA {P Q : Int × Int} (hP : Nf P) (hQ : Nf Q) (h : vl P ≤ vl Q) (up : Bool) : rnd up P.1 P.2 ≤ rnd up Q.1 Q.2 := by
 cases up
 · exact (rnd_spec hP).1.mono (rnd_spec hQ).1 h
 · exact (rnd_spec hP).2.mono (rnd_spec hQ).2 h
theorem rnd_turn {P : Int × Int} (hP : Nf P) (up : Bool) : rnd (!up) (-P.1) P.2 = -rnd up P.1 P.2 := by
 have hn : Nf (ng P) := ng_nf hP
 have hv := vl_ng P; obtain ⟨a, b⟩ := rnd_spec hP; obtain ⟨c, d⟩ := rnd_spec hn; rw [hv] at c d
 cases up
 · have := d.uniq (up_of_dn a)
   exact this
 · have := c.uniq (dn_of_up b)
   exact this
end Go.Proofs.YtnbliijpjcmbjaaGreatDoor

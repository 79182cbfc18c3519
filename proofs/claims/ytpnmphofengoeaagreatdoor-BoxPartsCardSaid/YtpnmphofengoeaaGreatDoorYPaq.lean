/-
  Contracts and words that the statement's proof rests on: Ej, Kl, Kq, Gm, Gn, Gq, Gr, Ca, Ha, Hb, Ga, Kk.
-/
import Derived.Test.YtpnmphofengoeaaGreatDoorYPap
namespace Go.Proofs.YtpnmphofengoeaaGreatDoor
set_option maxHeartbeats 8000000
open Go.RowKit
set_option linter.unusedVariables false
set_option maxRecDepth 100000

theorem q3two_l {w : World} {A B : Option Addr} {n c m d : Nat} {s t : Bool} {z e y f N1 E1 N2 E2 : Int} (h : Wr w s A n c z) (k : Wr w t B m d y) (hn : n ≤ 20000) (hm : m ≤ 20000)
    (HN1 : Hid ((mk z e).1 = N1)) (HE1 : Hid ((mk z e).2 = E1)) (HN2 : Hid ((mk y f).1 = N2)) (HE2 : Hid ((mk y f).2 = E2)) (h1 : N1 = 0) :
    Calls Tryz.prog 82 #[.agg #[.bool s, .slice A n c, .int .i64 e], .agg #[.bool t, .slice B m d, .int .i64 f]] w (D1 w m N2 E2) := by
  go_enter Tryz.func82, Tryz.ntmps82
  go_upto_region 1 with (fail)
  generalize hW1 : ((w.alloc _).alloc _).alloc _ = w1 at *; obtain ⟨X1, X2, XR, HB⟩ := Bo.en3 hW1; replace h := h.below HB.out; replace k := k.below HB.out; clear hW1; have xX1 := X1.cell
  go_wp2_with fail
  refine (q3Make h (by omega) HN1.out HE1.out).mono ?_; rintro ee w2 ⟨s1, A1, n1, c1, rfl, p1, k1, B⟩; clear xX1; replace X1 := X1.below B; replace X2 := X2.below B; replace XR := XR.below B; replace h := h.below B; replace k := k.below B; replace HB := Hqb HB B; clear B; have xX2 := X2.cell
  go_upto_region 2 with (fail)
  clear xX2; have lX5 := Nat.le_refl (World.heap w2).size; have nX5X2 := X2.lt; have nX5XR := XR.lt; generalize hWn : w2.alloc _ = w3 at *; obtain ⟨X5, BW⟩ := Bo.nw hWn; clear hWn; replace X2 := X2.below BW; replace XR := XR.below BW; replace k := k.below BW; replace p1 := p1.below BW; replace HB := Hqb HB BW; clear BW; have xX2 := X2.cell
  go_wp2_with fail
  refine (q3Make k (by omega) HN2.out HE2.out).mono ?_; rintro ee w4 ⟨s2, A2, n2, c2, rfl, p2, k2, B⟩; clear xX2; replace X2 := X2.below B; replace XR := XR.below B; replace X5 := X5.below B; replace k := k.below B; replace p1 := p1.below B; replace HB := Hqb HB B; clear B
  go_upto_region 3 with (fail)
  have lX6 := Nat.le_refl (World.heap w4).size; have nX6XR := XR.lt; have nX6X5 := X5.lt; generalize hWn : w4.alloc _ = w5 at *; obtain ⟨X6, BW⟩ := Bo.nw hWn; clear hWn; replace XR := XR.below BW; replace X5 := X5.below BW; replace p1 := p1.below BW; replace p2 := p2.below BW; replace HB := Hqb HB BW; clear BW; clear lX6
  have hz : n1 = 0 := by have := p1.1.pos; omega
  subst hz; have xX5 := X5.cell; have xX6 := X6.cell; have xXR := XR.cell; have zXR0 := XR.frozen; go_wp2; clear xX5 xX6 xXR zXR0; have SX := StN.mk3 XR (.bool s2) (.slice A2 n2 c2) (.int .i64 E2); replace p2 := p2.stn SX (by simp [no32]); exact bodyPost_ret (v := .agg #[.bool s2, .slice A2 n2 c2, .int .i64 E2]) (by simp [results, Tryz.results82, go_sem, SX.box.cell]) rfl ⟨s2, _, _, _, rfl, p2, k2, (SX.below HB.out (by omega))⟩

theorem q3two_r {w : World} {A B : Option Addr} {n c m d : Nat} {s t : Bool} {z e y f N1 E1 N2 E2 : Int} (h : Wr w s A n c z) (k : Wr w t B m d y) (hn : n ≤ 20000) (hm : m ≤ 20000)
    (HN1 : Hid ((mk z e).1 = N1)) (HE1 : Hid ((mk z e).2 = E1)) (HN2 : Hid ((mk y f).1 = N2)) (HE2 : Hid ((mk y f).2 = E2)) (h1 : N1 ≠ 0) (h2 : N2 = 0) :
    Calls Tryz.prog 82 #[.agg #[.bool s, .slice A n c, .int .i64 e], .agg #[.bool t, .slice B m d, .int .i64 f]] w (D1 w n N1 E1) := by
  go_enter Tryz.func82, Tryz.ntmps82
  go_upto_region 1 with (fail)
  generalize hW1 : ((w.alloc _).alloc _).alloc _ = w1 at *; obtain ⟨X1, X2, XR, HB⟩ := Bo.en3 hW1; replace h := h.below HB.out; replace k := k.below HB.out; clear hW1; have xX1 := X1.cell
  go_wp2_with fail
  refine (q3Make h (by omega) HN1.out HE1.out).mono ?_; rintro ee w2 ⟨s1, A1, n1, c1, rfl, p1, k1, B⟩; clear xX1; replace X1 := X1.below B; replace X2 := X2.below B; replace XR := XR.below B; replace h := h.below B; replace k := k.below B; replace HB := Hqb HB B; clear B; have xX2 := X2.cell
  go_upto_region 2 with (fail)
  clear xX2; have lX5 := Nat.le_refl (World.heap w2).size; have nX5X2 := X2.lt; have nX5XR := XR.lt; generalize hWn : w2.alloc _ = w3 at *; obtain ⟨X5, BW⟩ := Bo.nw hWn; clear hWn; replace X2 := X2.below BW; replace XR := XR.below BW; replace k := k.below BW; replace p1 := p1.below BW; replace HB := Hqb HB BW; clear BW; have xX2 := X2.cell
  go_wp2_with fail
  refine (q3Make k (by omega) HN2.out HE2.out).mono ?_; rintro ee w4 ⟨s2, A2, n2, c2, rfl, p2, k2, B⟩; clear xX2; replace X2 := X2.below B; replace XR := XR.below B; replace X5 := X5.below B; replace k := k.below B; replace p1 := p1.below B; replace HB := Hqb HB B; clear B
  go_upto_region 3 with (fail)
  have lX6 := Nat.le_refl (World.heap w4).size; have nX6XR := XR.lt; have nX6X5 := X5.lt; generalize hWn : w4.alloc _ = w5 at *; obtain ⟨X6, BW⟩ := Bo.nw hWn; clear hWn; replace XR := XR.below BW; replace X5 := X5.below BW; replace p1 := p1.below BW; replace p2 := p2.below BW; replace HB := Hqb HB BW; clear BW; clear lX6
  have hpa : 0 < n1 := by have := p1.1.pos; omega
  have qa : ((n1 : Int) == 0) = false := by have : (n1 : Int) ≠ 0 := by omega
                                            simpa using this
  have la := p1.1.rd.big
  have hz : n2 = 0 := by have := p2.1.pos; omega
  subst hz; have xX5 := X5.cell; have xX6 := X6.cell; have xXR := XR.cell; have zXR0 := XR.frozen; go_wp2; clear xX5 xX6 xXR zXR0; have SX := StN.mk3 XR (.bool s1) (.slice A1 n1 c1) (.int .i64 E1); replace p1 := p1.stn SX (by simp [no32]); exact bodyPost_ret (v := .agg #[.bool s1, .slice A1 n1 c1, .int .i64 E1]) (by simp [results, Tryz.results82, go_sem, SX.box.cell]) rfl ⟨s1, _, _, _, rfl, p1, k1, (SX.below HB.out (by omega))⟩

theorem q3sum_up {w : World} {A B : Option Addr} {n c m d : Nat} {s t : Bool} {z e y f N1 E1 N2 E2 N E : Int} (h : Wr w s A n c z) (k : Wr w t B m d y) (hn : n ≤ 20000) (hm : m ≤ 20000)
    (HN1 : Hid ((mk z e).1 = N1)) (HE1 : Hid ((mk z e).2 = E1)) (HN2 : Hid ((mk y f).1 = N2)) (HE2 : Hid ((mk y f).2 = E2)) (h1 : N1 ≠ 0) (h2 : N2 ≠ 0) (hle : E1 ≤ E2) (hfar : E2 - E1 ≤ 640000) (b1 : -4194304 ≤ E1) (b2 : E2 ≤ 4194304)
    (HN : Hid ((mk (N1 + N2 * ((2 ^ (E2 - E1).toNat : Nat) : Int)) E1).1 = N)) (HE : Hid ((mk (N1 + N2 * ((2 ^ (E2 - E1).toNat : Nat) : Int)) E1).2 = E)) :
    Calls Tryz.prog 82 #[.agg #[.bool s, .slice A n c, .int .i64 e], .agg #[.bool t, .slice B m d, .int .i64 f]] w (D1 w (n + m + 20010) N E) := by
  obtain ⟨δ, hδ⟩ : ∃ x, E2 - E1 = x := ⟨_, rfl⟩
  have HW : Hid (IntKind.i64.wrap (E2 - E1) = δ) := Lib.hid (by rw [hδ]; exact IntWalk.i64_in _ (by omega))
  have hd0 : 0 ≤ δ := by omega
  rw [hδ] at hfar HN HE
  have tle : decide (E2 < E1) = false := by simp; omega
  clear hδ
  go_enter Tryz.func82, Tryz.ntmps82
  go_upto_region 1 with (fail)
  generalize hW1 : ((w.alloc _).alloc _).alloc _ = w1 at *; obtain ⟨X1, X2, XR, HB⟩ := Bo.en3 hW1; replace h := h.below HB.out; replace k := k.below HB.out; clear hW1; have xX1 := X1.cell
  go_wp2_with fail
  refine (q3Make h (by omega) HN1.out HE1.out).mono ?_; rintro ee w2 ⟨s1, A1, n1, c1, rfl, p1, k1, B⟩; clear xX1; replace X1 := X1.below B; replace X2 := X2.below B; replace XR := XR.below B; replace h := h.below B; replace k := k.below B; replace HB := Hqb HB B; clear B; have xX2 := X2.cell
  go_upto_region 2 with (fail)
  clear xX2; have lX5 := Nat.le_refl (World.heap w2).size; have nX5X2 := X2.lt; have nX5XR := XR.lt; generalize hWn : w2.alloc _ = w3 at *; obtain ⟨X5, BW⟩ := Bo.nw hWn; clear hWn; replace X2 := X2.below BW; replace XR := XR.below BW; replace k := k.below BW; replace p1 := p1.below BW; replace HB := Hqb HB BW; clear BW; have xX2 := X2.cell
  go_wp2_with fail
  refine (q3Make k (by omega) HN2.out HE2.out).mono ?_; rintro ee w4 ⟨s2, A2, n2, c2, rfl, p2, k2, B⟩; clear xX2; replace X2 := X2.below B; replace XR := XR.below B; replace X5 := X5.below B; replace k := k.below B; replace p1 := p1.below B; replace HB := Hqb HB B; clear B
  go_upto_region 3 with (fail)
  have lX6 := Nat.le_refl (World.heap w4).size; have nX6XR := XR.lt; have nX6X5 := X5.lt; generalize hWn : w4.alloc _ = w5 at *; obtain ⟨X6, BW⟩ := Bo.nw hWn; clear hWn; replace XR := XR.below BW; replace X5 := X5.below BW; replace p1 := p1.below BW; replace p2 := p2.below BW; replace HB := Hqb HB BW; clear BW; clear lX6
  have hpa : 0 < n1 := by have := p1.1.pos; omega
  have qa : ((n1 : Int) == 0) = false := by have : (n1 : Int) ≠ 0 := by omega
                                            simpa using this
  have la := p1.1.rd.big
  have hpb : 0 < n2 := by have := p2.1.pos; omega
  have qb : ((n2 : Int) == 0) = false := by have : (n2 : Int) ≠ 0 := by omega
                                            simpa using this
  have lb := p2.1.rd.big; clear h1 h2; have xX5 := X5.cell; have xX6 := X6.cell
  go_upto_region 11 with (fail)
  clear xX5 xX6; have HC := Lib.hid (sg_scale s2 N2 (2 ^ δ.toNat) p2.wr.eq); have lt5 := X5.lt; have lt6 := X6.lt; have ltR := XR.lt; refine Jo.rk [0, 1, 2, 3, 4, 5, 6, 7, 8, 9, 10, 11, 12, 13] [some 39, some 40, some 41, some 42, some 43, some 44, some 45, some 46, some 47, some 48, some 49, some 50, some 51, some 8, none] [[], [0], [1], [], [3], [4], [], [6], [], [8], [7, 9], [5, 10], [2, 11], [], []] 15 1 [Jo.qp w4.heap.size 0, Jo.qp w4.heap.size 0, Jo.qb s2, Jo.qp w4.heap.size 0, Jo.qp w4.heap.size 1, Jo.Fact.eq (.slice A2 n2 c2), Jo.qp w4.heap.size 2, Jo.qi E2, Jo.qp w2.heap.size 2, Jo.qi E1, Jo.qi δ, Jo.Fact.nm (N2.natAbs * 2 ^ δ.toNat) (n2 + δ.toNat / 32 + 1), Jo.Fact.wn (N2 * ((2 ^ δ.toNat : Nat) : Int)) (n2 + δ.toNat / 32 + 1), Jo.Fact.bo w5.heap.size #[.bool false, .slice none 0 0] 81, Jo.Fact.any] (by kernel_rfl) (by kernel_rfl) (by decide) rfl ?_ ?_
  · iterate 2 (refine Jo.jm rfl ?_ ?_; rotate_left)
    refine Jo.jm rfl ?_ ?_
    · rintro wj hJ _ rfl K hK; simp only [Jo.z] at hK ⊢; have xX60 := (X6.below hJ).a 0 (.bool s2) rfl; go_simp; exact hK.out _ _ rfl (br _ _)
    iterate 2 (refine Jo.jm rfl ?_ ?_; rotate_left)
    refine Jo.jm rfl ?_ ?_
    · rintro wj hJ _ rfl K hK; simp only [Jo.z] at hK ⊢; have xX61 := (X6.below hJ).a 1 (.slice A2 n2 c2) rfl; go_simp; exact hK.out _ _ rfl (br _ _)
    refine Jo.jm rfl ?_ ?_; rotate_left
    refine Jo.jm rfl ?_ ?_
    · rintro wj hJ _ rfl K hK; simp only [Jo.z] at hK ⊢; have xX62 := (X6.below hJ).a 2 (.int .i64 E2) rfl; go_simp; exact hK.out _ _ rfl (br _ _)
    refine Jo.jm rfl ?_ ?_; rotate_left
    refine Jo.jm rfl ?_ ?_
    · rintro wj hJ _ rfl K hK; simp only [Jo.z] at hK ⊢; have xX52 := (X5.below hJ).a 2 (.int .i64 E1) rfl; go_simp; exact hK.out _ _ rfl (br _ _)
    refine Jo.jm rfl ?_ ?_
    · rintro wj hJ _ rfl _ rfl K hK; simp only [Jo.z] at hK ⊢; have hw := HW.out; go_simp; exact hK.out _ _ rfl (br _ _)
    refine Jo.jm rfl ?_ ?_
    · rintro wj hJ _ rfl _ rfl K hK; simp only [Jo.z] at hK ⊢; go_simp; refine (rShlN (p2.below hJ).1.rd (by omega) hd0 (by omega) rfl).mono ?_; rintro ee wk ⟨A7, n7, c7, rfl, p7, k7, B⟩; exact hK.out _ _ ⟨A7, n7, c7, rfl, p7, k7⟩ B
    refine Jo.jm rfl ?_ ?_
    · rintro wj hJ _ rfl _ ⟨A7, n7, c7, rfl, p7, k7⟩ K hK; simp only [Jo.z] at hK ⊢; go_simp; refine (qMake s2 p7.rd).mono ?_; rintro ee wk ⟨s8, A8, n8, c8, rfl, p8, k8, B⟩; exact hK.out _ _ ⟨s8, A8, n8, c8, rfl, HC.out ▸ p8, Nat.le_trans k8 k7⟩ B
    refine Jo.jm rfl ?_ ?_
    · rintro wj hJ K hK; simp only [Jo.z] at hK ⊢; go_simp; exact hK.out _ _ ⟨_, rfl, hJ.size, Bo.new _ _ _⟩ (bel1 _ _)
    exact Jo.Steps.nil
    all_goals (rintro wj hJ; (repeat rintro _ rfl); intro K hK; simp only [Jo.z] at hK ⊢; go_simp; exact hK.out _ _ rfl (br _ _))
  rintro w9 hJ _ _ _ _ _ rfl _ _ _ _ _ rfl _ _ _ rfl _ _ _ rfl _ rfl _ ⟨A7, n7, c7, rfl, _, _⟩ _ ⟨s8, A8, n8, c8, rfl, p8, k8⟩ _ ⟨g8, rfl, hg8, X8⟩ -; simp only [Jo.z]; replace XR := XR.below hJ; replace X5 := X5.below hJ; replace X6 := X6.below hJ; replace p1 := p1.below hJ; replace p2 := p2.below hJ; replace HB := Hqb HB hJ; have xX8 := X8.cell; have zX80 := X8.frozen
  refine Jo.jnext (i := 14) (o := ⟨none, _, _, _, _, _⟩) (by kernel_rfl) rfl (fun K hK => ?_)
  go_simp; refine hK.out _ _ ?_; clear hK K xX8 zX80; generalize hS : (w9.setCell _ _).setCell _ _ = w10 at *; have SX := StN.of2 X8 hS; replace XR := XR.stn SX (by omega); replace X5 := X5.stn SX (by omega); replace X6 := X6.stn SX (by omega); replace p1 := p1.stn SX (by simp [no32]); replace p2 := p2.stn SX (by simp [no32]); replace p8 := p8.stn SX (by simp [no32]); replace HB := Hqs HB SX (by omega)
  replace X8 := SX.box; clear SX hS; refine Jo.jdone (by kernel_rfl) ?_
  go_upto_region 12 with (fail)
  refine Jo.rk [0, 1, 2, 3, 4, 5, 6] [some 52, some 53, some 54, some 55, some 56, some 57, some 58, none] [[], [0], [], [1, 2], [], [4], [3, 5], []] 8 1 [Jo.qp w2.heap.size 0, Jo.Fact.eq (.agg #[.bool s1, .slice A1 n1 c1]), Jo.Fact.eq (.agg #[.bool s8, .slice A8 n8 c8]), Jo.Fact.wn (N1 + N2 * ((2 ^ δ.toNat : Nat) : Int)) (n + m + 20010), Jo.qp w2.heap.size 2, Jo.qi E1, Jo.Fact.dy N E (n + m + 20010), Jo.Fact.any] (by kernel_rfl) (by kernel_rfl) (by decide) rfl ?_ ?_
  · iterate 3 (refine Jo.jm rfl ?_ ?_; rotate_left)
    refine Jo.jm rfl ?_ ?_
    · rintro wj hJ _ rfl _ rfl K hK; simp only [Jo.z] at hK ⊢; go_simp; refine (qAdd (p1.below hJ).wr (p8.below hJ).wr (by omega) (by omega) rfl).mono ?_; rintro ee wk ⟨s3, A3, n3, c3, rfl, p3, k3, B⟩; exact hK.out _ _ ⟨s3, A3, n3, c3, rfl, p3, by omega⟩ B
    refine Jo.jm rfl ?_ ?_; rotate_left
    refine Jo.jm rfl ?_ ?_
    · rintro wj hJ _ rfl K hK; simp only [Jo.z] at hK ⊢; have xX52 := (X5.below hJ).a 2 (.int .i64 E1) rfl; go_simp; exact hK.out _ _ rfl (br _ _)
    refine Jo.jm rfl ?_ ?_
    · rintro wj hJ _ ⟨s3, A3, n3, c3, rfl, p3, k3⟩ _ rfl K hK; simp only [Jo.z] at hK ⊢; go_simp; refine (q3Make p3.wr (by omega) HN.out HE.out).mono ?_; rintro ee wk ⟨s4, A4, n4, c4, rfl, p4, k4, B⟩; exact hK.out _ _ ⟨s4, A4, n4, c4, rfl, p4, Nat.le_trans k4 k3⟩ B
    exact Jo.Steps.nil
    all_goals (rintro wj hJ; (repeat rintro _ rfl); intro K hK; simp only [Jo.z] at hK ⊢; have xX5 := (X5.below hJ).cell; have xX8 := (X8.below hJ).cell; go_simp; exact hK.out _ _ rfl (br _ _))
  rintro w11 hJ _ _ _ rfl _ rfl _ ⟨s3, A3, n3, c3, rfl, _, _⟩ _ _ _ rfl _ ⟨s4, A4, n4, c4, rfl, p4, k4⟩ -; simp only [Jo.z]; replace XR := XR.below hJ; replace X5 := X5.below hJ; replace X6 := X6.below hJ; replace X8 := X8.below hJ; replace p1 := p1.below hJ; replace p2 := p2.below hJ; replace p8 := p8.below hJ; replace HB := Hqb HB hJ; have xXR := XR.cell; have zXR0 := XR.frozen
  refine Jo.jnext (i := 7) (o := ⟨none, _, _, _, _, _⟩) (by kernel_rfl) rfl (fun K hK => ?_)
  go_simp; refine hK.out _ _ ?_; clear hK K xXR zXR0; have SX := StN.mk3 XR (.bool s4) (.slice A4 n4 c4) (.int .i64 E); replace p4 := p4.stn SX (by simp [no32]); refine Jo.jdone (by kernel_rfl) ?_; go_wp2; exact bodyPost_ret (v := .agg #[.bool s4, .slice A4 n4 c4, .int .i64 E]) (by simp [results, Tryz.results82, go_sem, SX.box.cell]) rfl ⟨s4, _, _, _, rfl, p4, k4, (SX.below HB.out (by omega))⟩

theorem q3sum_dn {w : World} {A B : Option Addr} {n c m d : Nat} {s t : Bool} {z e y f N1 E1 N2 E2 N E : Int} (h : Wr w s A n c z) (k : Wr w t B m d y) (hn : n ≤ 20000) (hm : m ≤ 20000)
    (HN1 : Hid ((mk z e).1 = N1)) (HE1 : Hid ((mk z e).2 = E1)) (HN2 : Hid ((mk y f).1 = N2)) (HE2 : Hid ((mk y f).2 = E2)) (h1 : N1 ≠ 0) (h2 : N2 ≠ 0) (hle : E2 < E1) (hfar : E1 - E2 ≤ 640000) (b1 : -4194304 ≤ E2) (b2 : E1 ≤ 4194304)
    (HN : Hid ((mk (N2 + N1 * ((2 ^ (E1 - E2).toNat : Nat) : Int)) E2).1 = N)) (HE : Hid ((mk (N2 + N1 * ((2 ^ (E1 - E2).toNat : Nat) : Int)) E2).2 = E)) :
    Calls Tryz.prog 82 #[.agg #[.bool s, .slice A n c, .int .i64 e], .agg #[.bool t, .slice B m d, .int .i64 f]] w (D1 w (n + m + 20010) N E) := by
  obtain ⟨δ, hδ⟩ : ∃ x, E1 - E2 = x := ⟨_, rfl⟩
  have HW : Hid (IntKind.i64.wrap (E1 - E2) = δ) := Lib.hid (by rw [hδ]; exact IntWalk.i64_in _ (by omega))
  have hd0 : 0 ≤ δ := by omega
  rw [hδ] at hfar HN HE
  have tle : decide (E2 < E1) = true := by simp; omega
  clear hδ
  go_enter Tryz.func82, Tryz.ntmps82
  go_upto_region 1 with (fail)
  generalize hW1 : ((w.alloc _).alloc _).alloc _ = w1 at *; obtain ⟨X1, X2, XR, HB⟩ := Bo.en3 hW1; replace h := h.below HB.out; replace k := k.below HB.out; clear hW1; have xX1 := X1.cell
  go_wp2_with fail
  refine (q3Make h (by omega) HN1.out HE1.out).mono ?_; rintro ee w2 ⟨s1, A1, n1, c1, rfl, p1, k1, B⟩; clear xX1; replace X1 := X1.below B; replace X2 := X2.below B; replace XR := XR.below B; replace h := h.below B; replace k := k.below B; replace HB := Hqb HB B; clear B; have xX2 := X2.cell
  go_upto_region 2 with (fail)
  clear xX2; have lX5 := Nat.le_refl (World.heap w2).size; have nX5X2 := X2.lt; have nX5XR := XR.lt; generalize hWn : w2.alloc _ = w3 at *; obtain ⟨X5, BW⟩ := Bo.nw hWn; clear hWn; replace X2 := X2.below BW; replace XR := XR.below BW; replace k := k.below BW; replace p1 := p1.below BW; replace HB := Hqb HB BW; clear BW; have xX2 := X2.cell
  go_wp2_with fail
  refine (q3Make k (by omega) HN2.out HE2.out).mono ?_; rintro ee w4 ⟨s2, A2, n2, c2, rfl, p2, k2, B⟩; clear xX2; replace X2 := X2.below B; replace XR := XR.below B; replace X5 := X5.below B; replace k := k.below B; replace p1 := p1.below B; replace HB := Hqb HB B; clear B
  go_upto_region 3 with (fail)
  have lX6 := Nat.le_refl (World.heap w4).size; have nX6XR := XR.lt; have nX6X5 := X5.lt; generalize hWn : w4.alloc _ = w5 at *; obtain ⟨X6, BW⟩ := Bo.nw hWn; clear hWn; replace XR := XR.below BW; replace X5 := X5.below BW; replace p1 := p1.below BW; replace p2 := p2.below BW; replace HB := Hqb HB BW; clear BW; clear lX6
  have hpa : 0 < n1 := by have := p1.1.pos; omega
  have qa : ((n1 : Int) == 0) = false := by have : (n1 : Int) ≠ 0 := by omega
                                            simpa using this
  have la := p1.1.rd.big
  have hpb : 0 < n2 := by have := p2.1.pos; omega
  have qb : ((n2 : Int) == 0) = false := by have : (n2 : Int) ≠ 0 := by omega
                                            simpa using this
  have lb := p2.1.rd.big; clear h1 h2; have xX5 := X5.cell; have xX6 := X6.cell
  go_upto_region 9 with (fail)
  clear xX5 xX6; have lX7 := Nat.le_refl (World.heap w5).size; have nX7XR := XR.lt; have nX7X5 := X5.lt; have nX7X6 := X6.lt; generalize hWn : w5.alloc _ = w6 at *; obtain ⟨X7, BW⟩ := Bo.nw hWn; clear hWn; replace XR := XR.below BW; replace X5 := X5.below BW; replace X6 := X6.below BW; replace p1 := p1.below BW; replace p2 := p2.below BW; replace HB := Hqb HB BW; clear BW
  have xX6 := X6.cell; have xX5 := X5.cell; have zX50 := X5.frozen
  go_upto_region 10 with (fail)
  clear xX6 xX5 zX50; generalize hS : ((w6.setCell _ _).setCell _ _).setCell _ _ = w7 at *; have SX := StN.of3 X5 hS; replace XR := XR.stn SX (by omega); replace X6 := X6.stn SX (by omega); replace X7 := X7.stn SX (by omega); replace p1 := p1.stn SX (by simp [no32]); replace p2 := p2.stn SX (by simp [no32]); replace HB := Hqs HB SX (by omega); replace X5 := SX.box
  clear SX hS; have xX7 := X7.cell; have xX6 := X6.cell; have zX60 := X6.frozen
  go_upto_region 11 with (fail)
  clear xX7 xX6 zX60; generalize hS : ((w7.setCell _ _).setCell _ _).setCell _ _ = w8 at *; have SX := StN.of3 X6 hS; replace XR := XR.stn SX (by omega); replace X5 := X5.stn SX (by omega); replace X7 := X7.stn SX (by omega); replace p1 := p1.stn SX (by simp [no32]); replace p2 := p2.stn SX (by simp [no32]); replace HB := Hqs HB SX (by omega); replace X6 := SX.box
  clear SX hS; have HC := Lib.hid (sg_scale s1 N1 (2 ^ δ.toNat) p1.wr.eq); have lt5 := X5.lt; have lt6 := X6.lt; have ltR := XR.lt; refine Jo.rk [0, 1, 2, 3, 4, 5, 6, 7, 8, 9, 10, 11, 12, 13] [some 39, some 40, some 41, some 42, some 43, some 44, some 45, some 46, some 47, some 48, some 49, some 50, some 51, some 8, none] [[], [0], [1], [], [3], [4], [], [6], [], [8], [7, 9], [5, 10], [2, 11], [], []] 15 1 [Jo.qp w4.heap.size 0, Jo.qp w4.heap.size 0, Jo.qb s1, Jo.qp w4.heap.size 0, Jo.qp w4.heap.size 1, Jo.Fact.eq (.slice A1 n1 c1), Jo.qp w4.heap.size 2, Jo.qi E1, Jo.qp w2.heap.size 2, Jo.qi E2, Jo.qi δ, Jo.Fact.nm (N1.natAbs * 2 ^ δ.toNat) (n1 + δ.toNat / 32 + 1), Jo.Fact.wn (N1 * ((2 ^ δ.toNat : Nat) : Int)) (n1 + δ.toNat / 32 + 1), Jo.Fact.bo w8.heap.size #[.bool false, .slice none 0 0] 81, Jo.Fact.any] (by kernel_rfl) (by kernel_rfl) (by decide) rfl ?_ ?_
  · iterate 2 (refine Jo.jm rfl ?_ ?_; rotate_left)
    refine Jo.jm rfl ?_ ?_
    · rintro wj hJ _ rfl K hK; simp only [Jo.z] at hK ⊢; have xX60 := (X6.below hJ).a 0 (.bool s1) rfl; go_simp; exact hK.out _ _ rfl (br _ _)
    iterate 2 (refine Jo.jm rfl ?_ ?_; rotate_left)
    refine Jo.jm rfl ?_ ?_
    · rintro wj hJ _ rfl K hK; simp only [Jo.z] at hK ⊢; have xX61 := (X6.below hJ).a 1 (.slice A1 n1 c1) rfl; go_simp; exact hK.out _ _ rfl (br _ _)
    refine Jo.jm rfl ?_ ?_; rotate_left
    refine Jo.jm rfl ?_ ?_
    · rintro wj hJ _ rfl K hK; simp only [Jo.z] at hK ⊢; have xX62 := (X6.below hJ).a 2 (.int .i64 E1) rfl; go_simp; exact hK.out _ _ rfl (br _ _)
    refine Jo.jm rfl ?_ ?_; rotate_left
    refine Jo.jm rfl ?_ ?_
    · rintro wj hJ _ rfl K hK; simp only [Jo.z] at hK ⊢; have xX52 := (X5.below hJ).a 2 (.int .i64 E2) rfl; go_simp; exact hK.out _ _ rfl (br _ _)
    refine Jo.jm rfl ?_ ?_
    · rintro wj hJ _ rfl _ rfl K hK; simp only [Jo.z] at hK ⊢; have hw := HW.out; go_simp; exact hK.out _ _ rfl (br _ _)
    refine Jo.jm rfl ?_ ?_
    · rintro wj hJ _ rfl _ rfl K hK; simp only [Jo.z] at hK ⊢; go_simp; refine (rShlN (p1.below hJ).1.rd (by omega) hd0 (by omega) rfl).mono ?_; rintro ee wk ⟨A7, n7, c7, rfl, p7, k7, B⟩; exact hK.out _ _ ⟨A7, n7, c7, rfl, p7, k7⟩ B
    refine Jo.jm rfl ?_ ?_
    · rintro wj hJ _ rfl _ ⟨A7, n7, c7, rfl, p7, k7⟩ K hK; simp only [Jo.z] at hK ⊢; go_simp; refine (qMake s1 p7.rd).mono ?_; rintro ee wk ⟨s8, A8, n8, c8, rfl, p8, k8, B⟩; exact hK.out _ _ ⟨s8, A8, n8, c8, rfl, HC.out ▸ p8, Nat.le_trans k8 k7⟩ B
    refine Jo.jm rfl ?_ ?_
    · rintro wj hJ K hK; simp only [Jo.z] at hK ⊢; go_simp; exact hK.out _ _ ⟨_, rfl, hJ.size, Bo.new _ _ _⟩ (bel1 _ _)
    exact Jo.Steps.nil
    all_goals (rintro wj hJ; (repeat rintro _ rfl); intro K hK; simp only [Jo.z] at hK ⊢; go_simp; exact hK.out _ _ rfl (br _ _))
  rintro w9 hJ _ _ _ _ _ rfl _ _ _ _ _ rfl _ _ _ rfl _ _ _ rfl _ rfl _ ⟨A7, n7, c7, rfl, _, _⟩ _ ⟨s8, A8, n8, c8, rfl, p8, k8⟩ _ ⟨g8, rfl, hg8, X8⟩ -; simp only [Jo.z]; replace XR := XR.below hJ; replace X5 := X5.below hJ; replace X6 := X6.below hJ; replace p1 := p1.below hJ; replace p2 := p2.below hJ; replace HB := Hqb HB hJ; have xX8 := X8.cell; have zX80 := X8.frozen
  refine Jo.jnext (i := 14) (o := ⟨none, _, _, _, _, _⟩) (by kernel_rfl) rfl (fun K hK => ?_)
  go_simp; refine hK.out _ _ ?_; clear hK K xX8 zX80; generalize hS : (w9.setCell _ _).setCell _ _ = w10 at *; have SX := StN.of2 X8 hS; replace XR := XR.stn SX (by omega); replace X5 := X5.stn SX (by omega); replace X6 := X6.stn SX (by omega); replace p1 := p1.stn SX (by simp [no32]); replace p2 := p2.stn SX (by simp [no32]); replace p8 := p8.stn SX (by simp [no32]); replace HB := Hqs HB SX (by omega)
  replace X8 := SX.box; clear SX hS; refine Jo.jdone (by kernel_rfl) ?_
  go_upto_region 12 with (fail)
  refine Jo.rk [0, 1, 2, 3, 4, 5, 6] [some 52, some 53, some 54, some 55, some 56, some 57, some 58, none] [[], [0], [], [1, 2], [], [4], [3, 5], []] 8 1 [Jo.qp w2.heap.size 0, Jo.Fact.eq (.agg #[.bool s2, .slice A2 n2 c2]), Jo.Fact.eq (.agg #[.bool s8, .slice A8 n8 c8]), Jo.Fact.wn (N2 + N1 * ((2 ^ δ.toNat : Nat) : Int)) (n + m + 20010), Jo.qp w2.heap.size 2, Jo.qi E2, Jo.Fact.dy N E (n + m + 20010), Jo.Fact.any] (by kernel_rfl) (by kernel_rfl) (by decide) rfl ?_ ?_
  · iterate 3 (refine Jo.jm rfl ?_ ?_; rotate_left)
    refine Jo.jm rfl ?_ ?_
    · rintro wj hJ _ rfl _ rfl K hK; simp only [Jo.z] at hK ⊢; go_simp; refine (qAdd (p2.below hJ).wr (p8.below hJ).wr (by omega) (by omega) rfl).mono ?_; rintro ee wk ⟨s3, A3, n3, c3, rfl, p3, k3, B⟩; exact hK.out _ _ ⟨s3, A3, n3, c3, rfl, p3, by omega⟩ B
    refine Jo.jm rfl ?_ ?_; rotate_left
    refine Jo.jm rfl ?_ ?_
    · rintro wj hJ _ rfl K hK; simp only [Jo.z] at hK ⊢; have xX52 := (X5.below hJ).a 2 (.int .i64 E2) rfl; go_simp; exact hK.out _ _ rfl (br _ _)
    refine Jo.jm rfl ?_ ?_
    · rintro wj hJ _ ⟨s3, A3, n3, c3, rfl, p3, k3⟩ _ rfl K hK; simp only [Jo.z] at hK ⊢; go_simp; refine (q3Make p3.wr (by omega) HN.out HE.out).mono ?_; rintro ee wk ⟨s4, A4, n4, c4, rfl, p4, k4, B⟩; exact hK.out _ _ ⟨s4, A4, n4, c4, rfl, p4, Nat.le_trans k4 k3⟩ B
    exact Jo.Steps.nil
    all_goals (rintro wj hJ; (repeat rintro _ rfl); intro K hK; simp only [Jo.z] at hK ⊢; have xX5 := (X5.below hJ).cell; have xX8 := (X8.below hJ).cell; go_simp; exact hK.out _ _ rfl (br _ _))
  rintro w11 hJ _ _ _ rfl _ rfl _ ⟨s3, A3, n3, c3, rfl, _, _⟩ _ _ _ rfl _ ⟨s4, A4, n4, c4, rfl, p4, k4⟩ -; simp only [Jo.z]; replace XR := XR.below hJ; replace X5 := X5.below hJ; replace X6 := X6.below hJ; replace X8 := X8.below hJ; replace p1 := p1.below hJ; replace p2 := p2.below hJ; replace p8 := p8.below hJ; replace HB := Hqb HB hJ; have xXR := XR.cell; have zXR0 := XR.frozen
  refine Jo.jnext (i := 7) (o := ⟨none, _, _, _, _, _⟩) (by kernel_rfl) rfl (fun K hK => ?_)
  go_simp; refine hK.out _ _ ?_; clear hK K xXR zXR0; have SX := StN.mk3 XR (.bool s4) (.slice A4 n4 c4) (.int .i64 E); replace p4 := p4.stn SX (by simp [no32]); refine Jo.jdone (by kernel_rfl) ?_; go_wp2; exact bodyPost_ret (v := .agg #[.bool s4, .slice A4 n4 c4, .int .i64 E]) (by simp [results, Tryz.results82, go_sem, SX.box.cell]) rfl ⟨s4, _, _, _, rfl, p4, k4, (SX.below HB.out (by omega))⟩

theorem q3Two {w : World} {A B : Option Addr} {n c m d : Nat} {s t : Bool} {z e y f N E : Int} (h : Wr w s A n c z) (k : Wr w t B m d y) (hn : n ≤ 20000) (hm : m ≤ 20000) (hf : Near (mk z e) (mk y f))
    (hN : (pl (mk z e) (mk y f)).1 = N) (hE : (pl (mk z e) (mk y f)).2 = E) :
    Calls Tryz.prog 82 #[.agg #[.bool s, .slice A n c, .int .i64 e], .agg #[.bool t, .slice B m d, .int .i64 f]] w (D1 w (n + m + 20010) N E) := by
  have mono : ∀ K, K ≤ n + m + 20010 → ∀ N E e w', D1 w K N E e w' → D1 w (n + m + 20010) N E e w' := fun K hK N E e w' ⟨s, A, n, c, e1, p, q, b⟩ => ⟨s, A, n, c, e1, p, Nat.le_trans q hK, b⟩
  obtain ⟨b1, b2⟩ := mk_bd z e; obtain ⟨b3, b4⟩ := mk_bd y f
  unfold pl at hN hE
  by_cases h1 : (mk z e).1 = 0
  · rw [if_pos h1] at hN hE; subst hN; subst hE; exact (q3two_l h k hn hm (Lib.hid rfl) (Lib.hid rfl) (Lib.hid rfl) (Lib.hid rfl) h1).mono (mono _ (by omega) _ _)
  · rw [if_neg h1] at hN hE
    by_cases h2 : (mk y f).1 = 0
    · rw [if_pos h2] at hN hE; subst hN; subst hE; exact (q3two_r h k hn hm (Lib.hid rfl) (Lib.hid rfl) (Lib.hid rfl) (Lib.hid rfl) h1 h2).mono (mono _ (by omega) _ _)
    · rw [if_neg h2] at hN hE; obtain ⟨g1, g2⟩ := hf h1 h2
      by_cases hle : (mk z e).2 ≤ (mk y f).2
      · rw [Int.min_eq_left hle] at hN hE; exact q3sum_up h k hn hm (Lib.hid rfl) (Lib.hid rfl) (Lib.hid rfl) (Lib.hid rfl) h1 h2 hle g2 b1 b4 (Lib.hid (by simpa using hN)) (Lib.hid (by simpa using hE))
      · rw [Int.min_eq_right (by omega), Int.add_comm] at hN hE; exact q3sum_dn h k hn hm (Lib.hid rfl) (Lib.hid rfl) (Lib.hid rfl) (Lib.hid rfl) h1 h2 (by omega) g1 b3 b2 (Lib.hid (by simpa using hN)) (Lib.hid (by simpa using hE))
end Go.Proofs.YtpnmphofengoeaaGreatDoor

namespace Go.Proofs.YtpnmphofengoeaaGreatDoor
open Go.RowKit
set_option linter.unusedVariables false

theorem sgi_mul (s : Bool) (x y : Int) : sgi s x * y = sgi s (x * y) := by
  cases s
  · rfl
  · exact Int.neg_mul _ _
theorem vp_vr {x : Int} (s : Bool) (h : 0 < x) : vr (sgi s x) = sgi s (vp x) := by
  rw [vr_sgi]
  congr 1
  unfold vr
  rw [if_neg (by omega)]
theorem exq_vl {D : Int} {s : Bool} {M E r : Int} (q : Fq D s M E r) (h1 : -19342822337206103650074625 < r) (h2 : r < 19342822337206103650074625) : exb D s M E = true ∧ vl (exq D s M E) = vr r := by
  have hb : exb D s M E = true := by
    unfold exb
    rw [decide_eq_true q.1, Bool.true_and]
    rcases q.cases with ⟨rfl, rfl, rfl, rfl, h0⟩ | ⟨rfl, _⟩ | ⟨rfl, rfl, rfl, ⟨rfl, h5⟩ | ⟨rfl, h5⟩⟩
    · rfl
    · rfl
    · omega
    · omega
  refine ⟨hb, ?_⟩
  unfold exq
  rw [if_pos hb]; have hr := q.2.2
  rcases q.1 with ⟨rfl, rfl, rfl, rfl⟩ | ⟨rfl, g1, g2, g3⟩ | ⟨rfl, rfl, rfl⟩
  · obtain rfl : 0 = r := hr
    have e0 : sgi false 0 = 0 := if_neg (by decide)
    rw [e0, mk_zero, vl_zero]
    rfl
  · have hM := q.2.1
    have hpl : plc 1 M E = M - 9223372036854775808 + 1 + (E + 1048576) * 9223372036854775808 := rfl
    rw [hpl] at hr
    have ha : (sgi s M).natAbs = M.toNat := by
      cases s
      · show M.natAbs = M.toNat; omega
      · show (-M).natAbs = M.toNat; omega
    obtain ⟨η, hη⟩ : ∃ η : Nat, 4194304 = η := ⟨_, rfl⟩
    have hf := mk_fit (z := sgi s M) (e := E) (h := η) (by omega) (by omega) (by
      rw [ha]
      have : M.toNat < 2 ^ 64 := by omega
      have := Nat.mul_lt_mul_of_pos_right this (Nat.pow_pos (n := (E + (η : Int)).toNat) (show 0 < 2 by decide))
      rw [← Nat.pow_add] at this; exact Nat.lt_of_lt_of_le this (Nat.pow_le_pow_right (by decide) (by omega)))
    rw [hf.2, ← hr, vp_vr s (by omega), vp_fin g1 hM (by omega), sgi_mul]
  · exfalso
    have : r = sgi s TP := hr.symm
    have := TP_eq
    cases s
    · have e : sgi false TP = TP := if_neg (by decide)
      omega
    · have e : sgi true TP = -TP := if_pos rfl
      omega
theorem lo_full {m : Nat} {E : Int} (h1 : 9223372036854775808 ≤ m) (h2 : m < 18446744073709551616) (h3 : -1048576 ≤ E) (h4 : E ≤ 1048576) : lo m E = (m : Int) - 9223372036854775808 + 1 + (E + 1048576) * 9223372036854775808 := by
  have hb : blen m = 64 := blen_uniq (k := 63) (by omega) (by omega) (by omega)
  have hx : xp m E = E := by unfold xp; rw [hb]; omega
  have ht : tp m = m := by
    rw [tp_small (by omega), hb, Nat.sub_self, Nat.pow_zero, Nat.mul_one]
  unfold lo
  rw [if_neg (by omega), hx, if_neg (by omega), if_neg (by omega), ht]
theorem back_odd {m k t : Nat} {E F : Int} (hm : m = k * 2 ^ t) (h1 : 9223372036854775808 ≤ m) (h2 : m < 18446744073709551616) (h3 : -1048576 ≤ E) (h4 : E ≤ 1048576) (hF : F = E + (t : Nat)) : ext k F = true ∧ lo k F = lo m E := by
  have hb : blen m = 64 := blen_uniq (k := 63) (by omega) (by omega) (by omega)
  have hk : k ≠ 0 := fun e => by rw [e, Nat.zero_mul] at hm; omega
  have b1 := blen_mul hk t; rw [← hm, hb] at b1; refine ⟨?_, ?_⟩
  · have e0 : (k == 0) = false := by simpa using hk
    unfold ext xp
    rw [e0, Bool.false_or, decide_eq_true (by omega), decide_eq_true (by omega), decide_eq_true (by omega)]
    rfl
  · rw [hm, lo_mul hk, hF]
theorem back_fin {s : Bool} {M E : Int} (up : Bool) (g1 : 9223372036854775808 ≤ M) (hM : M < 18446744073709551616) (g2 : -1048576 ≤ E) (g3 : E ≤ 1048576) {z : Int} (hz : z.natAbs = M.toNat) (hs : decide (z < 0) = s) : rnd up (mk z E).1 (mk z E).2 = sgi s (M - 9223372036854775808 + 1 + (E + 1048576) * 9223372036854775808) := by
  have h0 : z ≠ 0 := by omega
  have hv := v2_pow_le (n := z.natAbs) (by omega)
  have hv2 : v2 z.natAbs < 64 := (Nat.pow_lt_pow_iff_right (a := 2) (by decide)).1 (show 2 ^ v2 z.natAbs < 2 ^ 64 by omega)
  obtain ⟨e1, e2, e3, e4, e5⟩ := mk_in (z := z) (e := E) h0 (by omega) (by omega)
  revert e1 e3 e4 e5
  generalize mk z E = p; obtain ⟨N, F⟩ := p
  intro e1 e3 e4 e5
  simp only at e1 e3 e4 e5 ⊢
  have ea : z.natAbs = N.natAbs * 2 ^ v2 z.natAbs := by
    have := congrArg Int.natAbs e5
    rwa [natAbs_mul_pow] at this
  obtain ⟨x1, x2⟩ := back_odd ea (by omega) (by omega) g2 g3 e1
  rw [rnd_ext x1, x2, lo_full (by omega) (by omega) g2 g3, show decide (N < 0) = s by rw [← hs]; simp only [e3], show ((z.natAbs : Nat) : Int) = M by omega]
theorem rnd_nought (up : Bool) : rnd up 0 0 = 0 := by
  rw [rnd_ext rfl]
  rfl
theorem rnd_back {D : Int} {s : Bool} {M E r : Int} (up : Bool) (q : Fq D s M E r) (hx : exb D s M E = true) : rnd up (exq D s M E).1 (exq D s M E).2 = r := by
  unfold exq
  rw [if_pos hx]; have hr := q.2.2
  rcases q.1 with ⟨rfl, rfl, rfl, rfl⟩ | ⟨rfl, g1, g2, g3⟩ | ⟨rfl, rfl, rfl⟩
  · obtain rfl : 0 = r := hr
    have e0 : sgi false 0 = 0 := if_neg (by decide)
    rw [e0, mk_zero]; exact rnd_nought up
  · have hM := q.2.1
    have hpl : plc 1 M E = M - 9223372036854775808 + 1 + (E + 1048576) * 9223372036854775808 := rfl
    rw [hpl] at hr; rw [← hr]; refine back_fin up g1 hM g2 g3 ?_ ?_
    · cases s
      · rw [show sgi false M = M from if_neg (by decide)]; omega
      · rw [show sgi true M = -M from if_pos rfl]; omega
    · cases s
      · rw [show sgi false M = M from if_neg (by decide)]; exact decide_eq_false (by omega)
      · rw [show sgi true M = -M from if_pos rfl]; exact decide_eq_true (by omega)
  · exact absurd hx (by unfold exb; simp)
def opl (n : Int) : Int := sgi (decide (n < 0)) (lo n.natAbs 0)
theorem opl_zero : opl 0 = 0 := rfl
theorem opl_vr {n : Int} (h1 : -9223372036854775808 ≤ n) (h2 : n ≤ 9223372036854775807) : vr (opl n) = n * 2 ^ KK := by
  by_cases h0 : n = 0
  · subst h0; rw [opl_zero, Int.zero_mul]
    rfl
  · have q := of_fq h0 h1 h2; have hs := of_shl h0 h1 h2; have a3 := blen_mono_le (n := n.natAbs) (k := 64) (by omega)
    have hr : _ = opl n := q.2.2
    have g := q.plc (by decide)
    rcases g with ⟨_, g1, g2, g3, g4, g5⟩ | ⟨g, _⟩
    · rw [← hr, vp_vr _ (by rw [g5]; omega), g5, vp_fin g1 g2 (by omega), ← hs, Int.mul_assoc, ← Int.pow_add, show (64 - (blen n.natAbs : Int)).toNat + (-(64 - (blen n.natAbs : Int)) + (KK : Int)).toNat = KK by rw [KK_eq]; omega, ← sgi_mul]
      congr 1
      by_cases hn : n < 0
      · rw [decide_eq_true hn]; show -(n.natAbs : Int) = n; omega
      · rw [decide_eq_false hn]; show (n.natAbs : Int) = n; omega
    · exact absurd g (by decide)
theorem opl_cmp {a b : Int} (h1 : -9223372036854775808 ≤ a) (h2 : a ≤ 9223372036854775807) (k1 : -9223372036854775808 ≤ b) (k2 : b ≤ 9223372036854775807) : cmpI (opl a) (opl b) = cmpI a b := by
  rw [← vr_cmp, opl_vr h1 h2, opl_vr k1 k2, cmpI_scale (p2pos KK)]
theorem sgi_not {n : Int} (h0 : n ≠ 0) (l : Int) : sgi (decide (-n < 0)) l = -sgi (decide (n < 0)) l := by
  by_cases hn : n < 0
  · rw [decide_eq_true hn, decide_eq_false (show ¬ -n < 0 by omega), show sgi false l = l from if_neg (by decide), show sgi true l = -l from if_pos rfl, Int.neg_neg]
  · rw [decide_eq_false hn, decide_eq_true (show -n < 0 by omega), show sgi false l = l from if_neg (by decide), show sgi true l = -l from if_pos rfl]
theorem opl_neg (n : Int) : opl (-n) = -opl n := by
  by_cases h0 : n = 0
  · rw [h0, Int.neg_zero, opl_zero, Int.neg_zero]
  · unfold opl
    rw [Int.natAbs_neg]; exact sgi_not h0 _
end Go.Proofs.YtpnmphofengoeaaGreatDoor

namespace Go.Proofs.YtpnmphofengoeaaGreatDoor
open Go.RowKit
set_option linter.unusedVariables false

def Dn (X r : Int) : Prop := -19342822337206103650074625 ≤ r ∧ r ≤ 19342822337206103650074624 ∧ (-19342822337206103650074625 < r → vr r ≤ X) ∧ (r < 19342822337206103650074624 → X < vr (r + 1))
def Up (X r : Int) : Prop := Dn (-X) (-r)
theorem Dn.mono {X Y r t : Int} (h : Dn X r) (k : Dn Y t) (hXY : X ≤ Y) : r ≤ t := by
  obtain ⟨h1, h2, h3, h4⟩ := h; obtain ⟨k1, k2, k3, k4⟩ := k
  rcases Int.lt_or_le t r with q | q
  · exfalso
    have a := h3 (by omega); have b := k4 (by omega)
    rcases Int.lt_or_eq_of_le (show t + 1 ≤ r by omega) with q | q
    · have := vr_lt q
      omega
    · rw [q] at b
      omega
  · exact q
theorem Dn.uniq {X r t : Int} (h : Dn X r) (k : Dn X t) : r = t := by
  have a := h.mono k (Int.le_refl _); have b := k.mono h (Int.le_refl _)
  omega
theorem Up.mono {X Y r t : Int} (h : Up X r) (k : Up Y t) (hXY : X ≤ Y) : r ≤ t := by
  have := Dn.mono k h (by omega)
  omega
theorem Up.uniq {X r t : Int} (h : Up X r) (k : Up X t) : r = t := by
  have := Dn.uniq h k
  omega
theorem dn_self {r : Int} (h1 : -19342822337206103650074625 < r) (h2 : r < 19342822337206103650074625) : Dn (vr r) r := ⟨by omega, by omega, fun _ => Int.le_refl _, fun _ => vr_succ r⟩
theorem up_self {r : Int} (h1 : -19342822337206103650074625 < r) (h2 : r < 19342822337206103650074625) : Up (vr r) r := by
  unfold Up
  rw [← vr_neg]; exact dn_self (by omega) (by omega)
theorem m_lt (m : Nat) {a b : Int} (ha : 0 ≤ a) (hb : 0 ≤ b) (h : (blen m : Int) + a ≤ b) : (m : Int) * 2 ^ a.toNat < 2 ^ b.toNat := by
  have h1 := Nat.mul_lt_mul_of_pos_right (blen_lt m) (Nat.pow_pos (n := a.toNat) (show 0 < 2 by decide))
  rw [← Nat.pow_add] at h1
  have h2 := Nat.lt_of_lt_of_le h1 (Nat.pow_le_pow_right (show 0 < 2 by decide) (show blen m + a.toNat ≤ b.toNat by omega))
  exact_mod_cast h2
theorem m_ge {m : Nat} (h0 : m ≠ 0) {a b : Int} (ha : 0 ≤ a) (hb : 0 ≤ b) (h : b ≤ (blen m : Int) - 1 + a) : (2 : Int) ^ b.toNat ≤ (m : Int) * 2 ^ a.toNat := by
  have hl : blen m ≠ 0 := fun e => h0 (blen_eq_zero.1 e)
  have h1 := Nat.mul_le_mul_right (2 ^ a.toNat) (blen_le h0); rw [← Nat.pow_add] at h1
  have h2 := Nat.le_trans (Nat.pow_le_pow_right (show 0 < 2 by decide) (show b.toNat ≤ blen m - 1 + a.toNat by omega)) h1
  exact_mod_cast h2
theorem vp_one : vp 1 = 2 ^ (63 - 1048576 + (KK : Int)).toNat := by
  have := vp_fin (M := 9223372036854775808) (E := -1048576) (by decide) (by decide) (by decide)
  rw [show (9223372036854775808 : Int) - 9223372036854775808 + 1 + (-1048576 + 1048576) * 9223372036854775808 = 1 by decide] at this
  rw [this, show (63 - 1048576 + (KK : Int)).toNat = 63 + (-1048576 + (KK : Int)).toNat by rw [KK_eq]; omega, Int.pow_add]
  rfl
theorem vp_top : vp 19342822337206103650074624 < 2 ^ (64 + 1048576 + (KK : Int)).toNat := by
  have := vp_fin (M := 18446744073709551615) (E := 1048576) (by decide) (by decide) (by decide)
  rw [show (18446744073709551615 : Int) - 9223372036854775808 + 1 + (1048576 + 1048576) * 9223372036854775808 = 19342822337206103650074624 by decide] at this
  rw [this, show (64 + 1048576 + (KK : Int)).toNat = 64 + (1048576 + (KK : Int)).toNat by rw [KK_eq]; omega, Int.pow_add]
  exact Int.mul_lt_mul_of_pos_right (by decide) (p2pos _)
theorem lo_dn {m : Nat} {E : Int} (h0 : m ≠ 0) (hE1 : -4194304 ≤ E) (hE2 : E ≤ 4194304) (ho : m % 2 = 1) : Dn ((m : Int) * 2 ^ (E + KK).toNat) (lo m E) ∧ Up ((m : Int) * 2 ^ (E + KK).toNat) (hi m E) ∧ 0 ≤ lo m E ∧ 0 ≤ hi m E := by
  have hk := KK_eq; obtain ⟨b1, b2⟩ := lo_bd m E
  have hl : blen m ≠ 0 := fun e => h0 (blen_eq_zero.1 e)
  have hx : xp m E = E + (blen m : Nat) - 64 := rfl
  have e0 : (m == 0) = false := by simpa using h0
  have hpos : 0 < (m : Int) * 2 ^ (E + KK).toNat := Int.mul_pos (by omega) (p2pos _)
  by_cases c1 : 1048576 < xp m E
  · have el : lo m E = 19342822337206103650074624 := by
      unfold lo
      rw [if_neg h0, if_pos c1]
    have ex : ext m E = false := by
      unfold ext
      rw [e0, decide_eq_false (show ¬ xp m E ≤ 1048576 by omega)]
      rfl
    have eh : hi m E = lo m E + 1 := by
      unfold hi
      rw [ex, if_neg (by decide)]
    have g := m_ge h0 (a := E + KK) (b := 64 + 1048576 + KK) (by omega) (by omega) (by omega); have ht := vp_top
    have ev : vr 19342822337206103650074624 = vp 19342822337206103650074624 := by
      unfold vr
      rw [if_neg (by decide)]
    rw [eh, el]
    refine ⟨⟨by decide, by decide, fun _ => by omega, fun h => absurd h (by decide)⟩, ⟨by decide, by decide, fun h => absurd h (by decide), fun _ => ?_⟩, by decide, by decide⟩
    have en : vr (-(19342822337206103650074624 + 1) + 1) = -vr 19342822337206103650074624 := vr_neg 19342822337206103650074624
    omega
  · by_cases c2 : xp m E < -1048576
    · have el : lo m E = 0 := by
        unfold lo
        rw [if_neg h0, if_neg c1, if_pos c2]
      have ex : ext m E = false := by
        unfold ext
        rw [e0, decide_eq_false (show ¬ -1048576 ≤ xp m E by omega)]
        simp
      have eh : hi m E = lo m E + 1 := by
        unfold hi
        rw [ex, if_neg (by decide)]
      have g := m_lt m (a := E + KK) (b := 63 - 1048576 + KK) (by omega) (by omega) (by omega); have h1 := vp_one
      have ev : vr 1 = vp 1 := by
        unfold vr
        rw [if_neg (by decide)]
      have ez : vr 0 = 0 := rfl
      rw [eh, el]
      have en : vr (-(0 + 1)) = -vr 1 := vr_neg 1
      refine ⟨⟨by decide, by decide, fun _ => by omega, fun _ => ?_⟩, ⟨by decide, by decide, fun _ => by omega, fun _ => ?_⟩, by decide, by decide⟩
      · rw [show (0 : Int) + 1 = 1 from rfl]
        omega
      · rw [show (-(0 + 1) + 1 : Int) = 0 from rfl]
        omega
    · obtain ⟨v1, v2, v3, v4⟩ := lo_vr (m := m) (E := E) h0 (by omega) (by omega) (by omega) ho
      revert v1 v2 v3 v4
      have hh : hi m E = if ext m E = true then lo m E else lo m E + 1 := rfl
      cases hx : ext m E
      · rw [hx, if_neg (by decide)] at hh; rw [hh]
        revert b1 b2
        generalize lo m E = l
        intro b1 b2 v1 v2 v3 v4
        have v5 := v4 rfl; have n1 := vr_neg (l + 1); have n2 := vr_neg l
        refine ⟨⟨by omega, by omega, fun _ => v1, fun _ => v2⟩, ⟨by omega, by omega, fun _ => by omega, fun _ => ?_⟩, b1, by omega⟩
        rw [show -(l + 1) + 1 = -l by omega]
        omega
      · rw [hx, if_pos rfl] at hh; rw [hh]
        revert b1 b2
        generalize lo m E = l
        intro b1 b2 v1 v2 v3 v4
        have v5 := v3 rfl; have n1 := vr_neg l; have n2 := vr_succ (-l)
        refine ⟨⟨by omega, by omega, fun _ => v1, fun _ => v2⟩, ⟨by omega, by omega, fun _ => by omega, fun _ => by omega⟩, b1, b1⟩
theorem up_of_dn {X r : Int} (h : Dn X r) : Up (-X) (-r) := by
  unfold Up
  rw [Int.neg_neg, Int.neg_neg]; exact h
theorem dn_of_up {X r : Int} (h : Up X r) : Dn (-X) (-r) := h
theorem rnd_spec {P : Int × Int} (hP : Nf P) : Dn (vl P) (rnd false P.1 P.2) ∧ Up (vl P) (rnd true P.1 P.2) := by
  rcases hP.cases with e | ⟨h0, ho, e1, e2⟩
  · subst e; rw [rnd_nought, rnd_nought, vl_zero]; have h := dn_self (r := 0) (by decide) (by decide); have k := up_self (r := 0) (by decide) (by decide)
    rw [show vr 0 = 0 from rfl] at h k
    exact ⟨h, k⟩
  · obtain ⟨d, u, _, _⟩ := lo_dn (m := P.1.natAbs) (E := P.2) (by omega) e1 e2 ho
    have hvl : vl P = P.1 * 2 ^ (P.2 + KK).toNat := rfl
    rcases Int.lt_or_lt_of_ne h0 with hn | hp
    · have hs : true = decide (P.1 < 0) := (decide_eq_true hn).symm
      have r1 := rnd_diff (E := P.2) hs; have r2 := rnd_same (up := true) (E := P.2) hs rfl
      rw [show (!true) = false from rfl] at r1
      have ev : vl P = -((P.1.natAbs : Int) * 2 ^ (P.2 + KK).toNat) := by
        rw [hvl, ← Int.neg_mul]
        congr 1
        omega
      have s1 : ∀ x, sgi true x = -x := fun x => if_pos rfl
      rw [r1, r2, ev, s1, s1]; exact ⟨dn_of_up u, up_of_dn d⟩
    · have hs : false = decide (P.1 < 0) := (decide_eq_false (by omega)).symm
      have r1 := rnd_same (up := false) (E := P.2) hs rfl; have r2 := rnd_diff (E := P.2) hs
      rw [show (!false) = true from rfl] at r2
      have ev : vl P = (P.1.natAbs : Int) * 2 ^ (P.2 + KK).toNat := by
        rw [hvl]
        congr 1
        omega
      have s1 : ∀ x, sgi false x = x := fun x => if_neg (by decide)
      rw [r1, r2, ev, s1, s1]; exact ⟨d, u⟩
theorem rnd_monoA {P Q : Int × Int} (hP : Nf P) (hQ : Nf Q) (h : vl P ≤ vl Q) (up : Bool) : rnd up P.1 P.2 ≤ rnd up Q.1 Q.2 := by
  cases up
  · exact (rnd_spec hP).1.mono (rnd_spec hQ).1 h
  · exact (rnd_spec hP).2.mono (rnd_spec hQ).2 h
end Go.Proofs.YtpnmphofengoeaaGreatDoor

namespace Go.Proofs.YtpnmphofengoeaaGreatDoor
open Go.RowKit
set_option linter.unusedVariables false

def ep (r : Int) : Int × Int := if r = 0 then (0, 0) else mk (sgi (decide (r < 0)) (((r.natAbs : Int) - 1) % 9223372036854775808 + 9223372036854775808)) (((r.natAbs : Int) - 1) / 9223372036854775808 - 1048576)
theorem exq_ep {D : Int} {s : Bool} {M E r : Int} (q : Fq D s M E r) (hx : exb D s M E = true) : exq D s M E = ep r := by
  unfold exq ep
  rw [if_pos hx]
  rcases q.cases with ⟨rfl, rfl, rfl, rfl, h0⟩ | ⟨rfl, h1, h2, h3, h4, ⟨rfl, h5⟩ | ⟨rfl, h5⟩⟩ | ⟨rfl, _⟩
  · rw [if_pos h0, show sgi false 0 = 0 from if_neg (by decide)]
    exact mk_zero 0
  · rw [if_neg (by omega), decide_eq_false (show ¬ r < 0 by omega)]
    congr 2
    · omega
    · omega
  · rw [if_neg (by omega), decide_eq_true (show r < 0 by omega)]
    congr 2
    · omega
    · omega
  · exact absurd hx (by unfold exb; simp)
theorem ep_nf (r : Int) : Nf (ep r) := by
  unfold ep
  split
  · exact mk_zero 0
  · exact mk_nf _ _
theorem fq_of {r : Int} (h1 : -19342822337206103650074625 < r) (h2 : r < 19342822337206103650074625) : ∃ D s M E, Fq D s M E r := by
  by_cases h0 : r = 0
  · exact ⟨0, false, 0, 0, h0 ▸ Fq.nought⟩
  · by_cases hn : r < 0
    · refine ⟨1, true, ((r.natAbs : Int) - 1) % 9223372036854775808 + 9223372036854775808, ((r.natAbs : Int) - 1) / 9223372036854775808 - 1048576, Fq.fin (by omega) (by omega) (by omega) (by omega) ?_⟩
      rw [show ∀ x, sgi true x = -x from fun x => if_pos rfl]
      omega
    · refine ⟨1, false, ((r.natAbs : Int) - 1) % 9223372036854775808 + 9223372036854775808, ((r.natAbs : Int) - 1) / 9223372036854775808 - 1048576, Fq.fin (by omega) (by omega) (by omega) (by omega) ?_⟩
      rw [show ∀ x, sgi false x = x from fun x => if_neg (by decide)]
      omega
theorem ep_vl {r : Int} (h1 : -19342822337206103650074625 < r) (h2 : r < 19342822337206103650074625) : vl (ep r) = vr r := by
  obtain ⟨D, s, M, E, q⟩ := fq_of h1 h2; obtain ⟨a, b⟩ := exq_vl q h1 h2; rw [← exq_ep q a, b]
theorem ep_neg (r : Int) : ep (-r) = ng (ep r) := by
  unfold ep
  by_cases h0 : r = 0
  · rw [if_pos (by omega), if_pos h0]
    rfl
  · rw [if_neg (by omega), if_neg h0, Int.natAbs_neg, sgi_not h0]; generalize sgi (decide (r < 0)) _ = z; exact mk_neg z _
theorem ep_fit (r : Int) (h1 : -19342822337206103650074625 < r) (h2 : r < 19342822337206103650074625) {h : Nat} (hh : 1048700 ≤ h) (hh2 : h ≤ 4194304) : Fit h (ep r) := by
  unfold ep
  by_cases h0 : r = 0
  · rw [if_pos h0]; exact Fit.zero h
  · rw [if_neg h0]; obtain ⟨M, hM⟩ : ∃ M, ((r.natAbs : Int) - 1) % 9223372036854775808 + 9223372036854775808 = M := ⟨_, rfl⟩; obtain ⟨E, hE⟩ : ∃ E, ((r.natAbs : Int) - 1) / 9223372036854775808 - 1048576 = E := ⟨_, rfl⟩; rw [hM, hE]; refine (mk_fit (z := sgi (decide (r < 0)) M) (e := E) (h := h) hh2 (by omega) ?_).1
    have ha : (sgi (decide (r < 0)) M).natAbs = M.toNat := by
      cases decide (r < 0)
      · rw [show sgi false M = M from if_neg (by decide)]; omega
      · rw [show sgi true M = -M from if_pos rfl]; omega
    rw [ha]
    have : M.toNat < 2 ^ 64 := by omega
    have := Nat.mul_lt_mul_of_pos_right this (Nat.pow_pos (n := (E + (h : Int)).toNat) (show 0 < 2 by decide))
    rw [← Nat.pow_add] at this; exact Nat.lt_of_lt_of_le this (Nat.pow_le_pow_right (by decide) (by omega))
def infp (x : Int) : Bool := x == TP || x == -TP
def addp (up : Bool) (x y : Int) : Int :=
  if infp x = true then (if infp y = true ∧ x ≠ y then sgi (!up) TP else x) else if infp y = true then y else rnd up (pl (ep x) (ep y)).1 (pl (ep x) (ep y)).2
def mulp (up : Bool) (x y : Int) : Int :=
  if x = 0 ∨ y = 0 then 0 else if infp x = true ∨ infp y = true then sgi (decide (x < 0) != decide (y < 0)) TP else rnd up (ml (ep x) (ep y)).1 (ml (ep x) (ep y)).2
theorem infp_false {x : Int} (h1 : -19342822337206103650074625 ≤ x) (h2 : x ≤ 19342822337206103650074625) (h : infp x = false) : -19342822337206103650074625 < x ∧ x < 19342822337206103650074625 := by
  unfold infp at h
  simp [TP_eq] at h
  omega
theorem infp_true {x : Int} (h : infp x = true) : x = 19342822337206103650074625 ∨ x = -19342822337206103650074625 := by
  unfold infp at h
  simp [TP_eq] at h
  omega
theorem sum_spec {x y : Int} (x1 : -19342822337206103650074625 < x) (x2 : x < 19342822337206103650074625) (y1 : -19342822337206103650074625 < y) (y2 : y < 19342822337206103650074625) : Nf (pl (ep x) (ep y)) ∧ vl (pl (ep x) (ep y)) = vr x + vr y := by
  obtain ⟨η, hη⟩ : ∃ η : Nat, η = 2000000 := ⟨_, rfl⟩; have f := ep_fit x x1 x2 (h := η) (by omega) (by omega); have g := ep_fit y y1 y2 (h := η) (by omega) (by omega); obtain ⟨a, b⟩ := pl_fit (by omega) f g; exact ⟨a.nf, by rw [b, ep_vl x1 x2, ep_vl y1 y2]⟩
theorem pro_spec {x y : Int} (x1 : -19342822337206103650074625 < x) (x2 : x < 19342822337206103650074625) (y1 : -19342822337206103650074625 < y) (y2 : y < 19342822337206103650074625) : Nf (ml (ep x) (ep y)) ∧ vl (ml (ep x) (ep y)) * 2 ^ KK = vr x * vr y := by
  obtain ⟨η, hη⟩ : ∃ η : Nat, η = 2000000 := ⟨_, rfl⟩; have f := ep_fit x x1 x2 (h := η) (by omega) (by omega); have g := ep_fit y y1 y2 (h := η) (by omega) (by omega); obtain ⟨a, b⟩ := ml_fit (by omega) f g; exact ⟨a.nf, by rw [b, ep_vl x1 x2, ep_vl y1 y2]⟩
theorem rnd_bd {P : Int × Int} (hP : Nf P) (up : Bool) : -19342822337206103650074625 ≤ rnd up P.1 P.2 ∧ rnd up P.1 P.2 ≤ 19342822337206103650074625 := by
  obtain ⟨a, b⟩ := rnd_spec hP
  cases up
  · have := a.1; have := a.2.1; omega
  · have := b.1; have := b.2.1; omega
theorem ff : ¬ (false = true) := Bool.false_ne_true
theorem addp_ff {x y : Int} (up : Bool) (hx : infp x = false) (hy : infp y = false) : addp up x y = rnd up (pl (ep x) (ep y)).1 (pl (ep x) (ep y)).2 := by
  unfold addp
  rw [hx, hy, if_neg ff, if_neg ff]
theorem addp_ft {x y : Int} (up : Bool) (hx : infp x = false) (hy : infp y = true) : addp up x y = y := by
  unfold addp
  rw [hx, hy, if_neg ff, if_pos rfl]
theorem addp_tf {x y : Int} (up : Bool) (hx : infp x = true) (hy : infp y = false) : addp up x y = x := by
  unfold addp
  rw [hx, hy, if_pos rfl, if_neg (fun c => ff c.1)]
theorem addp_same {x y : Int} (up : Bool) (hx : infp x = true) (h : x = y) : addp up x y = x := by
  unfold addp
  rw [hx, if_pos rfl, if_neg (fun c => c.2 h)]
theorem addp_diff {x y : Int} (up : Bool) (hx : infp x = true) (hy : infp y = true) (h : x ≠ y) : addp up x y = sgi (!up) TP := by
  unfold addp
  rw [hx, hy, if_pos rfl, if_pos ⟨rfl, h⟩]
theorem addp_comm {x y : Int} (up : Bool) : addp up x y = addp up y x := by
  cases hx : infp x <;> cases hy : infp y
  · rw [addp_ff up hx hy, addp_ff up hy hx, pl_comm (ep_nf x) (ep_nf y)]
  · rw [addp_ft up hx hy, addp_tf up hy hx]
  · rw [addp_tf up hx hy, addp_ft up hy hx]
  · by_cases h : x = y
    · rw [h]
    · rw [addp_diff up hx hy h, addp_diff up hy hx (fun e => h e.symm)]
theorem mulp_zero {x y : Int} (up : Bool) (h : x = 0 ∨ y = 0) : mulp up x y = 0 := by
  unfold mulp
  rw [if_pos h]
theorem mulp_inf {x y : Int} (up : Bool) (h : ¬ (x = 0 ∨ y = 0)) (hi : infp x = true ∨ infp y = true) : mulp up x y = sgi (decide (x < 0) != decide (y < 0)) TP := by
  unfold mulp
  rw [if_neg h, if_pos hi]
theorem mulp_fin {x y : Int} (up : Bool) (h : ¬ (x = 0 ∨ y = 0)) (hi : ¬ (infp x = true ∨ infp y = true)) : mulp up x y = rnd up (ml (ep x) (ep y)).1 (ml (ep x) (ep y)).2 := by
  unfold mulp
  rw [if_neg h, if_neg hi]
theorem mulp_comm {x y : Int} (up : Bool) : mulp up x y = mulp up y x := by
  by_cases h0 : x = 0 ∨ y = 0
  · rw [mulp_zero up h0, mulp_zero up h0.symm]
  · have h0' : ¬ (y = 0 ∨ x = 0) := fun c => h0 c.symm
    by_cases h1 : infp x = true ∨ infp y = true
    · rw [mulp_inf up h0 h1, mulp_inf up h0' h1.symm]
      cases decide (x < 0) <;> cases decide (y < 0) <;> rfl
    · rw [mulp_fin up h0 h1, mulp_fin up h0' (fun c => h1 c.symm), ml_comm (ep x) (ep y)]
theorem infp_neg (x : Int) : infp (-x) = infp x := by
  unfold infp
  rw [Bool.eq_iff_iff]
  simp
  omega
theorem addp_bd {x y : Int} (up : Bool) (x1 : -19342822337206103650074625 ≤ x) (x2 : x ≤ 19342822337206103650074625) (y1 : -19342822337206103650074625 ≤ y) (y2 : y ≤ 19342822337206103650074625) : -19342822337206103650074625 ≤ addp up x y ∧ addp up x y ≤ 19342822337206103650074625 := by
  have htp := TP_eq
  cases hx : infp x <;> cases hy : infp y
  · rw [addp_ff up hx hy]; exact rnd_bd (pl_nf (ep_nf x) (ep_nf y)) up
  · rw [addp_ft up hx hy]; exact ⟨y1, y2⟩
  · rw [addp_tf up hx hy]; exact ⟨x1, x2⟩
  · by_cases h : x = y
    · rw [addp_same up hx h]; exact ⟨x1, x2⟩
    · rw [addp_diff up hx hy h]
      cases up
      · rw [show sgi (!false) TP = -TP from if_pos rfl]; omega
      · rw [show sgi (!true) TP = TP from if_neg (by decide)]; omega
theorem addp_mono {x y z : Int} (up : Bool) (x1 : -19342822337206103650074625 ≤ x) (x2 : x ≤ 19342822337206103650074625) (y1 : -19342822337206103650074625 ≤ y) (y2 : y ≤ 19342822337206103650074625) (z1 : -19342822337206103650074625 ≤ z) (z2 : z ≤ 19342822337206103650074625) (h : x ≤ y) : addp up x z ≤ addp up y z := by
  have htp := TP_eq; obtain ⟨a1, a2⟩ := addp_bd up x1 x2 z1 z2; obtain ⟨b1, b2⟩ := addp_bd up y1 y2 z1 z2
  cases hz : infp z
  · cases hx : infp x
    · cases hy : infp y
      · obtain ⟨x3, x4⟩ := infp_false x1 x2 hx; obtain ⟨y3, y4⟩ := infp_false y1 y2 hy; obtain ⟨z3, z4⟩ := infp_false z1 z2 hz; obtain ⟨n1, v1⟩ := sum_spec x3 x4 z3 z4; obtain ⟨n2, v2⟩ := sum_spec y3 y4 z3 z4
        have hv : vr x ≤ vr y := by
          rcases Int.lt_or_eq_of_le h with q | q
          · exact Int.le_of_lt (vr_lt q)
          · rw [q]; exact Int.le_refl _
        rw [addp_ff up hx hz, addp_ff up hy hz]; exact rnd_monoA n1 n2 (by rw [v1, v2]; omega) up
      · have e : addp up y z = y := addp_tf up hy hz
        rcases infp_true hy with q | q
        · omega
        · have : x = y := by omega
          rw [this]; exact Int.le_refl _
    · have e : addp up x z = x := addp_tf up hx hz
      rcases infp_true hx with q | q
      · have : x = y := by omega
        rw [this]; exact Int.le_refl _
      · omega
  · have e : ∀ w, infp w = false → addp up w z = z := fun w hw => addp_ft up hw hz
    have e2 : ∀ w, infp w = true → w ≠ z → addp up w z = sgi (!up) TP := fun w hw hn => addp_diff up hw hz hn
    have e3 : addp up z z = z := addp_same up hz rfl
    have ts : sgi (!up) TP = TP ∨ sgi (!up) TP = -TP := by
      cases up
      · exact .inr (if_pos rfl)
      · exact .inl (if_neg (by decide))
    have hz2 := infp_true hz
    by_cases hxz : x = z
    · rw [hxz, e3]
      by_cases hyz : y = z
      · rw [hyz, e3]; exact Int.le_refl _
      · cases hy : infp y
        · rw [e y hy]; exact Int.le_refl _
        · have hy2 := infp_true hy; rw [e2 y hy hyz]
          omega
    · by_cases hyz : y = z
      · rw [hyz, e3]
        cases hx : infp x
        · rw [e x hx]; exact Int.le_refl _
        · have hx2 := infp_true hx; rw [e2 x hx hxz]
          omega
      · cases hx : infp x
        · have hx2 := infp_false x1 x2 hx; rw [e x hx]
          cases hy : infp y
          · rw [e y hy]; exact Int.le_refl _
          · have hy2 := infp_true hy; rw [e2 y hy hyz]
            omega
        · have hx2 := infp_true hx
          cases hy : infp y
          · have hy2 := infp_false y1 y2 hy; rw [e y hy, e2 x hx hxz]
            omega
          · rw [e2 x hx hxz, e2 y hy hyz]; exact Int.le_refl _
end Go.Proofs.YtpnmphofengoeaaGreatDoor

namespace Go.Proofs.YtpnmphofengoeaaGreatDoor
open Go.RowKit
set_option linter.unusedVariables false

theorem vr_le {x y : Int} (h : x ≤ y) : vr x ≤ vr y := by
  rcases Int.lt_or_eq_of_le h with q | q
  · exact Int.le_of_lt (vr_lt q)
  · rw [q]; exact Int.le_refl _
theorem rnd_ep {r : Int} (up : Bool) (h1 : -19342822337206103650074625 < r) (h2 : r < 19342822337206103650074625) : rnd up (ep r).1 (ep r).2 = r := by
  obtain ⟨D, s, M, E, q⟩ := fq_of h1 h2; obtain ⟨a, _⟩ := exq_vl q h1 h2; rw [← exq_ep q a]; exact rnd_back up q a
theorem ep_zero : ep 0 = (0, 0) := if_pos rfl
theorem infp_zero : infp 0 = false := by decide
theorem addp_zero {x : Int} (up : Bool) (x1 : -19342822337206103650074625 ≤ x) (x2 : x ≤ 19342822337206103650074625) : addp up x 0 = x := by
  cases hx : infp x
  · obtain ⟨x3, x4⟩ := infp_false x1 x2 hx; rw [addp_ff up hx infp_zero, ep_zero]
    have : pl (ep x) (0, 0) = ep x := by
      unfold pl
      by_cases h : (ep x).1 = 0
      · rw [if_pos h]; exact ((ep_nf x).zero h).symm
      · rw [if_neg h, if_pos rfl]
    rw [this]; exact rnd_ep up x3 x4
  · exact addp_tf up hx infp_zero
theorem addp_self {x : Int} (up : Bool) (x1 : -19342822337206103650074625 < x) (x2 : x < 19342822337206103650074625) : addp up x (-x) = 0 := by
  have i1 : infp x = false := by
    cases h : infp x
    · rfl
    · have := infp_true h; omega
  obtain ⟨n, v⟩ := sum_spec x1 x2 (show -19342822337206103650074625 < -x by omega) (show -x < 19342822337206103650074625 by omega)
  rw [addp_ff up i1 (by rw [infp_neg]; exact i1)]; rw [vr_neg] at v
  have hv : vl (pl (ep x) (ep (-x))) = 0 := by rw [v]; omega
  obtain ⟨a, b⟩ := rnd_spec n; rw [hv] at a b
  cases up
  · exact a.uniq (dn_self (r := 0) (by decide) (by decide))
  · exact b.uniq (up_self (r := 0) (by decide) (by decide))
end Go.Proofs.YtpnmphofengoeaaGreatDoor

namespace Go.Proofs.YtpnmphofengoeaaGreatDoor
open Go.RowKit
set_option linter.unusedVariables false

theorem opl_pos {n : Int} (h : 0 < n) (h1 : n ≤ 9223372036854775807) : 0 < opl n ∧ opl n < 19342822337206103650074625 := by
  have e : opl n = lo n.natAbs 0 := by
    unfold opl
    rw [decide_eq_false (show ¬ n < 0 by omega)]
    exact if_neg (by decide)
  have hc := opl_cmp (a := n) (b := 0) (by omega) h1 (by decide) (by decide); rw [opl_zero, cmpI_gt h] at hc
  have := (lo_bd n.natAbs 0).2
  rw [← e] at this; refine ⟨?_, by omega⟩
  rcases cmpI_tri (opl n) 0 with ⟨a, b⟩ | ⟨a, b⟩ | ⟨a, b⟩
  · rw [b] at hc; exact absurd hc (by decide)
  · rw [b] at hc; exact absurd hc (by decide)
  · exact a
theorem infp_fin {x : Int} (h1 : -19342822337206103650074625 < x) (h2 : x < 19342822337206103650074625) : infp x = false := by
  cases h : infp x
  · rfl
  · have := infp_true h; omega
end Go.Proofs.YtpnmphofengoeaaGreatDoor

namespace Go.Proofs.YtpnmphofengoeaaGreatDoor
open Go.RowKit
set_option linter.unusedVariables false

def hlf : Int := 9670816261106674691997697
end Go.Proofs.YtpnmphofengoeaaGreatDoor

namespace Go.Proofs.YtpnmphofengoeaaGreatDoor
open Go.RowKit
set_option linter.unusedVariables false

abbrev Sp := Option (Int × Int)
def mkI (a b : Int) : Sp := if a ≤ b ∧ a < 19342822337206103650074625 ∧ -19342822337206103650074625 < b then some (a, b) else none
def SpOk : Sp → Prop
  | none => True
  | some (a, b) => -19342822337206103650074625 ≤ a ∧ a ≤ b ∧ b ≤ 19342822337206103650074625 ∧ a < 19342822337206103650074625 ∧ -19342822337206103650074625 < b
theorem mkI_some {a b : Int} (h : a ≤ b) (h1 : a < 19342822337206103650074625) (h2 : -19342822337206103650074625 < b) : mkI a b = some (a, b) := by
  unfold mkI
  rw [if_pos ⟨h, h1, h2⟩]
theorem mkI_none {a b : Int} (h : ¬ (a ≤ b ∧ a < 19342822337206103650074625 ∧ -19342822337206103650074625 < b)) : mkI a b = none := by
  unfold mkI
  rw [if_neg h]
theorem mkI_ok {a b : Int} (h1 : -19342822337206103650074625 ≤ a) (h2 : b ≤ 19342822337206103650074625) : SpOk (mkI a b) := by
  by_cases h : a ≤ b ∧ a < 19342822337206103650074625 ∧ -19342822337206103650074625 < b
  · rw [mkI_some h.1 h.2.1 h.2.2]; exact ⟨h1, h.1, h2, h.2.1, h.2.2⟩
  · rw [mkI_none h]; exact trivial
theorem SpOk.mk {a b : Int} (h : SpOk (some (a, b))) : mkI a b = some (a, b) := mkI_some h.2.1 h.2.2.2.1 h.2.2.2.2
def meetI : Sp → Sp → Sp
  | some (a, b), some (c, d) => mkI (max a c) (min b d)
  | _, _ => none
def allI : Sp := some (-19342822337206103650074625, 19342822337206103650074625)
def witI : Sp → Sp → Bool
  | none, _ => true
  | some _, none => false
  | some (a, b), some (c, d) => decide (c ≤ a) && decide (b ≤ d)
def clp (m a b : Int) : Int := if m < a then a else if b < m then b else m
def midI : Sp → Int
  | none => 0
  | some (a, b) => if a = -19342822337206103650074625 ∧ b = 19342822337206103650074625 then 0 else if a = -19342822337206103650074625 then b else if b = 19342822337206103650074625 then a else clp (mulp false (addp false a b) hlf) a b
def widI : Sp → Int
  | none => 0
  | some (a, b) => addp true b (-a)
def loI (x : Sp) : Sp := match x with
  | none => none
  | some (a, b) => mkI a (midI (some (a, b)))
def hiI (x : Sp) : Sp := match x with
  | none => none
  | some (a, b) => mkI (midI (some (a, b))) b
def meetL (l : List Sp) : Sp := l.foldl meetI allI
theorem meetI_none (x : Sp) : meetI x none = none := by cases x <;> rfl
theorem all_ok : SpOk allI := ⟨by decide, by decide, by decide, by decide, by decide⟩
theorem meet_cases (a b c d : Int) : (meetI (some (a, b)) (some (c, d)) = none ∧ ¬ (max a c ≤ min b d ∧ max a c < 19342822337206103650074625 ∧ -19342822337206103650074625 < min b d)) ∨ (meetI (some (a, b)) (some (c, d)) = some (max a c, min b d) ∧ max a c ≤ min b d) := by
  by_cases h : max a c ≤ min b d ∧ max a c < 19342822337206103650074625 ∧ -19342822337206103650074625 < min b d
  · exact .inr ⟨mkI_some h.1 h.2.1 h.2.2, h.1⟩
  · exact .inl ⟨mkI_none h, h⟩
theorem meet_comm (x y : Sp) : meetI x y = meetI y x := by
  rcases x with _ | ⟨a, b⟩
  · rw [meetI_none]; rfl
  · rcases y with _ | ⟨c, d⟩
    · rfl
    · show mkI _ _ = mkI _ _
      rw [show max a c = max c a by omega, show min b d = min d b by omega]
theorem wit_is_meet {x y : Sp} (hx : SpOk x) (hy : SpOk y) : witI x y = true ↔ meetI x y = x := by
  rcases x with _ | ⟨a, b⟩
  · exact ⟨fun _ => rfl, fun _ => rfl⟩
  · rcases y with _ | ⟨c, d⟩
    · exact ⟨fun h => (by cases h), fun h => (by cases h)⟩
    · obtain ⟨h1, h2, h3, h4, h5⟩ := hx; obtain ⟨k1, k2, k3, k4, k5⟩ := hy
      rcases meet_cases a b c d with ⟨e, h⟩ | ⟨e, h⟩ <;> rw [e] <;> simp [witI] <;> omega
theorem meet_all {x : Sp} (hx : SpOk x) : meetI allI x = x := by
  rw [meet_comm]; refine (wit_is_meet hx all_ok).1 ?_
  rcases x with _ | ⟨a, b⟩
  · rfl
  · obtain ⟨h1, h2, h3, h4, h5⟩ := hx
    simp [witI, allI]
    omega
end Go.Proofs.YtpnmphofengoeaaGreatDoor

namespace Go.Proofs.YtpnmphofengoeaaGreatDoor
open Go.RowKit
set_option linter.unusedVariables false

theorem wsg_f (x : Int) : sgi false x = x := if_neg (by decide)
theorem wsg_t (x : Int) : sgi true x = -x := if_pos rfl
theorem Dn.sep {A B a b r : Int} (h : Dn A r) (hA1 : a < A) (hA2 : A < b) (hB1 : a < B) (hB2 : B < b) (hs : ∀ s, ¬ (a < vr s ∧ vr s < b)) : Dn B r := by
  obtain ⟨h1, h2, h3, h4⟩ := h
  refine ⟨h1, h2, fun k => ?_, fun k => ?_⟩
  · have := h3 k
    have := hs r
    omega
  · have := h4 k
    have := hs (r + 1)
    omega
theorem sep_rnd {P Q : Int × Int} (up : Bool) (hP : Nf P) (hQ : Nf Q) {a b : Int} (hA1 : a < vl P) (hA2 : vl P < b) (hB1 : a < vl Q) (hB2 : vl Q < b) (hs : ∀ s, ¬ (a < vr s ∧ vr s < b)) : rnd up P.1 P.2 = rnd up Q.1 Q.2 := by
  obtain ⟨p1, p2⟩ := rnd_spec hP; obtain ⟨q1, q2⟩ := rnd_spec hQ
  cases up
  · exact (p1.sep hA1 hA2 hB1 hB2 hs).uniq q1
  · refine Up.uniq (X := vl Q) ?_ q2
    refine Dn.sep (a := -b) (b := -a) p2 (by omega) (by omega) (by omega) (by omega) (fun s => ?_)
    have := hs (-s)
    rw [vr_neg] at this
    omega
theorem eq_rnd {P Q : Int × Int} (up : Bool) (hP : Nf P) (hQ : Nf Q) (h : vl P = vl Q) : rnd up P.1 P.2 = rnd up Q.1 Q.2 := by
  have a := rnd_monoA hP hQ (Int.le_of_eq h) up; have b := rnd_monoA hQ hP (Int.le_of_eq h.symm) up; exact Int.le_antisymm a b
theorem sep_sgi {P Q : Int × Int} {s : Bool} {A B a b : Int} (up : Bool) (hP : Nf P) (hQ : Nf Q) (eP : vl P = sgi s A) (eQ : vl Q = sgi s B) (hA1 : a < A) (hA2 : A < b) (hB1 : a < B) (hB2 : B < b) (hs : ∀ s, ¬ (a < vr s ∧ vr s < b)) : rnd up P.1 P.2 = rnd up Q.1 Q.2 := by
  cases s
  · rw [wsg_f] at eP eQ; exact sep_rnd up hP hQ (a := a) (b := b) (by omega) (by omega) (by omega) (by omega) hs
  · rw [wsg_t] at eP eQ
    refine sep_rnd up hP hQ (a := -b) (b := -a) (by omega) (by omega) (by omega) (by omega) (fun t => ?_)
    have := hs (-t)
    rw [vr_neg] at this
    omega
theorem mk_vl {z e : Int} (h : z.natAbs < 2 ^ 128) (h1 : -3000000 ≤ e) (h2 : e ≤ 3000000) : vl (mk z e) = z * 2 ^ (e + KK).toNat := by
  obtain ⟨η, hη⟩ : ∃ η : Nat, η = 4000000 := ⟨_, rfl⟩; refine (mk_fit (h := η) (by omega) (by omega) ?_).2
  have := Nat.mul_lt_mul_of_pos_right h (Nat.pow_pos (n := (e + (η : Int)).toNat) (show 0 < 2 by decide))
  rw [← Nat.pow_add] at this; exact Nat.lt_of_lt_of_le this (Nat.pow_le_pow_right (by decide) (by omega))
theorem no_place {i : Int} {u : Nat} (hi : 21267647932558653966460912964485513216 ≤ i) (s : Int) : ¬ (2 * i * 2 ^ u < vr s ∧ vr s < (2 * i + 2) * 2 ^ u) := by
  rintro ⟨h1, h2⟩; have hu := p2pos u
  have hpos : 0 < vr s := Int.lt_of_le_of_lt (Int.mul_nonneg (by omega) (Int.le_of_lt hu)) h1
  have hs : 0 < s := by
    rcases Int.lt_or_le 0 s with q | q
    · exact q
    · exfalso
      have := vr_le q
      rw [show vr 0 = 0 from rfl] at this
      omega
  have e0 : vr s = ((s - 1) % 9223372036854775808 + 9223372036854775808) * 2 ^ ((s - 1) / 9223372036854775808 - 1048576 + KK).toNat := by
    unfold vr vp
    rw [if_neg (by omega), if_neg (by omega)]
  obtain ⟨M, hM⟩ : ∃ M, (s - 1) % 9223372036854775808 + 9223372036854775808 = M := ⟨_, rfl⟩; obtain ⟨t, ht⟩ : ∃ t, ((s - 1) / 9223372036854775808 - 1048576 + (KK : Int)).toNat = t := ⟨_, rfl⟩; rw [hM, ht] at e0
  have hMl : M < 18446744073709551616 := by omega
  rw [e0] at h1 h2; clear e0 hM ht hs hpos
  rcases Nat.lt_or_ge u t with q | q
  · obtain ⟨d, rfl⟩ : ∃ d, t = u + 1 + d := ⟨t - (u + 1), by omega⟩
    have e1 : M * 2 ^ (u + 1 + d) = M * 2 ^ d * 2 * 2 ^ u := by
      rw [Int.pow_add, Int.pow_succ]; generalize (2 : Int) ^ u = U; generalize (2 : Int) ^ d = D; rw [Int.mul_assoc M D 2, Int.mul_assoc M, Int.mul_comm U 2, Int.mul_comm (2 * U) D, Int.mul_assoc D 2 U]
    rw [e1] at h1 h2; have a1 := Int.lt_of_mul_lt_mul_right h1 (Int.le_of_lt hu); have a2 := Int.lt_of_mul_lt_mul_right h2 (Int.le_of_lt hu)
    omega
  · obtain ⟨d, rfl⟩ : ∃ d, u = t + d := ⟨u - t, by omega⟩
    have ht := p2pos t; have hd := p2pos d; rw [Int.pow_add] at h1
    have l1 : (2 : Int) ^ t * 1 ≤ 2 ^ t * 2 ^ d := Int.mul_le_mul_of_nonneg_left hd (Int.le_of_lt ht)
    rw [Int.mul_one] at l1
    have l2 : 2 * i * (2 : Int) ^ t ≤ 2 * i * (2 ^ t * 2 ^ d) := Int.mul_le_mul_of_nonneg_left l1 (by omega)
    have a1 := Int.lt_of_mul_lt_mul_right (Int.lt_of_le_of_lt l2 h1) (Int.le_of_lt ht)
    omega
def mvd (M : Int) (n : Nat) : Int := if n ≤ 64 then M * 2 ^ (64 - n) else if M % 2 ^ (n - 64) = 0 then M / 2 ^ (n - 64) else M / 2 ^ (n - 64) / 2 * 2 + 1
theorem p2_le {a b : Nat} (h : a ≤ b) : (2 : Int) ^ a ≤ 2 ^ b := by
  have := Nat.pow_le_pow_right (show 0 < 2 by decide) h
  exact_mod_cast this
theorem div_le_self {M p : Int} (h0 : 0 ≤ M) (hp : 0 < p) : 0 ≤ M / p ∧ M / p ≤ M := ⟨Int.ediv_nonneg h0 (Int.le_of_lt hp), Int.ediv_le_self _ h0⟩
theorem mvd_bd {M : Int} {n : Nat} (h0 : 0 ≤ M) (hM : M < 18446744073709551616) (hn : 1 ≤ n) : 0 ≤ mvd M n ∧ mvd M n ≤ M * 9223372036854775808 + 1 ∧ mvd M n < 170141183460469231731687303715884105728 ∧ (2 ≤ n → mvd M n < 85070591730234615865843651857942052864) := by
  unfold mvd
  by_cases h : n ≤ 64
  · rw [if_pos h]
    have l1 := p2_le (show 64 - n ≤ 63 by omega)
    have l0 := p2pos (64 - n); have a1 := Int.mul_le_mul_of_nonneg_left l1 h0
    rw [show (2 : Int) ^ 63 = 9223372036854775808 by decide] at a1
    refine ⟨Int.mul_nonneg h0 (Int.le_of_lt l0), by omega, by omega, fun h2 => ?_⟩
    have l2 := p2_le (show 64 - n ≤ 62 by omega)
    have a2 := Int.mul_le_mul_of_nonneg_left l2 h0
    rw [show (2 : Int) ^ 62 = 4611686018427387904 by decide] at a2
    omega
  · rw [if_neg h]; obtain ⟨b1, b2⟩ := div_le_self h0 (p2pos (n - 64))
    revert b1 b2
    generalize M / 2 ^ (n - 64) = q
    intro b1 b2
    by_cases hr : M % 2 ^ (n - 64) = 0
    · rw [if_pos hr]
      refine ⟨by omega, by omega, by omega, fun _ => by omega⟩
    · rw [if_neg hr]
      refine ⟨by omega, by omega, by omega, fun _ => by omega⟩
theorem fq_vr {s : Bool} {M E x : Int} (q : Fq 1 s M E x) : 9223372036854775808 ≤ M ∧ M < 18446744073709551616 ∧ -1048576 ≤ E ∧ E ≤ 1048576 ∧ -19342822337206103650074625 < x ∧ x < 19342822337206103650074625 ∧ x ≠ 0 ∧ vr x = sgi s (M * 2 ^ (E + KK).toNat) ∧ decide (x < 0) = s := by
  rcases q.cases with ⟨c, _⟩ | ⟨_, h1, h2, h3, h4, h5⟩ | ⟨c, _⟩
  · exact absurd c (by decide)
  · have hv := vp_fin h1 h2 h3
    have hx : x = sgi s (M - 9223372036854775808 + 1 + (E + 1048576) * 9223372036854775808) := by
      rcases h5 with ⟨rfl, h5⟩ | ⟨rfl, h5⟩
      · rw [wsg_f]; omega
      · rw [wsg_t]; omega
    have hw : vr x = sgi s (M * 2 ^ (E + KK).toNat) := by
      rw [hx, vp_vr s (by omega), hv]
    refine ⟨h1, h2, h3, h4, ?_, ?_, ?_, hw, ?_⟩
    · rcases h5 with ⟨_, h5⟩ | ⟨_, h5⟩ <;> omega
    · rcases h5 with ⟨_, h5⟩ | ⟨_, h5⟩ <;> omega
    · rcases h5 with ⟨_, h5⟩ | ⟨_, h5⟩ <;> omega
    · rcases h5 with ⟨rfl, h5⟩ | ⟨rfl, h5⟩
      · exact decide_eq_false (by omega)
      · exact decide_eq_true (by omega)
  · exact absurd c (by decide)
theorem sgi_add (s t : Bool) (x y : Int) : sgi s x + sgi t y = sgi s (x + sgi (s != t) y) := by
  cases s <;> cases t
  · rw [show (false != false) = false from rfl, wsg_f, wsg_f, wsg_f]
  · rw [show (false != true) = true from rfl, wsg_f, wsg_t, wsg_f]
  · rw [show (true != false) = true from rfl, wsg_t, wsg_f, wsg_t, wsg_t]; omega
  · rw [show (true != true) = false from rfl, wsg_t, wsg_t, wsg_f, wsg_t]; omega
theorem sgi_abs (s : Bool) {S : Int} (h : 0 ≤ S) : (sgi s S).natAbs = S.toNat := by
  cases s
  · rw [wsg_f]; omega
  · rw [wsg_t]; omega
theorem sum_wide {s1 s2 : Bool} {M1 M2 E1 E2 x y S : Int} {n : Nat} (up : Bool) (q1 : Fq 1 s1 M1 E1 x) (q2 : Fq 1 s2 M2 E2 y) (h : E2 < E1 ∨ E2 = E1 ∧ M2 ≤ M1) (hn : (n : Int) = E1 - E2 + 1) (hS : S = M1 * 9223372036854775808 + sgi (s1 != s2) (mvd M2 n)) :
    0 ≤ S ∧ S < 340282366920938463463374607431768211456 ∧ rnd up (mk (sgi s1 S) (E1 - 63)).1 (mk (sgi s1 S) (E1 - 63)).2 = addp up x y := by
  obtain ⟨a1, a2, a3, a4, a5, a6, a7, a8, a9⟩ := fq_vr q1; obtain ⟨b1, b2, b3, b4, b5, b6, b7, b8, b9⟩ := fq_vr q2; obtain ⟨m0, m1, m2, m3⟩ := mvd_bd (M := M2) (n := n) (by omega) b2 (by omega); have hk := KK_eq
  have hone : n = 1 → mvd M2 n = M2 * 9223372036854775808 := by
    rintro rfl
    unfold mvd
    rw [if_pos (by decide)]
    rfl
  have hS0 : 0 ≤ S ∧ S < 340282366920938463463374607431768211456 := by
    rw [hS]
    cases hs : s1 != s2
    · rw [wsg_f]; omega
    · rw [wsg_t]
      by_cases c : n = 1
      · have := hone c
        omega
      · have := m3 (by omega)
        omega
  refine ⟨hS0.1, hS0.2, ?_⟩; rw [addp_ff up (infp_fin a5 a6) (infp_fin b5 b6)]; obtain ⟨nf, ev⟩ := sum_spec a5 a6 b5 b6; have nfP := mk_nf (sgi s1 S) (E1 - 63); have evP := mk_vl (z := sgi s1 S) (e := E1 - 63) (by rw [sgi_abs s1 hS0.1]; omega) (by omega) (by omega); obtain ⟨u, hu⟩ : ∃ u : Nat, (E1 - 63 + (KK : Int)).toNat = u := ⟨_, rfl⟩; obtain ⟨v, hv⟩ : ∃ v : Nat, (E2 + (KK : Int)).toNat = v := ⟨_, rfl⟩
  have e1 : (E1 + (KK : Int)).toNat = 63 + u := by omega
  rw [hu] at evP
  rw [e1, Int.pow_add, show (2 : Int) ^ 63 = 9223372036854775808 by decide, ← Int.mul_assoc] at a8
  rw [hv] at b8; rw [a8, b8, sgi_add] at ev; rw [sgi_mul, hS, Int.add_mul, sgi_mul] at evP; rw [hS]; rw [hS] at nfP
  by_cases c : n ≤ 64
  · have e2 : mvd M2 n * 2 ^ u = M2 * 2 ^ v := by
      unfold mvd
      rw [if_pos c, Int.mul_assoc, ← Int.pow_add]
      congr 2
      omega
    exact eq_rnd up nfP nf (by rw [evP, ev, e2])
  · have ek : u = v + (n - 64) := by omega
    by_cases hr : M2 % 2 ^ (n - 64) = 0
    · have e2 : mvd M2 n * 2 ^ u = M2 * 2 ^ v := by
        unfold mvd
        rw [if_neg c, if_pos hr, ek, Int.pow_add, Int.mul_comm (2 ^ v), ← Int.mul_assoc]
        congr 1
        exact Int.ediv_mul_cancel (Int.dvd_of_emod_eq_zero hr)
      exact eq_rnd up nfP nf (by rw [evP, ev, e2])
    · have hm : mvd M2 n = M2 / 2 ^ (n - 64) / 2 * 2 + 1 := by
        unfold mvd
        rw [if_neg c, if_neg hr]
      have hd := Int.mul_ediv_add_emod M2 (2 ^ (n - 64)); have hp := p2pos (n - 64); have r0 := Int.emod_nonneg M2 (Int.ne_of_gt hp); have r1 := Int.emod_lt_of_pos M2 hp
      obtain ⟨d1, d2⟩ := div_le_self (show 0 ≤ M2 by omega) hp
      have hpv := p2pos v; have hpu := p2pos u; rw [hm] at evP nfP ⊢; rw [hm] at m0 m1; clear hone hS0 m2 m3 hS hm; generalize M2 % 2 ^ (n - 64) = r at hd r0 r1 hr; generalize M2 / 2 ^ (n - 64) = q at hd d1 d2 evP nfP m0 m1 ⊢
      have hU : (2 : Int) ^ u = 2 ^ (n - 64) * 2 ^ v := by rw [ek, Int.pow_add, Int.mul_comm]
      obtain ⟨j, hj⟩ : ∃ j, q / 2 = j := ⟨_, rfl⟩; rw [hj] at evP nfP m0 m1 ⊢
      -- the exact one lies between 2 j and 2 j + 2
      have y1 : 2 * j * 2 ^ u < M2 * 2 ^ v := by
        rw [hU, ← Int.mul_assoc]; refine Int.mul_lt_mul_of_pos_right ?_ hpv
        have l1 : 2 * j * 2 ^ (n - 64) ≤ q * 2 ^ (n - 64) := Int.mul_le_mul_of_nonneg_right (by omega) (Int.le_of_lt hp)
        rw [Int.mul_comm q] at l1
        omega
      have y2 : M2 * 2 ^ v < (2 * j + 2) * 2 ^ u := by
        rw [hU, ← Int.mul_assoc]; refine Int.mul_lt_mul_of_pos_right ?_ hpv
        have l1 : (q + 1) * 2 ^ (n - 64) ≤ (2 * j + 2) * 2 ^ (n - 64) := Int.mul_le_mul_of_nonneg_right (by omega) (Int.le_of_lt hp)
        rw [Int.add_mul, Int.one_mul, Int.mul_comm q] at l1
        omega
      have z1 : 2 * j * 2 ^ u < (j * 2 + 1) * 2 ^ u := Int.mul_lt_mul_of_pos_right (by omega) hpu
      have z2 : (j * 2 + 1) * 2 ^ u < (2 * j + 2) * 2 ^ u := Int.mul_lt_mul_of_pos_right (by omega) hpu
      revert y1 y2 z1 z2 ev evP
      generalize M2 * 2 ^ v = Y; generalize hZ : (j * 2 + 1) * 2 ^ u = Z
      intro ev evP y1 y2 z1 z2
      cases hs : s1 != s2
      · rw [hs] at ev evP nfP; rw [wsg_f] at ev nfP ⊢; rw [wsg_f, wsg_f] at evP
        have f1 : 2 * (M1 * 4611686018427387904 + j) * 2 ^ u = M1 * 9223372036854775808 * 2 ^ u + 2 * j * 2 ^ u := by rw [← Int.add_mul]; congr 1; omega
        have f2 : (2 * (M1 * 4611686018427387904 + j) + 2) * 2 ^ u = M1 * 9223372036854775808 * 2 ^ u + (2 * j + 2) * 2 ^ u := by rw [← Int.add_mul]; congr 1; omega
        refine sep_sgi up nfP nf evP ev (a := 2 * (M1 * 4611686018427387904 + j) * 2 ^ u) (b := (2 * (M1 * 4611686018427387904 + j) + 2) * 2 ^ u) ?_ ?_ ?_ ?_ (no_place (by omega))
        · rw [f1]; omega
        · rw [f2]; omega
        · rw [f1]; omega
        · rw [f2]; omega
      · rw [hs] at ev evP nfP; rw [wsg_t] at ev nfP ⊢; rw [wsg_t, wsg_t] at evP
        have f1 : 2 * (M1 * 4611686018427387904 - j - 1) * 2 ^ u = M1 * 9223372036854775808 * 2 ^ u - (2 * j + 2) * 2 ^ u := by rw [← Int.sub_mul]; congr 1; omega
        have f2 : (2 * (M1 * 4611686018427387904 - j - 1) + 2) * 2 ^ u = M1 * 9223372036854775808 * 2 ^ u - 2 * j * 2 ^ u := by rw [← Int.sub_mul]; congr 1; omega
        refine sep_sgi up nfP nf evP ev (a := 2 * (M1 * 4611686018427387904 - j - 1) * 2 ^ u) (b := (2 * (M1 * 4611686018427387904 - j - 1) + 2) * 2 ^ u) ?_ ?_ ?_ ?_ (no_place (by omega))
        · rw [f1]; omega
        · rw [f2]; omega
        · rw [f1]; omega
        · rw [f2]; omega
theorem pro_wide {s1 s2 : Bool} {M1 M2 E1 E2 x y : Int} (up : Bool) (q1 : Fq 1 s1 M1 E1 x) (q2 : Fq 1 s2 M2 E2 y) :
    0 ≤ M1 * M2 ∧ M1 * M2 < 340282366920938463463374607431768211456 ∧ rnd up (mk (sgi (s1 != s2) (M1 * M2)) (E1 + E2)).1 (mk (sgi (s1 != s2) (M1 * M2)) (E1 + E2)).2 = mulp up x y := by
  obtain ⟨a1, a2, a3, a4, a5, a6, a7, a8, a9⟩ := fq_vr q1; obtain ⟨b1, b2, b3, b4, b5, b6, b7, b8, b9⟩ := fq_vr q2; have hk := KK_eq
  have h0 : 0 ≤ M1 * M2 := Int.mul_nonneg (by omega) (by omega)
  have h1 : M1 * M2 < 340282366920938463463374607431768211456 := by
    have l1 : M1 * M2 ≤ 18446744073709551615 * M2 := Int.mul_le_mul_of_nonneg_right (by omega) (by omega)
    omega
  refine ⟨h0, h1, ?_⟩; rw [mulp_fin up (by omega) (by rw [infp_fin a5 a6, infp_fin b5 b6]; simp)]; obtain ⟨nf, ev⟩ := pro_spec a5 a6 b5 b6; have nfP := mk_nf (sgi (s1 != s2) (M1 * M2)) (E1 + E2); have evP := mk_vl (z := sgi (s1 != s2) (M1 * M2)) (e := E1 + E2) (by rw [sgi_abs _ h0]; omega) (by omega) (by omega); refine eq_rnd up nfP nf ?_; refine Int.eq_of_mul_eq_mul_right (Int.ne_of_gt (p2pos KK)) ?_
  rw [ev, evP, a8, b8, Int.mul_assoc, ← Int.pow_add, show (E1 + E2 + (KK : Int)).toNat + KK = (E1 + (KK : Int)).toNat + (E2 + (KK : Int)).toNat by omega, Int.pow_add]
  generalize (2 : Int) ^ (E1 + (KK : Int)).toNat = U; generalize (2 : Int) ^ (E2 + (KK : Int)).toNat = V
  have e : ∀ a b : Int, a * b * (U * V) = a * U * (b * V) := fun a b => by
    rw [Int.mul_assoc, Int.mul_assoc, ← Int.mul_assoc b, Int.mul_comm b U, Int.mul_assoc U]
  cases s1 <;> cases s2
  · rw [show (false != false) = false from rfl, wsg_f, wsg_f, wsg_f]; exact e _ _
  · rw [show (false != true) = true from rfl, wsg_f, wsg_t, wsg_t, Int.neg_mul, Int.mul_neg]; rw [e]
  · rw [show (true != false) = true from rfl, wsg_f, wsg_t, wsg_t, Int.neg_mul, Int.neg_mul]; rw [e]
  · rw [show (true != true) = false from rfl, wsg_f, wsg_t, wsg_t, Int.neg_mul, Int.mul_neg, Int.neg_neg]; exact e _ _
end Go.Proofs.YtpnmphofengoeaaGreatDoor

namespace Go.Proofs.YtpnmphofengoeaaGreatDoor
open Go.RowKit
set_option linter.unusedVariables false

theorem raise_top {h l : Nat} (h0 : h ≠ 0) (hh : h < 18446744073709551616) :
    blen (h * 18446744073709551616 + l) = 64 + blen h ∨ 18446744073709551616 ≤ l := by
  rcases Nat.lt_or_ge l 18446744073709551616 with hl | hl
  · left
    have := blen_shift (h * 18446744073709551616 + l) 64 (by omega)
    rw [this]
    congr 2
    omega
  · exact .inr hl
def Ra (S : Nat) (F T K X : Int) : Prop := 0 ≤ T ∧ T < 18446744073709551616 ∧ 0 ≤ K ∧ K < 18446744073709551616 ∧ T = (tp S : Nat) ∧ (S ≠ 0 → X = xp S F ∧ (K = 0 ↔ tp S * 2 ^ blen S = S * 2 ^ 64))
theorem ra_low {l : Nat} {e : Int} (hl : l < 18446744073709551616) : Ra l (e - 64) ((l * 2 ^ (64 - blen l) : Nat) : Int) 0 (e - 64 - (64 - (blen l : Int))) := by
  have hb := blen_mono_le (n := l) (k := 64) hl; have ht := tp_small hb; have h2 := tp_lt l; rw [ht] at h2
  refine ⟨by omega, by omega, by omega, by omega, by rw [ht], fun h0 => ⟨by unfold xp; omega, fun _ => ?_, fun _ => rfl⟩⟩
  rw [ht, Nat.mul_assoc, ← Nat.pow_add]
  congr 2
  omega
theorem ra_high {h l : Nat} {e : Int} (h0 : h ≠ 0) (hh : h < 18446744073709551616) (hl : l < 18446744073709551616) :
    Ra (h * 18446744073709551616 + l) (e - 64) ((h * 2 ^ (64 - blen h) + l / 2 ^ blen h : Nat) : Int) ((l * 2 ^ (64 - blen h) % 18446744073709551616 : Nat) : Int) (e - (64 - (blen h : Int))) := by
  have hb := blen_mono_le (n := h) (k := 64) hh
  have hbs : blen (h * 18446744073709551616 + l) = 64 + blen h := by
    rcases raise_top (l := l) h0 hh with q | q
    · exact q
    · omega
  have hp : 0 < 2 ^ blen h := Nat.pow_pos (by decide)
  have hn : 2 ^ 64 = 2 ^ (64 - blen h) * 2 ^ blen h := by rw [← Nat.pow_add]; congr 1; omega
  have hn' : (18446744073709551616 : Nat) = 2 ^ blen h * 2 ^ (64 - blen h) := by rw [Nat.mul_comm, ← hn]
  have ht : tp (h * 18446744073709551616 + l) = h * 2 ^ (64 - blen h) + l / 2 ^ blen h := by
    unfold tp
    rw [hbs, Nat.pow_add, Nat.mul_comm (2 ^ 64) (2 ^ blen h), Nat.mul_div_mul_right _ _ (Nat.pow_pos (by decide)), hn', show h * (2 ^ blen h * 2 ^ (64 - blen h)) = 2 ^ blen h * (h * 2 ^ (64 - blen h)) by rw [← Nat.mul_assoc, Nat.mul_comm h, Nat.mul_assoc], Nat.mul_add_div hp]
  have hm : l * 2 ^ (64 - blen h) % 18446744073709551616 = l % 2 ^ blen h * 2 ^ (64 - blen h) := by
    rw [hn', Nat.mul_mod_mul_right]
  have ht2 := tp_lt (h * 18446744073709551616 + l)
  have hml := Nat.mod_lt (l * 2 ^ (64 - blen h)) (show 0 < 18446744073709551616 by decide)
  refine ⟨by omega, by omega, by omega, by omega, by rw [ht], fun _ => ⟨?_, ?_⟩⟩
  · unfold xp
    rw [hbs]
    omega
  · rw [hm, hbs, ht, Nat.pow_add, Nat.mul_comm (2 ^ 64) (2 ^ blen h), ← Nat.mul_assoc]; have hd := Nat.div_add_mod l (2 ^ blen h)
    have hS : h * 18446744073709551616 + l = (h * 2 ^ (64 - blen h) + l / 2 ^ blen h) * 2 ^ blen h + l % 2 ^ blen h := by
      rw [Nat.add_mul, Nat.mul_assoc h, ← hn, Nat.mul_comm (l / 2 ^ blen h), Nat.add_assoc, hd]
    rw [hS]
    have hp2 : 0 < 2 ^ (64 - blen h) := Nat.pow_pos (by decide)
    revert hS
    generalize (h * 2 ^ (64 - blen h) + l / 2 ^ blen h) * 2 ^ blen h = Z; generalize l % 2 ^ blen h = m
    intro _
    constructor
    · intro q
      have q1 : m * 2 ^ (64 - blen h) = 0 := by exact_mod_cast q
      have q2 : m = 0 := by
        rcases Nat.mul_eq_zero.1 q1 with c | c
        · exact c
        · omega
      rw [q2, Nat.add_zero]
    · intro q
      have q1 : Z = Z + m := Nat.eq_of_mul_eq_mul_right (show 0 < 2 ^ 64 by decide) q
      have q2 : m = 0 := by omega
      rw [q2, Nat.zero_mul]
      rfl
def exw (S : Nat) (F : Int) : Bool := S == 0 || (decide (xp S F ≤ 1048576) && (decide (-1048576 ≤ xp S F) && decide (tp S * 2 ^ blen S = S * 2 ^ 64)))
theorem exw_odd {m : Nat} (ho : m % 2 = 1) (t : Nat) (F : Int) : exw (m * 2 ^ t) F = ext m (F + t) := by
  have h0 : m ≠ 0 := by omega
  have h2 : m * 2 ^ t ≠ 0 := Nat.mul_ne_zero h0 (Nat.ne_of_gt (Nat.pow_pos (by decide)))
  have ex : xp (m * 2 ^ t) F = xp m (F + t) := by
    unfold xp
    rw [blen_mul h0]
    omega
  have e1 : (m * 2 ^ t == 0) = false := by simpa using h2
  have e2 : (m == 0) = false := by simpa using h0
  have e3 : (tp (m * 2 ^ t) * 2 ^ blen (m * 2 ^ t) = m * 2 ^ t * 2 ^ 64) ↔ blen m ≤ 64 := by
    rw [tp_mul h0, blen_mul h0, Nat.pow_add, ← Nat.mul_assoc, Nat.mul_right_comm m]
    constructor
    · intro q
      have q1 := Nat.eq_of_mul_eq_mul_right (Nat.pow_pos (n := t) (show 0 < 2 by decide)) q
      rcases Nat.lt_or_ge 64 (blen m) with c | c
      · exfalso
        rw [show 2 ^ blen m = 2 ^ (blen m - 65) * 2 * 2 ^ 64 by rw [← Nat.pow_succ, ← Nat.pow_add]; congr 1; omega, ← Nat.mul_assoc] at q1
        have q2 := Nat.eq_of_mul_eq_mul_right (show 0 < 2 ^ 64 by decide) q1
        rw [← Nat.mul_assoc] at q2
        omega
      · exact c
    · intro c
      rw [tp_small c, Nat.mul_assoc m, ← Nat.pow_add, show 64 - blen m + blen m = 64 by omega]
  unfold exw ext
  rw [ex, e1, e2, decide_eq_decide.2 e3]
theorem wide_rnd {S : Nat} {F N E : Int} {neg : Bool} (hS : S < 340282366920938463463374607431768211456) (h1 : -3000000 ≤ F) (h2 : F ≤ 3000000) (hN : (mk (sgi neg (S : Int)) F).1 = N) (hE : (mk (sgi neg (S : Int)) F).2 = E) :
    (exw S F = true → ∀ up, rnd up N E = sgi neg (lo S F)) ∧ rnd neg N E = sgi neg (lo S F) ∧ (exw S F = false → rnd (!neg) N E = nx (!neg) (sgi neg (lo S F))) := by
  by_cases h0 : S = 0
  · subst h0
    have e0 : sgi neg ((0 : Nat) : Int) = 0 := by cases neg <;> rfl
    rw [e0, mk_zero] at hN hE; subst hN; subst hE
    have e1 : sgi neg (lo 0 F) = 0 := by
      have : lo 0 F = 0 := by
        unfold lo
        rw [if_pos rfl]
      rw [this]
      cases neg <;> rfl
    have e2 : exw 0 F = true := by
      unfold exw
      rfl
    rw [e1, e2]
    exact ⟨fun _ up => rnd_nought up, rnd_nought neg, fun c => absurd c (by decide)⟩
  · have hab : (sgi neg (S : Int)).natAbs = S := by rw [sgi_abs neg (by omega)]; omega
    obtain ⟨s1, s2⟩ := v2_spec S h0
    have hv : v2 S < 128 := by
      have h3 := v2_pow_le h0
      have h4 : 2 ^ v2 S < 2 ^ 128 := by omega
      exact (Nat.pow_lt_pow_iff_right (by decide)).1 h4
    have hz : sgi neg (S : Int) ≠ 0 := by
      intro c
      rw [c] at hab; exact h0 hab.symm
    obtain ⟨m1, m2, m3, m4, m5⟩ := mk_in (z := sgi neg (S : Int)) (e := F) hz (by omega) (by rw [hab]; omega); rw [hab] at m1 m2; rw [hE] at m1; rw [hN] at m2 m3
    have hsn : neg = decide (N < 0) := by
      cases neg
      · rw [wsg_f] at m3; exact (decide_eq_false (by omega)).symm
      · rw [wsg_t] at m3; exact (decide_eq_true (by omega)).symm
    have hx : exw S F = ext N.natAbs E := by
      rw [m2, m1]
      conv => lhs; rw [s1]
      exact exw_odd s2 _ F
    have hl : lo S F = lo N.natAbs E := by
      rw [m2, m1]
      conv => lhs; rw [s1]
      exact lo_mul (by omega) _ F
    rw [hx, hl]
    refine ⟨fun c up => ?_, ?_, fun c => ?_⟩
    · rw [rnd_ext c, ← hsn]
    · exact rnd_same hsn rfl
    · rw [rnd_diff hsn, nx_lo neg c]
end Go.Proofs.YtpnmphofengoeaaGreatDoor

namespace Go.Proofs.YtpnmphofengoeaaGreatDoor
set_option maxHeartbeats 8000000
open Go.RowKit
set_option linter.unusedVariables false
set_option linter.unusedSimpArgs false
set_option maxRecDepth 100000

theorem gFair {w : World} {D M E : Int} {s : Bool} {r : Int} (hM : M < 18446744073709551616) (hr : rk D s M E = r) : Calls Tryz.prog 64 #[.agg #[.int .i64 D, .bool s, .int .u64 M, .int .i64 E]] w (PN w r) := by
  by_cases hm : MayQ D s M E
  · have HQ := rk_fq hM hm; rw [hr] at HQ
    have HC := Lib.hid (show decide (MayQ D s M E) = true from decide_eq_true hm)
    clear hm hr hM
    go_enter Tryz.func64, Tryz.ntmps64
    go_upto_region 1 with (fail)
    generalize hW1 : (w.alloc _).alloc _ = w1 at *; obtain ⟨X1, XR, HB⟩ := Bo.en2 hW1; clear hW1; have xX1 := X1.cell
    go_wp2_with fail
    refine (yMay HC.out).mono ?_; rintro ee w2 ⟨rfl, B⟩; clear xX1; replace X1 := X1.below B; replace XR := XR.below B; replace HB := Hqb HB B; clear B; have xXR := XR.cell; have zXR0 := XR.frozen; have xX1 := X1.cell; go_wp2; clear xXR zXR0 xX1; have SX := StN.mk4 XR (.int .i64 D) (.bool s) (.int .u64 M) (.int .i64 E)
    exact bodyPost_ret (by simp [results, Tryz.results64, go_sem, SX.box.cell]) rfl ⟨D, s, M, E, rfl, HQ, (SX.below HB.out (by omega))⟩
  · rw [rk_not hm] at hr; subst hr
    have HC := Lib.hid (show decide (MayQ D s M E) = false from decide_eq_false hm)
    clear hm hM
    go_enter Tryz.func64, Tryz.ntmps64
    go_upto_region 1 with (fail)
    generalize hW1 : (w.alloc _).alloc _ = w1 at *; obtain ⟨X1, XR, HB⟩ := Bo.en2 hW1; clear hW1; have xX1 := X1.cell
    go_wp2_with fail
    refine (yMay HC.out).mono ?_; rintro ee w2 ⟨rfl, B⟩; clear xX1; replace X1 := X1.below B; replace XR := XR.below B; replace HB := Hqb HB B; clear B; have xXR := XR.cell; have zXR0 := XR.frozen; have xX1 := X1.cell; go_wp2; clear xXR zXR0 xX1; have SX := StN.mk4 XR (.int .i64 0) (.bool false) (.int .u64 0) (.int .i64 0)
    exact bodyPost_ret (by simp [results, Tryz.results64, go_sem, SX.box.cell]) rfl ⟨_, _, _, _, rfl, Fq.nought, (SX.below HB.out (by omega))⟩
theorem fq_inf {D : Int} {s : Bool} {M E x : Int} (q : Fq D s M E x) : infp x = (D == 2) := by
  have htp := TP_eq
  rcases q.cases with ⟨rfl, rfl, rfl, rfl, h0⟩ | ⟨rfl, h1, h2, h3, h4, ⟨rfl, h5⟩ | ⟨rfl, h5⟩⟩ | ⟨rfl, rfl, rfl, ⟨rfl, h5⟩ | ⟨rfl, h5⟩⟩ <;> unfold infp <;> rw [Bool.eq_iff_iff] <;> simp <;> omega
theorem fq_fin {D : Int} {s : Bool} {M E x : Int} (q : Fq D s M E x) (h : D ≠ 2) : 0 ≤ M ∧ exb D s M E = true ∧ exq D s M E = ep x := by
  have hb : exb D s M E = true := by
    unfold exb
    rw [decide_eq_true q.1, Bool.true_and]
    simpa using h
  exact ⟨by rcases q.cases with ⟨_, _, h, _⟩ | ⟨_, h, _⟩ | ⟨_, h, _⟩ <;> omega, hb, exq_ep q hb⟩
theorem fq_same {s s' : Bool} {M M' E E' x y : Int} (q : Fq 2 s M E x) (q' : Fq 2 s' M' E' y) : x = y ↔ s = s' := by
  have htp := TP_eq
  rcases q.cases with ⟨h, _⟩ | ⟨h, _⟩ | ⟨_, rfl, rfl, ⟨rfl, h5⟩ | ⟨rfl, h5⟩⟩
  · omega
  · omega
  all_goals
    rcases q'.cases with ⟨h, _⟩ | ⟨h, _⟩ | ⟨_, rfl, rfl, ⟨rfl, k5⟩ | ⟨rfl, k5⟩⟩
    · omega
    · omega
    · constructor <;> intro e <;> first | rfl | omega | exact absurd e (by decide)
    · constructor <;> intro e <;> first | rfl | omega | exact absurd e (by decide)
theorem gAdd {w : World} {D D' M M' E E' : Int} {s s' : Bool} {up : Bool} {x y r : Int} (hM : M < 18446744073709551616) (hM' : M' < 18446744073709551616) (hx : rk D s M E = x) (hy : rk D' s' M' E' = y) (hne : infp x = false → infp y = false → Near (ep x) (ep y)) (hr : addp up x y = r) : Calls Tryz.prog 63 #[.agg #[.int .i64 D, .bool s, .int .u64 M, .int .i64 E], .agg #[.int .i64 D', .bool s', .int .u64 M', .int .i64 E'], .bool up] w (PN w r) := by
  have HX := Lib.hid hx; have HY := Lib.hid hy; clear hx hy
  go_enter Tryz.func63, Tryz.ntmps63
  go_upto_region 1 with (fail)
  generalize hW1 : ((w.alloc _).alloc _).alloc _ = w1 at *; obtain ⟨X1, X2, XR, HB⟩ := Bo.en3 hW1; clear hW1; have xX1 := X1.cell
  go_wp2_with fail
  refine (gFair hM HX.out).mono ?_; rintro ee w2 ⟨K1, s1, M1, E1, rfl, q1, B⟩; clear xX1; replace X1 := X1.below B; replace X2 := X2.below B; replace XR := XR.below B; replace HB := Hqb HB B; clear B
  go_upto_region 2 with (fail)
  have lX7 := Nat.le_refl (World.heap w2).size; have nX7X1 := X1.lt; have nX7X2 := X2.lt; have nX7XR := XR.lt; generalize hWn : w2.alloc _ = w3 at *; obtain ⟨X7, BW⟩ := Bo.nw hWn; clear hWn; replace X1 := X1.below BW; replace X2 := X2.below BW; replace XR := XR.below BW; replace HB := Hqb HB BW; clear BW; have xX2 := X2.cell
  go_wp2_with fail
  refine (gFair hM' HY.out).mono ?_; rintro ee w4 ⟨K2, s2, M2, E2, rfl, q2, B⟩; clear xX2; replace X1 := X1.below B; replace X2 := X2.below B; replace XR := XR.below B; replace X7 := X7.below B; replace HB := Hqb HB B; clear B
  go_upto_region 3 with (fail)
  have lX8 := Nat.le_refl (World.heap w4).size; have nX8X1 := X1.lt; have nX8X2 := X2.lt; have nX8XR := XR.lt; have nX8X7 := X7.lt; generalize hWn : w4.alloc _ = w5 at *; obtain ⟨X8, BW⟩ := Bo.nw hWn; clear hWn; replace X1 := X1.below BW; replace X2 := X2.below BW; replace XR := XR.below BW; replace X7 := X7.below BW; replace HB := Hqb HB BW; clear BW; clear lX7 lX8; have i1 := fq_inf q1
  have i2 := fq_inf q2
  by_cases k1 : K1 = 2
  · subst k1
    have j1 : infp x = true := i1
    by_cases k2 : K2 = 2
    · subst k2
      have j2 : infp y = true := i2
      by_cases ks : s1 = s2
      · rw [addp_same up j1 ((fq_same q1 q2).2 ks)] at hr; subst hr; subst ks; clear i1 i2 j1 j2 q2; have xXR := XR.cell; have zXR0 := XR.frozen; have xX7 := X7.cell; have xX8 := X8.cell; go_wp2; clear xXR zXR0 xX7 xX8; have SX := StN.mk4 XR (.int .i64 2) (.bool s1) (.int .u64 M1) (.int .i64 E1)
        exact bodyPost_ret (by simp [results, Tryz.results63, go_sem, SX.box.cell]) rfl ⟨_, _, _, _, rfl, q1, (SX.below HB.out (by omega))⟩
      · rw [addp_diff up j1 j2 (fun e => ks ((fq_same q1 q2).1 e))] at hr
        obtain rfl : (!s1) = s2 := by cases s1 <;> cases s2 <;> first | rfl | exact absurd rfl ks
        have e2 : (s1 == !s1) = false := by cases s1 <;> rfl
        have HRR := Lib.hid hr; clear i1 i2 j1 j2 q1 q2 hr ks; have xX7 := X7.cell; have xX8 := X8.cell
        go_wp2_with fail
        refine (yInf (s := !up) HRR.out).mono ?_; rintro ee w6 ⟨K3, s3, M3, E3, rfl, q3, B⟩; clear xX7 xX8; replace XR := XR.below B; replace X7 := X7.below B; replace X8 := X8.below B; replace HB := Hqb HB B; clear B; have xXR := XR.cell; have zXR0 := XR.frozen; go_wp2; clear xXR zXR0; have SX := StN.mk4 XR (.int .i64 K3) (.bool s3) (.int .u64 M3) (.int .i64 E3)
        exact bodyPost_ret (by simp [results, Tryz.results63, go_sem, SX.box.cell]) rfl ⟨_, _, _, _, rfl, q3, (SX.below HB.out (by omega))⟩
    · have e2 : (K2 == 2) = false := by simpa using k2
      rw [e2] at i2; rw [addp_tf up j1 i2] at hr; subst hr; clear i1 i2 j1 q2 k2; have xXR := XR.cell; have zXR0 := XR.frozen; have xX7 := X7.cell; have xX8 := X8.cell; go_wp2; clear xXR zXR0 xX7 xX8; have SX := StN.mk4 XR (.int .i64 2) (.bool s1) (.int .u64 M1) (.int .i64 E1); exact bodyPost_ret (by simp [results, Tryz.results63, go_sem, SX.box.cell]) rfl ⟨_, _, _, _, rfl, q1, (SX.below HB.out (by omega))⟩
  · have e1 : (K1 == 2) = false := by simpa using k1
    rw [e1] at i1
    by_cases k2 : K2 = 2
    · subst k2
      have j2 : infp y = true := i2
      rw [addp_ft up i1 j2] at hr; subst hr; clear i1 i2 j2 q1 k1; have xXR := XR.cell; have zXR0 := XR.frozen; have xX7 := X7.cell; have xX8 := X8.cell; go_wp2; clear xXR zXR0 xX7 xX8; have SX := StN.mk4 XR (.int .i64 2) (.bool s2) (.int .u64 M2) (.int .i64 E2); exact bodyPost_ret (by simp [results, Tryz.results63, go_sem, SX.box.cell]) rfl ⟨_, _, _, _, rfl, q2, (SX.below HB.out (by omega))⟩
    · have e2 : (K2 == 2) = false := by simpa using k2
      rw [e2] at i2; rw [addp_ff up i1 i2] at hr; have hnear := hne i1 i2; clear hne i1 i2; obtain ⟨m1, b1, x1⟩ := fq_fin q1 k1; obtain ⟨m2, b2, x2⟩ := fq_fin q2 k2; obtain ⟨N1, hN1⟩ : ∃ N, (ep x).1 = N := ⟨_, rfl⟩; obtain ⟨F1, hF1⟩ : ∃ N, (ep x).2 = N := ⟨_, rfl⟩; obtain ⟨N2, hN2⟩ : ∃ N, (ep y).1 = N := ⟨_, rfl⟩; obtain ⟨F2, hF2⟩ : ∃ N, (ep y).2 = N := ⟨_, rfl⟩
      have g1 : mk N1 F1 = ep x := by rw [← hN1, ← hF1]; exact ep_nf x
      have g2 : mk N2 F2 = ep y := by rw [← hN2, ← hF2]; exact ep_nf y
      have HB1 := Lib.hid b1; have HB2 := Lib.hid b2
      have HN1 := Lib.hid (show (exq K1 s1 M1 E1).1 = N1 by rw [x1, hN1])
      have HF1 := Lib.hid (show (exq K1 s1 M1 E1).2 = F1 by rw [x1, hF1])
      have HN2 := Lib.hid (show (exq K2 s2 M2 E2).1 = N2 by rw [x2, hN2])
      have HF2 := Lib.hid (show (exq K2 s2 M2 E2).2 = F2 by rw [x2, hF2])
      obtain ⟨P, hP⟩ : ∃ P, pl (ep x) (ep y) = P := ⟨_, rfl⟩
      have hPn : mk P.1 P.2 = P := by rw [← hP]; exact pl_nf (ep_nf x) (ep_nf y)
      have HP1 := Lib.hid (show (pl (mk N1 F1) (mk N2 F2)).1 = P.1 by rw [g1, g2, hP])
      have HP2 := Lib.hid (show (pl (mk N1 F1) (mk N2 F2)).2 = P.2 by rw [g1, g2, hP])
      rw [hP] at hr
      have HRR := Lib.hid (show rnd up (mk P.1 P.2).1 (mk P.1 P.2).2 = r by rw [hPn]; exact hr)
      have HNE := Lib.hid (show Near (mk N1 F1) (mk N2 F2) by rw [g1, g2]; exact hnear)
      clear hnear; clear b1 b2 x1 x2 hN1 hF1 hN2 hF2 hP hPn hr g1 g2; have xX7 := X7.cell; have xX8 := X8.cell
      go_wp2_with fail
      refine (yExact0 m1 q1.top HB1.out HN1.out HF1.out).mono ?_; rintro ee w6 ⟨sa, Aa, na, ca, rfl, pa, ka, B⟩; clear xX7 xX8; replace XR := XR.below B; replace X7 := X7.below B; replace X8 := X8.below B; replace HB := Hqb HB B; clear B
      go_upto_region 10 with (fail)
      have lX9 := Nat.le_refl (World.heap w6).size; have nX9XR := XR.lt; have nX9X7 := X7.lt; have nX9X8 := X8.lt; generalize hWn : w6.alloc _ = w7 at *; obtain ⟨X9, BW⟩ := Bo.nw hWn; clear hWn; replace XR := XR.below BW; replace X7 := X7.below BW; replace X8 := X8.below BW; replace pa := pa.below BW; replace HB := Hqb HB BW; clear BW; have xX8 := X8.cell
      go_wp2_with fail
      refine (yExact0 m2 q2.top HB2.out HN2.out HF2.out).mono ?_; rintro ee w8 ⟨sb, Ab, nb, cb, rfl, pb, kb, B⟩; clear xX8; replace XR := XR.below B; replace X7 := X7.below B; replace X8 := X8.below B; replace X9 := X9.below B; replace pa := pa.below B; replace HB := Hqb HB B; clear B
      go_upto_region 11 with (fail)
      have lX11 := Nat.le_refl (World.heap w8).size; have nX11XR := XR.lt; have nX11X7 := X7.lt; have nX11X8 := X8.lt; have nX11X9 := X9.lt; generalize hWn : w8.alloc _ = w9 at *; obtain ⟨X11, BW⟩ := Bo.nw hWn; clear hWn; replace XR := XR.below BW; replace X7 := X7.below BW; replace X8 := X8.below BW; replace X9 := X9.below BW; replace pa := pa.below BW; replace pb := pb.below BW; replace HB := Hqb HB BW
      clear BW; clear lX9 lX11; have xX9 := X9.cell; have xX11 := X11.cell
      go_wp2_with fail
      refine (q3Two pa.wr pb.wr (by omega) (by omega) HNE.out HP1.out HP2.out).mono ?_; rintro ee w10 ⟨sc, Ac, nc, cc, rfl, pc, kc, B⟩; clear xX9 xX11; replace XR := XR.below B; replace X7 := X7.below B; replace X8 := X8.below B; replace X9 := X9.below B; replace X11 := X11.below B; replace pa := pa.below B; replace pb := pb.below B; replace HB := Hqb HB B; clear B
      go_wp2_with fail
      refine (yRound pc.wr (by omega) rfl rfl HRR.out).mono ?_; rintro ee w11 ⟨K3, s3, M3, E3, rfl, q3, B⟩; replace XR := XR.below B; replace X7 := X7.below B; replace X8 := X8.below B; replace X9 := X9.below B; replace X11 := X11.below B; replace pc := pc.below B; replace HB := Hqb HB B; clear B; have xXR := XR.cell; have zXR0 := XR.frozen; go_wp2; clear xXR zXR0
      have SX := StN.mk4 XR (.int .i64 K3) (.bool s3) (.int .u64 M3) (.int .i64 E3); exact bodyPost_ret (by simp [results, Tryz.results63, go_sem, SX.box.cell]) rfl ⟨_, _, _, _, rfl, q3, (SX.below HB.out (by omega))⟩
theorem gMul {w : World} {D D' M M' E E' : Int} {s s' : Bool} {up : Bool} {x y r : Int} (hM : M < 18446744073709551616) (hM' : M' < 18446744073709551616) (hx : rk D s M E = x) (hy : rk D' s' M' E' = y) (hr : mulp up x y = r) : Calls Tryz.prog 79 #[.agg #[.int .i64 D, .bool s, .int .u64 M, .int .i64 E], .agg #[.int .i64 D', .bool s', .int .u64 M', .int .i64 E'], .bool up] w (PN w r) := by
  have HX := Lib.hid hx; have HY := Lib.hid hy; clear hx hy
  go_enter Tryz.func79, Tryz.ntmps79
  go_upto_region 1 with (fail)
  generalize hW1 : ((w.alloc _).alloc _).alloc _ = w1 at *; obtain ⟨X1, X2, XR, HB⟩ := Bo.en3 hW1; clear hW1; have xX1 := X1.cell
  go_wp2_with fail
  refine (gFair hM HX.out).mono ?_; rintro ee w2 ⟨K1, s1, M1, E1, rfl, q1, B⟩; clear xX1; replace X1 := X1.below B; replace X2 := X2.below B; replace XR := XR.below B; replace HB := Hqb HB B; clear B
  go_upto_region 2 with (fail)
  have lX7 := Nat.le_refl (World.heap w2).size; have nX7X1 := X1.lt; have nX7X2 := X2.lt; have nX7XR := XR.lt; generalize hWn : w2.alloc _ = w3 at *; obtain ⟨X7, BW⟩ := Bo.nw hWn; clear hWn; replace X1 := X1.below BW; replace X2 := X2.below BW; replace XR := XR.below BW; replace HB := Hqb HB BW; clear BW; have xX2 := X2.cell
  go_wp2_with fail
  refine (gFair hM' HY.out).mono ?_; rintro ee w4 ⟨K2, s2, M2, E2, rfl, q2, B⟩; clear xX2; replace X1 := X1.below B; replace X2 := X2.below B; replace XR := XR.below B; replace X7 := X7.below B; replace HB := Hqb HB B; clear B
  go_upto_region 3 with (fail)
  have lX8 := Nat.le_refl (World.heap w4).size; have nX8X1 := X1.lt; have nX8X2 := X2.lt; have nX8XR := XR.lt; have nX8X7 := X7.lt; generalize hWn : w4.alloc _ = w5 at *; obtain ⟨X8, BW⟩ := Bo.nw hWn; clear hWn; replace X1 := X1.below BW; replace X2 := X2.below BW; replace XR := XR.below BW; replace X7 := X7.below BW; replace HB := Hqb HB BW; clear BW; clear lX7 lX8; have i1 := fq_inf q1
  have i2 := fq_inf q2; have z1 := q1.zero_iff; have z2 := q2.zero_iff
  by_cases k0 : K1 = 0
  · subst k0; rw [mulp_zero up (.inl (z1.1 rfl))] at hr; subst hr; clear i1 i2 z1 z2 q1 q2; have xXR := XR.cell; have zXR0 := XR.frozen; have xX7 := X7.cell; have xX8 := X8.cell; go_wp2; clear xXR zXR0 xX7 xX8; have SX := StN.mk4 XR (.int .i64 0) (.bool false) (.int .u64 0) (.int .i64 0); exact bodyPost_ret (by simp [results, Tryz.results79, go_sem, SX.box.cell]) rfl ⟨_, _, _, _, rfl, Fq.nought, (SX.below HB.out (by omega))⟩
  · have e0 : (K1 == 0) = false := by simpa using k0
    by_cases l0 : K2 = 0
    · subst l0; rw [mulp_zero up (.inr (z2.1 rfl))] at hr; subst hr; clear i1 i2 z1 z2 q1 q2; have xXR := XR.cell; have zXR0 := XR.frozen; have xX7 := X7.cell; have xX8 := X8.cell; go_wp2; clear xXR zXR0 xX7 xX8; have SX := StN.mk4 XR (.int .i64 0) (.bool false) (.int .u64 0) (.int .i64 0)
      exact bodyPost_ret (by simp [results, Tryz.results79, go_sem, SX.box.cell]) rfl ⟨_, _, _, _, rfl, Fq.nought, (SX.below HB.out (by omega))⟩
    · have f0 : (K2 == 0) = false := by simpa using l0
      have hnz : ¬ (x = 0 ∨ y = 0) := fun c => c.elim (fun c => k0 (z1.2 c)) (fun c => l0 (z2.2 c))
      have sx : decide (x < 0) = s1 := by
        rcases q1.three with ⟨a, _⟩ | ⟨_, rfl, b⟩ | ⟨_, rfl, b⟩
        · exact absurd a k0
        · exact decide_eq_false (by omega)
        · exact decide_eq_true b
      have sy : decide (y < 0) = s2 := by
        rcases q2.three with ⟨a, _⟩ | ⟨_, rfl, b⟩ | ⟨_, rfl, b⟩
        · exact absurd a l0
        · exact decide_eq_false (by omega)
        · exact decide_eq_true b
      clear z1 z2
      by_cases k1 : K1 = 2
      · subst k1
        have j1 : infp x = true := i1
        rw [mulp_inf up hnz (.inl j1), sx, sy] at hr; have HRR := Lib.hid hr; clear i1 i2 j1 q1 q2 hr k0 l0 sx sy hnz; have xX7 := X7.cell; have xX8 := X8.cell
        go_wp2_with fail
        refine (yInf (s := s1 != s2) HRR.out).mono ?_; rintro ee w6 ⟨K3, s3, M3, E3, rfl, q3, B⟩; clear xX7 xX8; replace XR := XR.below B; replace X7 := X7.below B; replace X8 := X8.below B; replace HB := Hqb HB B; clear B; have xXR := XR.cell; have zXR0 := XR.frozen; go_wp2; clear xXR zXR0; have SX := StN.mk4 XR (.int .i64 K3) (.bool s3) (.int .u64 M3) (.int .i64 E3)
        exact bodyPost_ret (by simp [results, Tryz.results79, go_sem, SX.box.cell]) rfl ⟨_, _, _, _, rfl, q3, (SX.below HB.out (by omega))⟩
      · by_cases k2 : K2 = 2
        · subst k2
          have e1 : (K1 == 2) = false := by simpa using k1
          have j2 : infp y = true := i2
          rw [mulp_inf up hnz (.inr j2), sx, sy] at hr; have HRR := Lib.hid hr; clear i1 i2 j2 q1 q2 hr k0 l0 k1 sx sy hnz; have xX7 := X7.cell; have xX8 := X8.cell
          go_wp2_with fail
          refine (yInf (s := s1 != s2) HRR.out).mono ?_; rintro ee w6 ⟨K3, s3, M3, E3, rfl, q3, B⟩; clear xX7 xX8; replace XR := XR.below B; replace X7 := X7.below B; replace X8 := X8.below B; replace HB := Hqb HB B; clear B; have xXR := XR.cell; have zXR0 := XR.frozen; go_wp2; clear xXR zXR0; have SX := StN.mk4 XR (.int .i64 K3) (.bool s3) (.int .u64 M3) (.int .i64 E3)
          exact bodyPost_ret (by simp [results, Tryz.results79, go_sem, SX.box.cell]) rfl ⟨_, _, _, _, rfl, q3, (SX.below HB.out (by omega))⟩
        · have e1 : (K1 == 2) = false := by simpa using k1
          have e2 : (K2 == 2) = false := by simpa using k2
          rw [e1] at i1; rw [e2] at i2; rw [mulp_fin up hnz (by rw [i1, i2]; simp)] at hr; clear i1 i2 sx sy hnz; obtain ⟨m1, b1, x1⟩ := fq_fin q1 k1; obtain ⟨m2, b2, x2⟩ := fq_fin q2 k2; obtain ⟨N1, hN1⟩ : ∃ N, (ep x).1 = N := ⟨_, rfl⟩; obtain ⟨F1, hF1⟩ : ∃ N, (ep x).2 = N := ⟨_, rfl⟩; obtain ⟨N2, hN2⟩ : ∃ N, (ep y).1 = N := ⟨_, rfl⟩; obtain ⟨F2, hF2⟩ : ∃ N, (ep y).2 = N := ⟨_, rfl⟩
          have g1 : mk N1 F1 = ep x := by rw [← hN1, ← hF1]; exact ep_nf x
          have g2 : mk N2 F2 = ep y := by rw [← hN2, ← hF2]; exact ep_nf y
          have HB1 := Lib.hid b1; have HB2 := Lib.hid b2
          have HN1 := Lib.hid (show (exq K1 s1 M1 E1).1 = N1 by rw [x1, hN1])
          have HF1 := Lib.hid (show (exq K1 s1 M1 E1).2 = F1 by rw [x1, hF1])
          have HN2 := Lib.hid (show (exq K2 s2 M2 E2).1 = N2 by rw [x2, hN2])
          have HF2 := Lib.hid (show (exq K2 s2 M2 E2).2 = F2 by rw [x2, hF2])
          obtain ⟨P, hP⟩ : ∃ P, ml (ep x) (ep y) = P := ⟨_, rfl⟩
          have hPn : mk P.1 P.2 = P := by rw [← hP]; exact mk_nf _ _
          have HP1 := Lib.hid (show (ml (mk N1 F1) (mk N2 F2)).1 = P.1 by rw [g1, g2, hP])
          have HP2 := Lib.hid (show (ml (mk N1 F1) (mk N2 F2)).2 = P.2 by rw [g1, g2, hP])
          rw [hP] at hr
          have HRR := Lib.hid (show rnd up (mk P.1 P.2).1 (mk P.1 P.2).2 = r by rw [hPn]; exact hr)
          
          clear b1 b2 x1 x2 hN1 hF1 hN2 hF2 hP hPn hr g1 g2; have xX7 := X7.cell; have xX8 := X8.cell
          go_wp2_with fail
          refine (yExact0 m1 q1.top HB1.out HN1.out HF1.out).mono ?_; rintro ee w6 ⟨sa, Aa, na, ca, rfl, pa, ka, B⟩; clear xX7 xX8; replace XR := XR.below B; replace X7 := X7.below B; replace X8 := X8.below B; replace HB := Hqb HB B; clear B
          go_upto_region 8 with (fail)
          have lX9 := Nat.le_refl (World.heap w6).size; have nX9XR := XR.lt; have nX9X7 := X7.lt; have nX9X8 := X8.lt; generalize hWn : w6.alloc _ = w7 at *; obtain ⟨X9, BW⟩ := Bo.nw hWn; clear hWn; replace XR := XR.below BW; replace X7 := X7.below BW; replace X8 := X8.below BW; replace pa := pa.below BW; replace HB := Hqb HB BW; clear BW; have xX8 := X8.cell
          go_wp2_with fail
          refine (yExact0 m2 q2.top HB2.out HN2.out HF2.out).mono ?_; rintro ee w8 ⟨sb, Ab, nb, cb, rfl, pb, kb, B⟩; clear xX8; replace XR := XR.below B; replace X7 := X7.below B; replace X8 := X8.below B; replace X9 := X9.below B; replace pa := pa.below B; replace HB := Hqb HB B; clear B
          go_upto_region 9 with (fail)
          have lX11 := Nat.le_refl (World.heap w8).size; have nX11XR := XR.lt; have nX11X7 := X7.lt; have nX11X8 := X8.lt; have nX11X9 := X9.lt; generalize hWn : w8.alloc _ = w9 at *; obtain ⟨X11, BW⟩ := Bo.nw hWn; clear hWn; replace XR := XR.below BW; replace X7 := X7.below BW; replace X8 := X8.below BW; replace X9 := X9.below BW; replace pa := pa.below BW; replace pb := pb.below BW; replace HB := Hqb HB BW
          clear BW; clear lX9 lX11; have xX9 := X9.cell; have xX11 := X11.cell
          go_wp2_with fail
          refine (q3Mul pa.wr pb.wr (by omega) (by omega) HP1.out HP2.out).mono ?_; rintro ee w10 ⟨sc, Ac, nc, cc, rfl, pc, kc, B⟩; clear xX9 xX11; replace XR := XR.below B; replace X7 := X7.below B; replace X8 := X8.below B; replace X9 := X9.below B; replace X11 := X11.below B; replace pa := pa.below B; replace pb := pb.below B; replace HB := Hqb HB B; clear B
          go_wp2_with fail
          refine (yRound pc.wr (by omega) rfl rfl HRR.out).mono ?_; rintro ee w11 ⟨K3, s3, M3, E3, rfl, q3, B⟩; replace XR := XR.below B; replace X7 := X7.below B; replace X8 := X8.below B; replace X9 := X9.below B; replace X11 := X11.below B; replace pc := pc.below B; replace HB := Hqb HB B; clear B; have xXR := XR.cell; have zXR0 := XR.frozen; go_wp2; clear xXR zXR0
          have SX := StN.mk4 XR (.int .i64 K3) (.bool s3) (.int .u64 M3) (.int .i64 E3); exact bodyPost_ret (by simp [results, Tryz.results79, go_sem, SX.box.cell]) rfl ⟨_, _, _, _, rfl, q3, (SX.below HB.out (by omega))⟩
end Go.Proofs.YtpnmphofengoeaaGreatDoor

namespace Go.Proofs.YtpnmphofengoeaaGreatDoor
open Go.RowKit
set_option linter.unusedVariables false
set_option linter.unusedSimpArgs false
set_option maxRecDepth 100000

theorem blen_one : blen 1 = 1 := blen_uniq (k := 0) (by decide) (by decide) (by decide)
theorem tp_one1 : tp 1 = 9223372036854775808 := by
  rw [tp_small (by rw [blen_one]; decide), blen_one]
theorem fq_one : Fq 1 false 9223372036854775808 (-63) (sgi (decide ((1 : Int) < 0)) (lo (1 : Int).natAbs 0)) := by
  have := of_fq (n := 1) (by decide) (by decide) (by decide)
  rw [show (1 : Int).natAbs = 1 from rfl, tp_one1, blen_one] at this
  exact this
end Go.Proofs.YtpnmphofengoeaaGreatDoor

/-
  Contracts and words that the statement's proof rests on, several texts in one: Ej, Kl.
-/
import Derived.Below
import Derived.BigQuiet
import Derived.Carry
import Derived.Deep.DeepCutAuto
import Derived.Deep.Draws
import Derived.Deep.MidRow
import Derived.Deep.QuietTactic
import Derived.Deep.RegionHeld3
import Derived.Deep.RegionWith
import Derived.IntWalk
import Derived.Laws.CopyOwn
import Derived.Laws.MakeOwn
import Derived.Laws.OwnMore
import Derived.Laws.Rows
import Derived.Lib.BitFns
import Derived.Lib.Hide
import Derived.Maps.AppendAt
import Derived.StillTailTactics
import Derived.Test.YteejbcimmmcnlaaGreatDoorRows
import Derived.WalkKit
import Derived.WalkLawsBesides
import Derived.WalkSpells
import Derived.Test.YteejbcimmmcnlaaGreatDoorYCai
import Derived.Test.YteejbcimmmcnlaaGreatDoorYCaj
import Derived.Test.YteejbcimmmcnlaaGreatDoorYCal
import Derived.Test.YteejbcimmmcnlaaGreatDoorYCar
import Derived.Test.YteejbcimmmcnlaaGreatDoorYCax
/-
  What pelorusref03.Two does: the sum of two.
-/
namespace Go.Proofs.YteejbcimmmcnlaaGreatDoor
open Go.RowKit
set_option linter.unusedVariables false
set_option maxRecDepth 100000

set_option maxHeartbeats 4000000 in
theorem q3two_l {w : World} {A B : Option Addr} {n c m d : Nat} {s t : Bool} {z e y f N1 E1 N2 E2 : Int} (h : Wr w s A n c z) (k : Wr w t B m d y) (hn : n ≤ 20000) (hm : m ≤ 20000)
    (HN1 : Hid ((mk z e).1 = N1)) (HE1 : Hid ((mk z e).2 = E1)) (HN2 : Hid ((mk y f).1 = N2)) (HE2 : Hid ((mk y f).2 = E2)) (h1 : N1 = 0) :
    Calls Tryz.prog 133 #[.agg #[.bool s, .slice A n c, .int .i64 e], .agg #[.bool t, .slice B m d, .int .i64 f]] w (D1 w m N2 E2) := by
  go_enter Tryz.func133, Tryz.ntmps133
  go_upto_region 1 with (fail)
  generalize hW1 : ((w.alloc _).alloc _).alloc _ = w1 at *; obtain ⟨X1, X2, XR, HB⟩ := Bo.en3 hW1; replace h := h.below HB.out; replace k := k.below HB.out; clear hW1; obtain ⟨xX10, xX11, xX12⟩ := X1.u3
  go_wp2_with fail
  refine (q3Make h (by omega) HN1.out HE1.out).mono ?_; rintro ee w2 ⟨s1, A1, n1, c1, rfl, p1, k1, B⟩; clear xX10 xX11 xX12; replace X1 := X1.below B; replace X2 := X2.below B; replace XR := XR.below B; replace h := h.below B; replace k := k.below B; replace HB := Lib.hid (bt HB.out B); clear B; obtain ⟨xX20, xX21, xX22⟩ := X2.u3
  go_upto_region 2 with (fail)
  clear xX20 xX21 xX22; have lX5 := Nat.le_refl (World.heap w2).size; have nX5X2 := X2.lt; have nX5XR := XR.lt; generalize hWn : w2.alloc _ = w3 at *; obtain ⟨X5, BW⟩ := Bo.nw hWn; clear hWn; replace X2 := X2.below BW; replace XR := XR.below BW; replace k := k.below BW; replace p1 := p1.below BW; replace HB := Lib.hid (bt HB.out BW); clear BW; obtain ⟨xX20, xX21, xX22⟩ := X2.u3
  go_wp2_with fail
  refine (q3Make k (by omega) HN2.out HE2.out).mono ?_; rintro ee w4 ⟨s2, A2, n2, c2, rfl, p2, k2, B⟩; clear xX20 xX21 xX22; replace X2 := X2.below B; replace XR := XR.below B; replace X5 := X5.below B; replace k := k.below B; replace p1 := p1.below B; replace HB := Lib.hid (bt HB.out B); clear B
  go_upto_region 3 with (fail)
  have lX6 := Nat.le_refl (World.heap w4).size; have nX6XR := XR.lt; have nX6X5 := X5.lt; generalize hWn : w4.alloc _ = w5 at *; obtain ⟨X6, BW⟩ := Bo.nw hWn; clear hWn; replace XR := XR.below BW; replace X5 := X5.below BW; replace p1 := p1.below BW; replace p2 := p2.below BW; replace HB := Lib.hid (bt HB.out BW); clear BW; clear lX6
  have hz : n1 = 0 := by have := p1.1.pos; omega
  subst hz; obtain ⟨xX50, xX51, xX52⟩ := X5.u3; obtain ⟨xX60, xX61, xX62⟩ := X6.u3; obtain ⟨xXR0, xXR1, xXR2⟩ := XR.u3; have zXR0 := XR.frozen; go_wp2; clear xX50 xX51 xX52 xX60 xX61 xX62 xXR0 zXR0 xXR1 xXR2; have SX := StN.mk3 XR (.bool s2) (.slice A2 n2 c2) (.int .i64 E2); replace p2 := p2.stn SX (by simp [no32]); exact bodyPost_ret (v := .agg #[.bool s2, .slice A2 n2 c2, .int .i64 E2]) (by simp [results, Tryz.results133, go_sem, SX.box.cell]) rfl ⟨s2, _, _, _, rfl, p2, k2, (SX.below HB.out (by omega))⟩

set_option maxHeartbeats 4000000 in
theorem q3two_r {w : World} {A B : Option Addr} {n c m d : Nat} {s t : Bool} {z e y f N1 E1 N2 E2 : Int} (h : Wr w s A n c z) (k : Wr w t B m d y) (hn : n ≤ 20000) (hm : m ≤ 20000)
    (HN1 : Hid ((mk z e).1 = N1)) (HE1 : Hid ((mk z e).2 = E1)) (HN2 : Hid ((mk y f).1 = N2)) (HE2 : Hid ((mk y f).2 = E2)) (h1 : N1 ≠ 0) (h2 : N2 = 0) :
    Calls Tryz.prog 133 #[.agg #[.bool s, .slice A n c, .int .i64 e], .agg #[.bool t, .slice B m d, .int .i64 f]] w (D1 w n N1 E1) := by
  go_enter Tryz.func133, Tryz.ntmps133
  go_upto_region 1 with (fail)
  generalize hW1 : ((w.alloc _).alloc _).alloc _ = w1 at *; obtain ⟨X1, X2, XR, HB⟩ := Bo.en3 hW1; replace h := h.below HB.out; replace k := k.below HB.out; clear hW1; obtain ⟨xX10, xX11, xX12⟩ := X1.u3
  go_wp2_with fail
  refine (q3Make h (by omega) HN1.out HE1.out).mono ?_; rintro ee w2 ⟨s1, A1, n1, c1, rfl, p1, k1, B⟩; clear xX10 xX11 xX12; replace X1 := X1.below B; replace X2 := X2.below B; replace XR := XR.below B; replace h := h.below B; replace k := k.below B; replace HB := Lib.hid (bt HB.out B); clear B; obtain ⟨xX20, xX21, xX22⟩ := X2.u3
  go_upto_region 2 with (fail)
  clear xX20 xX21 xX22; have lX5 := Nat.le_refl (World.heap w2).size; have nX5X2 := X2.lt; have nX5XR := XR.lt; generalize hWn : w2.alloc _ = w3 at *; obtain ⟨X5, BW⟩ := Bo.nw hWn; clear hWn; replace X2 := X2.below BW; replace XR := XR.below BW; replace k := k.below BW; replace p1 := p1.below BW; replace HB := Lib.hid (bt HB.out BW); clear BW; obtain ⟨xX20, xX21, xX22⟩ := X2.u3
  go_wp2_with fail
  refine (q3Make k (by omega) HN2.out HE2.out).mono ?_; rintro ee w4 ⟨s2, A2, n2, c2, rfl, p2, k2, B⟩; clear xX20 xX21 xX22; replace X2 := X2.below B; replace XR := XR.below B; replace X5 := X5.below B; replace k := k.below B; replace p1 := p1.below B; replace HB := Lib.hid (bt HB.out B); clear B
  go_upto_region 3 with (fail)
  have lX6 := Nat.le_refl (World.heap w4).size; have nX6XR := XR.lt; have nX6X5 := X5.lt; generalize hWn : w4.alloc _ = w5 at *; obtain ⟨X6, BW⟩ := Bo.nw hWn; clear hWn; replace XR := XR.below BW; replace X5 := X5.below BW; replace p1 := p1.below BW; replace p2 := p2.below BW; replace HB := Lib.hid (bt HB.out BW); clear BW; clear lX6
  have hpa : 0 < n1 := by have := p1.1.pos; omega
  have qa : ((n1 : Int) == 0) = false := by have : (n1 : Int) ≠ 0 := by omega
                                            simpa using this
  have la := p1.1.rd.big
  have hz : n2 = 0 := by have := p2.1.pos; omega
  subst hz; obtain ⟨xX50, xX51, xX52⟩ := X5.u3; obtain ⟨xX60, xX61, xX62⟩ := X6.u3; obtain ⟨xXR0, xXR1, xXR2⟩ := XR.u3; have zXR0 := XR.frozen; go_wp2; clear xX50 xX51 xX52 xX60 xX61 xX62 xXR0 zXR0 xXR1 xXR2; have SX := StN.mk3 XR (.bool s1) (.slice A1 n1 c1) (.int .i64 E1); replace p1 := p1.stn SX (by simp [no32]); exact bodyPost_ret (v := .agg #[.bool s1, .slice A1 n1 c1, .int .i64 E1]) (by simp [results, Tryz.results133, go_sem, SX.box.cell]) rfl ⟨s1, _, _, _, rfl, p1, k1, (SX.below HB.out (by omega))⟩

set_option maxHeartbeats 8000000 in
theorem q3sum_up {w : World} {A B : Option Addr} {n c m d : Nat} {s t : Bool} {z e y f N1 E1 N2 E2 N E : Int} (h : Wr w s A n c z) (k : Wr w t B m d y) (hn : n ≤ 20000) (hm : m ≤ 20000)
    (HN1 : Hid ((mk z e).1 = N1)) (HE1 : Hid ((mk z e).2 = E1)) (HN2 : Hid ((mk y f).1 = N2)) (HE2 : Hid ((mk y f).2 = E2)) (h1 : N1 ≠ 0) (h2 : N2 ≠ 0) (hle : E1 ≤ E2) (hfar : E2 - E1 ≤ 640000) (b1 : -4194304 ≤ E1) (b2 : E2 ≤ 4194304)
    (HN : Hid ((mk (N1 + N2 * ((2 ^ (E2 - E1).toNat : Nat) : Int)) E1).1 = N)) (HE : Hid ((mk (N1 + N2 * ((2 ^ (E2 - E1).toNat : Nat) : Int)) E1).2 = E)) :
    Calls Tryz.prog 133 #[.agg #[.bool s, .slice A n c, .int .i64 e], .agg #[.bool t, .slice B m d, .int .i64 f]] w (D1 w (n + m + 20010) N E) := by
  obtain ⟨δ, hδ⟩ : ∃ x, E2 - E1 = x := ⟨_, rfl⟩
  have HW : Hid (IntKind.i64.wrap (E2 - E1) = δ) := Lib.hid (by rw [hδ]; exact IntWalk.i64_in _ (by omega))
  have hd0 : 0 ≤ δ := by omega
  rw [hδ] at hfar HN HE
  have tle : decide (E2 < E1) = false := by simp; omega
  clear hδ
  go_enter Tryz.func133, Tryz.ntmps133
  go_upto_region 1 with (fail)
  generalize hW1 : ((w.alloc _).alloc _).alloc _ = w1 at *; obtain ⟨X1, X2, XR, HB⟩ := Bo.en3 hW1; replace h := h.below HB.out; replace k := k.below HB.out; clear hW1; obtain ⟨xX10, xX11, xX12⟩ := X1.u3
  go_wp2_with fail
  refine (q3Make h (by omega) HN1.out HE1.out).mono ?_; rintro ee w2 ⟨s1, A1, n1, c1, rfl, p1, k1, B⟩; clear xX10 xX11 xX12; replace X1 := X1.below B; replace X2 := X2.below B; replace XR := XR.below B; replace h := h.below B; replace k := k.below B; replace HB := Lib.hid (bt HB.out B); clear B; obtain ⟨xX20, xX21, xX22⟩ := X2.u3
  go_upto_region 2 with (fail)
  clear xX20 xX21 xX22; have lX5 := Nat.le_refl (World.heap w2).size; have nX5X2 := X2.lt; have nX5XR := XR.lt; generalize hWn : w2.alloc _ = w3 at *; obtain ⟨X5, BW⟩ := Bo.nw hWn; clear hWn; replace X2 := X2.below BW; replace XR := XR.below BW; replace k := k.below BW; replace p1 := p1.below BW; replace HB := Lib.hid (bt HB.out BW); clear BW; obtain ⟨xX20, xX21, xX22⟩ := X2.u3
  go_wp2_with fail
  refine (q3Make k (by omega) HN2.out HE2.out).mono ?_; rintro ee w4 ⟨s2, A2, n2, c2, rfl, p2, k2, B⟩; clear xX20 xX21 xX22; replace X2 := X2.below B; replace XR := XR.below B; replace X5 := X5.below B; replace k := k.below B; replace p1 := p1.below B; replace HB := Lib.hid (bt HB.out B); clear B
  go_upto_region 3 with (fail)
  have lX6 := Nat.le_refl (World.heap w4).size; have nX6XR := XR.lt; have nX6X5 := X5.lt; generalize hWn : w4.alloc _ = w5 at *; obtain ⟨X6, BW⟩ := Bo.nw hWn; clear hWn; replace XR := XR.below BW; replace X5 := X5.below BW; replace p1 := p1.below BW; replace p2 := p2.below BW; replace HB := Lib.hid (bt HB.out BW); clear BW; clear lX6
  have hpa : 0 < n1 := by have := p1.1.pos; omega
  have qa : ((n1 : Int) == 0) = false := by have : (n1 : Int) ≠ 0 := by omega
                                            simpa using this
  have la := p1.1.rd.big
  have hpb : 0 < n2 := by have := p2.1.pos; omega
  have qb : ((n2 : Int) == 0) = false := by have : (n2 : Int) ≠ 0 := by omega
                                            simpa using this
  have lb := p2.1.rd.big; clear h1 h2; obtain ⟨xX50, xX51, xX52⟩ := X5.u3; obtain ⟨xX60, xX61, xX62⟩ := X6.u3
  go_upto_region 11 with (fail)
  clear xX50 xX51 xX52 xX60 xX61 xX62; have HC := Lib.hid (sg_scale s2 N2 (2 ^ δ.toNat) p2.wr.eq); have lt5 := X5.lt; have lt6 := X6.lt; have ltR := XR.lt
  refine Jo.region_joint (T := [0, 1, 2, 3, 4, 5, 6, 7, 8, 9, 10, 11, 12, 13]) (ds := [some 39, some 40, some 41, some 42, some 43, some 44, some 45, some 46, some 47, some 48, some 49, some 50, some 51, some 8, none]) (ls := [[], [0], [1], [], [3], [4], [], [6], [], [8], [7, 9], [5, 10], [2, 11], [], []]) (k := 15) (L := [(some 39, 0), (some 40, 1), (some 41, 2), (some 42, 3), (some 43, 4), (some 44, 5), (some 45, 6), (some 46, 7), (some 47, 8), (some 48, 9), (some 49, 10), (some 50, 11), (some 51, 12), (some 8, 13)]) (fuel := 1) (J := fun wj => Below (World.heap w5).size w5 wj)
    (F := [Jo.qp w4.heap.size 0, Jo.qp w4.heap.size 0, Jo.qb s2, Jo.qp w4.heap.size 0, Jo.qp w4.heap.size 1, Jo.Fact.eq (.slice A2 n2 c2), Jo.qp w4.heap.size 2, Jo.qi E2, Jo.qp w2.heap.size 2, Jo.qi E1, Jo.qi δ, Jo.Fact.nm (N2.natAbs * 2 ^ δ.toNat) (n2 + δ.toNat / 32 + 1), Jo.Fact.wn (N2 * ((2 ^ δ.toNat : Nat) : Int)) (n2 + δ.toNat / 32 + 1), Jo.Fact.bo w5.heap.size #[.bool false, .slice none 0 0] 40, Jo.Fact.any])
    (by kernel_rfl) (by kernel_rfl) (by decide) rfl rfl (fun _ _ h b => bt h b) ((br _ _).drew) ?_ (fun vs w9 hJ hd => ?_)
  · refine Jo.jm rfl ?_ ?_
    · rintro wj hJ K hK; simp only [Jo.z] at hK ⊢; go_simp; exact hK.out _ _ rfl (br _ _)
    refine Jo.jm rfl ?_ ?_
    · rintro wj hJ _ rfl K hK; simp only [Jo.z] at hK ⊢; go_simp; exact hK.out _ _ rfl (br _ _)
    refine Jo.jm rfl ?_ ?_
    · rintro wj hJ _ rfl K hK; simp only [Jo.z] at hK ⊢; have xX60 := (X6.below hJ).a 0 (.bool s2) rfl; go_simp; exact hK.out _ _ rfl (br _ _)
    refine Jo.jm rfl ?_ ?_
    · rintro wj hJ K hK; simp only [Jo.z] at hK ⊢; go_simp; exact hK.out _ _ rfl (br _ _)
    refine Jo.jm rfl ?_ ?_
    · rintro wj hJ _ rfl K hK; simp only [Jo.z] at hK ⊢; go_simp; exact hK.out _ _ rfl (br _ _)
    refine Jo.jm rfl ?_ ?_
    · rintro wj hJ _ rfl K hK; simp only [Jo.z] at hK ⊢; have xX61 := (X6.below hJ).a 1 (.slice A2 n2 c2) rfl; go_simp; exact hK.out _ _ rfl (br _ _)
    refine Jo.jm rfl ?_ ?_
    · rintro wj hJ K hK; simp only [Jo.z] at hK ⊢; go_simp; exact hK.out _ _ rfl (br _ _)
    refine Jo.jm rfl ?_ ?_
    · rintro wj hJ _ rfl K hK; simp only [Jo.z] at hK ⊢; have xX62 := (X6.below hJ).a 2 (.int .i64 E2) rfl; go_simp; exact hK.out _ _ rfl (br _ _)
    refine Jo.jm rfl ?_ ?_
    · rintro wj hJ K hK; simp only [Jo.z] at hK ⊢; go_simp; exact hK.out _ _ rfl (br _ _)
    refine Jo.jm rfl ?_ ?_
    · rintro wj hJ _ rfl K hK; simp only [Jo.z] at hK ⊢; have xX52 := (X5.below hJ).a 2 (.int .i64 E1) rfl; go_simp; exact hK.out _ _ rfl (br _ _)
    refine Jo.jm rfl ?_ ?_
    · rintro wj hJ _ rfl _ rfl K hK; simp only [Jo.z] at hK ⊢; have hw := HW.out; go_simp; exact hK.out _ _ rfl (br _ _)
    refine Jo.jm rfl ?_ ?_
    · rintro wj hJ _ rfl _ rfl K hK; simp only [Jo.z] at hK ⊢; go_simp; refine (rShlN (p2.below hJ).1.rd (by omega) hd0 (by omega) rfl).mono ?_; rintro ee wk ⟨A7, n7, c7, rfl, p7, k7, B⟩; exact hK.out _ _ ⟨A7, n7, c7, rfl, p7, k7⟩ B
    refine Jo.jm rfl ?_ ?_
    · rintro wj hJ _ rfl _ ⟨A7, n7, c7, rfl, p7, k7⟩ K hK; simp only [Jo.z] at hK ⊢; go_simp; refine (qMake s2 p7.rd).mono ?_; rintro ee wk ⟨s8, A8, n8, c8, rfl, p8, k8, B⟩; exact hK.out _ _ ⟨s8, A8, n8, c8, rfl, HC.out ▸ p8, Nat.le_trans k8 k7⟩ B
    refine Jo.jm rfl ?_ ?_
    · rintro wj hJ K hK; simp only [Jo.z] at hK ⊢; go_simp; exact hK.out _ _ ⟨_, rfl, hJ.size, Bo.new _ _ _⟩ (bel1 _ _)
    exact Jo.Steps.nil
  have d11 : (Jo.Fact.nm (N2.natAbs * 2 ^ δ.toNat) (n2 + δ.toNat / 32 + 1)).P (vs 11) w9 := hd 11 (by decide)
  have d12 : (Jo.Fact.wn (N2 * ((2 ^ δ.toNat : Nat) : Int)) (n2 + δ.toNat / 32 + 1)).P (vs 12) w9 := hd 12 (by decide)
  have d13 : (Jo.Fact.bo w5.heap.size #[.bool false, .slice none 0 0] 40).P (vs 13) w9 := hd 13 (by decide)
  simp only [Jo.putl, Jo.zd, Jo.ze, Act.put, Jo.za, Jo.zb, Jo.zc]
  rw [show vs 2 = _ from hd 2 (by decide), show vs 5 = _ from hd 5 (by decide), show vs 7 = _ from hd 7 (by decide), show vs 9 = _ from hd 9 (by decide), show vs 10 = _ from hd 10 (by decide)]
  clear hd; generalize vs 11 = u11 at d11 ⊢; generalize vs 12 = u12 at d12 ⊢; generalize vs 13 = u13 at d13 ⊢; obtain ⟨A7, n7, c7, rfl, _, _⟩ := d11; obtain ⟨s8, A8, n8, c8, rfl, p8, k8⟩ := d12; obtain ⟨g8, rfl, hg8, X8⟩ := d13; replace XR := XR.below hJ; replace X5 := X5.below hJ; replace X6 := X6.below hJ; replace p1 := p1.below hJ; replace p2 := p2.below hJ; replace HB := Lib.hid (bt HB.out hJ)
  obtain ⟨xX80, xX81⟩ := X8.u2; have zX80 := X8.frozen
  refine Jo.jnext (i := 14) (o := ⟨none, _, _, _, _, _⟩) (by kernel_rfl) rfl (fun K hK => ?_)
  go_simp; refine hK.out _ _ ?_; clear hK K xX80 zX80 xX81; generalize hS : (w9.setCell _ _).setCell _ _ = w10 at *; have SX := StN.of2 X8 hS; replace XR := XR.stn SX (by omega); replace X5 := X5.stn SX (by omega); replace X6 := X6.stn SX (by omega); replace p1 := p1.stn SX (by simp [no32]); replace p2 := p2.stn SX (by simp [no32]); replace p8 := p8.stn SX (by simp [no32]); replace HB := Lib.hid (SX.below HB.out (by omega))
  replace X8 := SX.box; clear SX hS; refine Jo.jdone (by kernel_rfl) ?_
  go_upto_region 12 with (fail)
  refine Jo.rk [0, 1, 2, 3, 4, 5, 6] [some 52, some 53, some 54, some 55, some 56, some 57, some 58, none] [[], [0], [], [1, 2], [], [4], [3, 5], []] 8 1 [Jo.qp w2.heap.size 0, Jo.Fact.eq (.agg #[.bool s1, .slice A1 n1 c1]), Jo.Fact.eq (.agg #[.bool s8, .slice A8 n8 c8]), Jo.Fact.wn (N1 + N2 * ((2 ^ δ.toNat : Nat) : Int)) (n + m + 20010), Jo.qp w2.heap.size 2, Jo.qi E1, Jo.Fact.dy N E (n + m + 20010), Jo.Fact.any] (by kernel_rfl) (by kernel_rfl) (by decide) rfl ?_ ?_
  · refine Jo.jm rfl ?_ ?_
    · rintro wj hJ K hK; simp only [Jo.z] at hK ⊢; go_simp; exact hK.out _ _ rfl (br _ _)
    refine Jo.jm rfl ?_ ?_
    · rintro wj hJ _ rfl K hK; simp only [Jo.z] at hK ⊢; obtain ⟨xX50, xX51, xX52⟩ := (X5.below hJ).u3; go_simp; exact hK.out _ _ rfl (br _ _)
    refine Jo.jm rfl ?_ ?_
    · rintro wj hJ K hK; simp only [Jo.z] at hK ⊢; obtain ⟨xX80, xX81⟩ := (X8.below hJ).u2; go_simp; exact hK.out _ _ rfl (br _ _)
    refine Jo.jm rfl ?_ ?_
    · rintro wj hJ _ rfl _ rfl K hK; simp only [Jo.z] at hK ⊢; go_simp; refine (qAdd (p1.below hJ).wr (p8.below hJ).wr (by omega) (by omega) rfl).mono ?_; rintro ee wk ⟨s3, A3, n3, c3, rfl, p3, k3, B⟩; exact hK.out _ _ ⟨s3, A3, n3, c3, rfl, p3, by omega⟩ B
    refine Jo.jm rfl ?_ ?_
    · rintro wj hJ K hK; simp only [Jo.z] at hK ⊢; go_simp; exact hK.out _ _ rfl (br _ _)
    refine Jo.jm rfl ?_ ?_
    · rintro wj hJ _ rfl K hK; simp only [Jo.z] at hK ⊢; have xX52 := (X5.below hJ).a 2 (.int .i64 E1) rfl; go_simp; exact hK.out _ _ rfl (br _ _)
    refine Jo.jm rfl ?_ ?_
    · rintro wj hJ _ ⟨s3, A3, n3, c3, rfl, p3, k3⟩ _ rfl K hK; simp only [Jo.z] at hK ⊢; go_simp; refine (q3Make p3.wr (by omega) HN.out HE.out).mono ?_; rintro ee wk ⟨s4, A4, n4, c4, rfl, p4, k4, B⟩; exact hK.out _ _ ⟨s4, A4, n4, c4, rfl, p4, Nat.le_trans k4 k3⟩ B
    exact Jo.Steps.nil
  rintro w11 hJ _ _ _ rfl _ rfl _ ⟨s3, A3, n3, c3, rfl, _, _⟩ _ _ _ rfl _ ⟨s4, A4, n4, c4, rfl, p4, k4⟩ -; simp only [Jo.z]; replace XR := XR.below hJ; replace X5 := X5.below hJ; replace X6 := X6.below hJ; replace X8 := X8.below hJ; replace p1 := p1.below hJ; replace p2 := p2.below hJ; replace p8 := p8.below hJ; replace HB := Lib.hid (bt HB.out hJ); obtain ⟨xXR0, xXR1, xXR2⟩ := XR.u3; have zXR0 := XR.frozen
  refine Jo.jnext (i := 7) (o := ⟨none, _, _, _, _, _⟩) (by kernel_rfl) rfl (fun K hK => ?_)
  go_simp; refine hK.out _ _ ?_; clear hK K xXR0 zXR0 xXR1 xXR2; have SX := StN.mk3 XR (.bool s4) (.slice A4 n4 c4) (.int .i64 E); replace p4 := p4.stn SX (by simp [no32]); refine Jo.jdone (by kernel_rfl) ?_; go_wp2; exact bodyPost_ret (v := .agg #[.bool s4, .slice A4 n4 c4, .int .i64 E]) (by simp [results, Tryz.results133, go_sem, SX.box.cell]) rfl ⟨s4, _, _, _, rfl, p4, k4, (SX.below HB.out (by omega))⟩

set_option maxHeartbeats 8000000 in
theorem q3sum_dn {w : World} {A B : Option Addr} {n c m d : Nat} {s t : Bool} {z e y f N1 E1 N2 E2 N E : Int} (h : Wr w s A n c z) (k : Wr w t B m d y) (hn : n ≤ 20000) (hm : m ≤ 20000)
    (HN1 : Hid ((mk z e).1 = N1)) (HE1 : Hid ((mk z e).2 = E1)) (HN2 : Hid ((mk y f).1 = N2)) (HE2 : Hid ((mk y f).2 = E2)) (h1 : N1 ≠ 0) (h2 : N2 ≠ 0) (hle : E2 < E1) (hfar : E1 - E2 ≤ 640000) (b1 : -4194304 ≤ E2) (b2 : E1 ≤ 4194304)
    (HN : Hid ((mk (N2 + N1 * ((2 ^ (E1 - E2).toNat : Nat) : Int)) E2).1 = N)) (HE : Hid ((mk (N2 + N1 * ((2 ^ (E1 - E2).toNat : Nat) : Int)) E2).2 = E)) :
    Calls Tryz.prog 133 #[.agg #[.bool s, .slice A n c, .int .i64 e], .agg #[.bool t, .slice B m d, .int .i64 f]] w (D1 w (n + m + 20010) N E) := by
  obtain ⟨δ, hδ⟩ : ∃ x, E1 - E2 = x := ⟨_, rfl⟩
  have HW : Hid (IntKind.i64.wrap (E1 - E2) = δ) := Lib.hid (by rw [hδ]; exact IntWalk.i64_in _ (by omega))
  have hd0 : 0 ≤ δ := by omega
  rw [hδ] at hfar HN HE
  have tle : decide (E2 < E1) = true := by simp; omega
  clear hδ
  go_enter Tryz.func133, Tryz.ntmps133
  go_upto_region 1 with (fail)
  generalize hW1 : ((w.alloc _).alloc _).alloc _ = w1 at *; obtain ⟨X1, X2, XR, HB⟩ := Bo.en3 hW1; replace h := h.below HB.out; replace k := k.below HB.out; clear hW1; obtain ⟨xX10, xX11, xX12⟩ := X1.u3
  go_wp2_with fail
  refine (q3Make h (by omega) HN1.out HE1.out).mono ?_; rintro ee w2 ⟨s1, A1, n1, c1, rfl, p1, k1, B⟩; clear xX10 xX11 xX12; replace X1 := X1.below B; replace X2 := X2.below B; replace XR := XR.below B; replace h := h.below B; replace k := k.below B; replace HB := Lib.hid (bt HB.out B); clear B; obtain ⟨xX20, xX21, xX22⟩ := X2.u3
  go_upto_region 2 with (fail)
  clear xX20 xX21 xX22; have lX5 := Nat.le_refl (World.heap w2).size; have nX5X2 := X2.lt; have nX5XR := XR.lt; generalize hWn : w2.alloc _ = w3 at *; obtain ⟨X5, BW⟩ := Bo.nw hWn; clear hWn; replace X2 := X2.below BW; replace XR := XR.below BW; replace k := k.below BW; replace p1 := p1.below BW; replace HB := Lib.hid (bt HB.out BW); clear BW; obtain ⟨xX20, xX21, xX22⟩ := X2.u3
  go_wp2_with fail
  refine (q3Make k (by omega) HN2.out HE2.out).mono ?_; rintro ee w4 ⟨s2, A2, n2, c2, rfl, p2, k2, B⟩; clear xX20 xX21 xX22; replace X2 := X2.below B; replace XR := XR.below B; replace X5 := X5.below B; replace k := k.below B; replace p1 := p1.below B; replace HB := Lib.hid (bt HB.out B); clear B
  go_upto_region 3 with (fail)
  have lX6 := Nat.le_refl (World.heap w4).size; have nX6XR := XR.lt; have nX6X5 := X5.lt; generalize hWn : w4.alloc _ = w5 at *; obtain ⟨X6, BW⟩ := Bo.nw hWn; clear hWn; replace XR := XR.below BW; replace X5 := X5.below BW; replace p1 := p1.below BW; replace p2 := p2.below BW; replace HB := Lib.hid (bt HB.out BW); clear BW; clear lX6
  have hpa : 0 < n1 := by have := p1.1.pos; omega
  have qa : ((n1 : Int) == 0) = false := by have : (n1 : Int) ≠ 0 := by omega
                                            simpa using this
  have la := p1.1.rd.big
  have hpb : 0 < n2 := by have := p2.1.pos; omega
  have qb : ((n2 : Int) == 0) = false := by have : (n2 : Int) ≠ 0 := by omega
                                            simpa using this
  have lb := p2.1.rd.big; clear h1 h2; obtain ⟨xX50, xX51, xX52⟩ := X5.u3; obtain ⟨xX60, xX61, xX62⟩ := X6.u3
  go_upto_region 9 with (fail)
  clear xX50 xX51 xX52 xX60 xX61 xX62; have lX7 := Nat.le_refl (World.heap w5).size; have nX7XR := XR.lt; have nX7X5 := X5.lt; have nX7X6 := X6.lt; generalize hWn : w5.alloc _ = w6 at *; obtain ⟨X7, BW⟩ := Bo.nw hWn; clear hWn; replace XR := XR.below BW; replace X5 := X5.below BW; replace X6 := X6.below BW; replace p1 := p1.below BW; replace p2 := p2.below BW; replace HB := Lib.hid (bt HB.out BW); clear BW
  obtain ⟨xX60, xX61, xX62⟩ := X6.u3; obtain ⟨xX50, xX51, xX52⟩ := X5.u3; have zX50 := X5.frozen
  go_upto_region 10 with (fail)
  clear xX60 xX61 xX62 xX50 zX50 xX51 xX52; generalize hS : ((w6.setCell _ _).setCell _ _).setCell _ _ = w7 at *; have SX := StN.of3 X5 hS; replace XR := XR.stn SX (by omega); replace X6 := X6.stn SX (by omega); replace X7 := X7.stn SX (by omega); replace p1 := p1.stn SX (by simp [no32]); replace p2 := p2.stn SX (by simp [no32]); replace HB := Lib.hid (SX.below HB.out (by omega)); replace X5 := SX.box
  clear SX hS; obtain ⟨xX70, xX71, xX72⟩ := X7.u3; obtain ⟨xX60, xX61, xX62⟩ := X6.u3; have zX60 := X6.frozen
  go_upto_region 11 with (fail)
  clear xX70 xX71 xX72 xX60 zX60 xX61 xX62; generalize hS : ((w7.setCell _ _).setCell _ _).setCell _ _ = w8 at *; have SX := StN.of3 X6 hS; replace XR := XR.stn SX (by omega); replace X5 := X5.stn SX (by omega); replace X7 := X7.stn SX (by omega); replace p1 := p1.stn SX (by simp [no32]); replace p2 := p2.stn SX (by simp [no32]); replace HB := Lib.hid (SX.below HB.out (by omega)); replace X6 := SX.box
  clear SX hS; have HC := Lib.hid (sg_scale s1 N1 (2 ^ δ.toNat) p1.wr.eq); have lt5 := X5.lt; have lt6 := X6.lt; have ltR := XR.lt
  refine Jo.region_joint (T := [0, 1, 2, 3, 4, 5, 6, 7, 8, 9, 10, 11, 12, 13]) (ds := [some 39, some 40, some 41, some 42, some 43, some 44, some 45, some 46, some 47, some 48, some 49, some 50, some 51, some 8, none]) (ls := [[], [0], [1], [], [3], [4], [], [6], [], [8], [7, 9], [5, 10], [2, 11], [], []]) (k := 15) (L := [(some 39, 0), (some 40, 1), (some 41, 2), (some 42, 3), (some 43, 4), (some 44, 5), (some 45, 6), (some 46, 7), (some 47, 8), (some 48, 9), (some 49, 10), (some 50, 11), (some 51, 12), (some 8, 13)]) (fuel := 1) (J := fun wj => Below (World.heap w8).size w8 wj)
    (F := [Jo.qp w4.heap.size 0, Jo.qp w4.heap.size 0, Jo.qb s1, Jo.qp w4.heap.size 0, Jo.qp w4.heap.size 1, Jo.Fact.eq (.slice A1 n1 c1), Jo.qp w4.heap.size 2, Jo.qi E1, Jo.qp w2.heap.size 2, Jo.qi E2, Jo.qi δ, Jo.Fact.nm (N1.natAbs * 2 ^ δ.toNat) (n1 + δ.toNat / 32 + 1), Jo.Fact.wn (N1 * ((2 ^ δ.toNat : Nat) : Int)) (n1 + δ.toNat / 32 + 1), Jo.Fact.bo w8.heap.size #[.bool false, .slice none 0 0] 40, Jo.Fact.any])
    (by kernel_rfl) (by kernel_rfl) (by decide) rfl rfl (fun _ _ h b => bt h b) ((br _ _).drew) ?_ (fun vs w9 hJ hd => ?_)
  · refine Jo.jm rfl ?_ ?_
    · rintro wj hJ K hK; simp only [Jo.z] at hK ⊢; go_simp; exact hK.out _ _ rfl (br _ _)
    refine Jo.jm rfl ?_ ?_
    · rintro wj hJ _ rfl K hK; simp only [Jo.z] at hK ⊢; go_simp; exact hK.out _ _ rfl (br _ _)
    refine Jo.jm rfl ?_ ?_
    · rintro wj hJ _ rfl K hK; simp only [Jo.z] at hK ⊢; have xX60 := (X6.below hJ).a 0 (.bool s1) rfl; go_simp; exact hK.out _ _ rfl (br _ _)
    refine Jo.jm rfl ?_ ?_
    · rintro wj hJ K hK; simp only [Jo.z] at hK ⊢; go_simp; exact hK.out _ _ rfl (br _ _)
    refine Jo.jm rfl ?_ ?_
    · rintro wj hJ _ rfl K hK; simp only [Jo.z] at hK ⊢; go_simp; exact hK.out _ _ rfl (br _ _)
    refine Jo.jm rfl ?_ ?_
    · rintro wj hJ _ rfl K hK; simp only [Jo.z] at hK ⊢; have xX61 := (X6.below hJ).a 1 (.slice A1 n1 c1) rfl; go_simp; exact hK.out _ _ rfl (br _ _)
    refine Jo.jm rfl ?_ ?_
    · rintro wj hJ K hK; simp only [Jo.z] at hK ⊢; go_simp; exact hK.out _ _ rfl (br _ _)
    refine Jo.jm rfl ?_ ?_
    · rintro wj hJ _ rfl K hK; simp only [Jo.z] at hK ⊢; have xX62 := (X6.below hJ).a 2 (.int .i64 E1) rfl; go_simp; exact hK.out _ _ rfl (br _ _)
    refine Jo.jm rfl ?_ ?_
    · rintro wj hJ K hK; simp only [Jo.z] at hK ⊢; go_simp; exact hK.out _ _ rfl (br _ _)
    refine Jo.jm rfl ?_ ?_
    · rintro wj hJ _ rfl K hK; simp only [Jo.z] at hK ⊢; have xX52 := (X5.below hJ).a 2 (.int .i64 E2) rfl; go_simp; exact hK.out _ _ rfl (br _ _)
    refine Jo.jm rfl ?_ ?_
    · rintro wj hJ _ rfl _ rfl K hK; simp only [Jo.z] at hK ⊢; have hw := HW.out; go_simp; exact hK.out _ _ rfl (br _ _)
    refine Jo.jm rfl ?_ ?_
    · rintro wj hJ _ rfl _ rfl K hK; simp only [Jo.z] at hK ⊢; go_simp; refine (rShlN (p1.below hJ).1.rd (by omega) hd0 (by omega) rfl).mono ?_; rintro ee wk ⟨A7, n7, c7, rfl, p7, k7, B⟩; exact hK.out _ _ ⟨A7, n7, c7, rfl, p7, k7⟩ B
    refine Jo.jm rfl ?_ ?_
    · rintro wj hJ _ rfl _ ⟨A7, n7, c7, rfl, p7, k7⟩ K hK; simp only [Jo.z] at hK ⊢; go_simp; refine (qMake s1 p7.rd).mono ?_; rintro ee wk ⟨s8, A8, n8, c8, rfl, p8, k8, B⟩; exact hK.out _ _ ⟨s8, A8, n8, c8, rfl, HC.out ▸ p8, Nat.le_trans k8 k7⟩ B
    refine Jo.jm rfl ?_ ?_
    · rintro wj hJ K hK; simp only [Jo.z] at hK ⊢; go_simp; exact hK.out _ _ ⟨_, rfl, hJ.size, Bo.new _ _ _⟩ (bel1 _ _)
    exact Jo.Steps.nil
  have d11 : (Jo.Fact.nm (N1.natAbs * 2 ^ δ.toNat) (n1 + δ.toNat / 32 + 1)).P (vs 11) w9 := hd 11 (by decide)
  have d12 : (Jo.Fact.wn (N1 * ((2 ^ δ.toNat : Nat) : Int)) (n1 + δ.toNat / 32 + 1)).P (vs 12) w9 := hd 12 (by decide)
  have d13 : (Jo.Fact.bo w8.heap.size #[.bool false, .slice none 0 0] 40).P (vs 13) w9 := hd 13 (by decide)
  simp only [Jo.putl, Jo.zd, Jo.ze, Act.put, Jo.za, Jo.zb, Jo.zc]
  rw [show vs 2 = _ from hd 2 (by decide), show vs 5 = _ from hd 5 (by decide), show vs 7 = _ from hd 7 (by decide), show vs 9 = _ from hd 9 (by decide), show vs 10 = _ from hd 10 (by decide)]
  clear hd; generalize vs 11 = u11 at d11 ⊢; generalize vs 12 = u12 at d12 ⊢; generalize vs 13 = u13 at d13 ⊢; obtain ⟨A7, n7, c7, rfl, _, _⟩ := d11; obtain ⟨s8, A8, n8, c8, rfl, p8, k8⟩ := d12; obtain ⟨g8, rfl, hg8, X8⟩ := d13; replace XR := XR.below hJ; replace X5 := X5.below hJ; replace X6 := X6.below hJ; replace p1 := p1.below hJ; replace p2 := p2.below hJ; replace HB := Lib.hid (bt HB.out hJ)
  obtain ⟨xX80, xX81⟩ := X8.u2; have zX80 := X8.frozen
  refine Jo.jnext (i := 14) (o := ⟨none, _, _, _, _, _⟩) (by kernel_rfl) rfl (fun K hK => ?_)
  go_simp; refine hK.out _ _ ?_; clear hK K xX80 zX80 xX81; generalize hS : (w9.setCell _ _).setCell _ _ = w10 at *; have SX := StN.of2 X8 hS; replace XR := XR.stn SX (by omega); replace X5 := X5.stn SX (by omega); replace X6 := X6.stn SX (by omega); replace p1 := p1.stn SX (by simp [no32]); replace p2 := p2.stn SX (by simp [no32]); replace p8 := p8.stn SX (by simp [no32]); replace HB := Lib.hid (SX.below HB.out (by omega))
  replace X8 := SX.box; clear SX hS; refine Jo.jdone (by kernel_rfl) ?_
  go_upto_region 12 with (fail)
  refine Jo.rk [0, 1, 2, 3, 4, 5, 6] [some 52, some 53, some 54, some 55, some 56, some 57, some 58, none] [[], [0], [], [1, 2], [], [4], [3, 5], []] 8 1 [Jo.qp w2.heap.size 0, Jo.Fact.eq (.agg #[.bool s2, .slice A2 n2 c2]), Jo.Fact.eq (.agg #[.bool s8, .slice A8 n8 c8]), Jo.Fact.wn (N2 + N1 * ((2 ^ δ.toNat : Nat) : Int)) (n + m + 20010), Jo.qp w2.heap.size 2, Jo.qi E2, Jo.Fact.dy N E (n + m + 20010), Jo.Fact.any] (by kernel_rfl) (by kernel_rfl) (by decide) rfl ?_ ?_
  · refine Jo.jm rfl ?_ ?_
    · rintro wj hJ K hK; simp only [Jo.z] at hK ⊢; go_simp; exact hK.out _ _ rfl (br _ _)
    refine Jo.jm rfl ?_ ?_
    · rintro wj hJ _ rfl K hK; simp only [Jo.z] at hK ⊢; obtain ⟨xX50, xX51, xX52⟩ := (X5.below hJ).u3; go_simp; exact hK.out _ _ rfl (br _ _)
    refine Jo.jm rfl ?_ ?_
    · rintro wj hJ K hK; simp only [Jo.z] at hK ⊢; obtain ⟨xX80, xX81⟩ := (X8.below hJ).u2; go_simp; exact hK.out _ _ rfl (br _ _)
    refine Jo.jm rfl ?_ ?_
    · rintro wj hJ _ rfl _ rfl K hK; simp only [Jo.z] at hK ⊢; go_simp; refine (qAdd (p2.below hJ).wr (p8.below hJ).wr (by omega) (by omega) rfl).mono ?_; rintro ee wk ⟨s3, A3, n3, c3, rfl, p3, k3, B⟩; exact hK.out _ _ ⟨s3, A3, n3, c3, rfl, p3, by omega⟩ B
    refine Jo.jm rfl ?_ ?_
    · rintro wj hJ K hK; simp only [Jo.z] at hK ⊢; go_simp; exact hK.out _ _ rfl (br _ _)
    refine Jo.jm rfl ?_ ?_
    · rintro wj hJ _ rfl K hK; simp only [Jo.z] at hK ⊢; have xX52 := (X5.below hJ).a 2 (.int .i64 E2) rfl; go_simp; exact hK.out _ _ rfl (br _ _)
    refine Jo.jm rfl ?_ ?_
    · rintro wj hJ _ ⟨s3, A3, n3, c3, rfl, p3, k3⟩ _ rfl K hK; simp only [Jo.z] at hK ⊢; go_simp; refine (q3Make p3.wr (by omega) HN.out HE.out).mono ?_; rintro ee wk ⟨s4, A4, n4, c4, rfl, p4, k4, B⟩; exact hK.out _ _ ⟨s4, A4, n4, c4, rfl, p4, Nat.le_trans k4 k3⟩ B
    exact Jo.Steps.nil
  rintro w11 hJ _ _ _ rfl _ rfl _ ⟨s3, A3, n3, c3, rfl, _, _⟩ _ _ _ rfl _ ⟨s4, A4, n4, c4, rfl, p4, k4⟩ -; simp only [Jo.z]; replace XR := XR.below hJ; replace X5 := X5.below hJ; replace X6 := X6.below hJ; replace X8 := X8.below hJ; replace p1 := p1.below hJ; replace p2 := p2.below hJ; replace p8 := p8.below hJ; replace HB := Lib.hid (bt HB.out hJ); obtain ⟨xXR0, xXR1, xXR2⟩ := XR.u3; have zXR0 := XR.frozen
  refine Jo.jnext (i := 7) (o := ⟨none, _, _, _, _, _⟩) (by kernel_rfl) rfl (fun K hK => ?_)
  go_simp; refine hK.out _ _ ?_; clear hK K xXR0 zXR0 xXR1 xXR2; have SX := StN.mk3 XR (.bool s4) (.slice A4 n4 c4) (.int .i64 E); replace p4 := p4.stn SX (by simp [no32]); refine Jo.jdone (by kernel_rfl) ?_; go_wp2; exact bodyPost_ret (v := .agg #[.bool s4, .slice A4 n4 c4, .int .i64 E]) (by simp [results, Tryz.results133, go_sem, SX.box.cell]) rfl ⟨s4, _, _, _, rfl, p4, k4, (SX.below HB.out (by omega))⟩

theorem q3Two {w : World} {A B : Option Addr} {n c m d : Nat} {s t : Bool} {z e y f N E : Int} (h : Wr w s A n c z) (k : Wr w t B m d y) (hn : n ≤ 20000) (hm : m ≤ 20000) (hf : Near (mk z e) (mk y f))
    (hN : (pl (mk z e) (mk y f)).1 = N) (hE : (pl (mk z e) (mk y f)).2 = E) :
    Calls Tryz.prog 133 #[.agg #[.bool s, .slice A n c, .int .i64 e], .agg #[.bool t, .slice B m d, .int .i64 f]] w (D1 w (n + m + 20010) N E) := by
  have mono : ∀ K, K ≤ n + m + 20010 → ∀ N E e w', D1 w K N E e w' → D1 w (n + m + 20010) N E e w' := fun K hK N E e w' ⟨s, A, n, c, e1, p, q, b⟩ => ⟨s, A, n, c, e1, p, Nat.le_trans q hK, b⟩
  obtain ⟨b1, b2⟩ := mk_bd z e; obtain ⟨b3, b4⟩ := mk_bd y f
  unfold pl at hN hE
  by_cases h1 : (mk z e).1 = 0
  · rw [if_pos h1] at hN hE; subst hN; subst hE; exact (q3two_l h k hn hm (Lib.hid rfl) (Lib.hid rfl) (Lib.hid rfl) (Lib.hid rfl) h1).mono (mono _ (by omega) _ _)
  · rw [if_neg h1] at hN hE
    by_cases h2 : (mk y f).1 = 0
    · rw [if_pos h2] at hN hE; subst hN; subst hE; exact (q3two_r h k hn hm (Lib.hid rfl) (Lib.hid rfl) (Lib.hid rfl) (Lib.hid rfl) h1 h2).mono (mono _ (by omega) _ _)
    · rw [if_neg h2] at hN hE; obtain ⟨g1, g2⟩ := hf h1 h2
      by_cases hle : (mk z e).2 ≤ (mk y f).2
      · rw [Int.min_eq_left hle] at hN hE; exact q3sum_up h k hn hm (Lib.hid rfl) (Lib.hid rfl) (Lib.hid rfl) (Lib.hid rfl) h1 h2 hle g2 b1 b4 (Lib.hid (by simpa using hN)) (Lib.hid (by simpa using hE))
      · rw [Int.min_eq_right (by omega), Int.add_comm] at hN hE; exact q3sum_dn h k hn hm (Lib.hid rfl) (Lib.hid rfl) (Lib.hid rfl) (Lib.hid rfl) h1 h2 (by omega) g1 b3 b2 (Lib.hid (by simpa using hN)) (Lib.hid (by simpa using hE))
end Go.Proofs.YteejbcimmmcnlaaGreatDoor

/-
  What the statements of layer 5 rest on: how numbers that are rounded lie beside what they are rounded of. Plain arithmetic; no Go text.
-/
namespace Go.Proofs.YteejbcimmmcnlaaGreatDoor
open Go.RowKit
set_option linter.unusedVariables false

theorem sgi_mul (s : Bool) (x y : Int) : sgi s x * y = sgi s (x * y) := by
  cases s
  · rfl
  · exact Int.neg_mul _ _
theorem vp_vr {x : Int} (s : Bool) (h : 0 < x) : vr (sgi s x) = sgi s (vp x) := by
  rw [vr_sgi]
  congr 1
  unfold vr
  rw [if_neg (by omega)]
/-- A number's worth is that of the dyadic one. -/
theorem exq_vl {D : Int} {s : Bool} {M E r : Int} (q : Fq D s M E r) (h1 : -19342822337206103650074625 < r) (h2 : r < 19342822337206103650074625) : exb D s M E = true ∧ vl (exq D s M E) = vr r := by
  have hb : exb D s M E = true := by
    unfold exb
    rw [decide_eq_true q.1, Bool.true_and]
    rcases q.cases with ⟨rfl, rfl, rfl, rfl, h0⟩ | ⟨rfl, _⟩ | ⟨rfl, rfl, rfl, ⟨rfl, h5⟩ | ⟨rfl, h5⟩⟩
    · rfl
    · rfl
    · omega
    · omega
  refine ⟨hb, ?_⟩
  unfold exq
  rw [if_pos hb]; have hr := q.2.2
  rcases q.1 with ⟨rfl, rfl, rfl, rfl⟩ | ⟨rfl, g1, g2, g3⟩ | ⟨rfl, rfl, rfl⟩
  · obtain rfl : 0 = r := hr
    have e0 : sgi false 0 = 0 := if_neg (by decide)
    rw [e0, mk_zero, vl_zero]
    rfl
  · have hM := q.2.1
    have hpl : plc 1 M E = M - 9223372036854775808 + 1 + (E + 1048576) * 9223372036854775808 := rfl
    rw [hpl] at hr
    have ha : (sgi s M).natAbs = M.toNat := by
      cases s
      · show M.natAbs = M.toNat; omega
      · show (-M).natAbs = M.toNat; omega
    obtain ⟨η, hη⟩ : ∃ η : Nat, 4194304 = η := ⟨_, rfl⟩
    have hf := mk_fit (z := sgi s M) (e := E) (h := η) (by omega) (by omega) (by
      rw [ha]
      have : M.toNat < 2 ^ 64 := by omega
      have := Nat.mul_lt_mul_of_pos_right this (Nat.pow_pos (n := (E + (η : Int)).toNat) (show 0 < 2 by decide))
      rw [← Nat.pow_add] at this; exact Nat.lt_of_lt_of_le this (Nat.pow_le_pow_right (by decide) (by omega)))
    rw [hf.2, ← hr, vp_vr s (by omega), vp_fin g1 hM (by omega), sgi_mul]
  · exfalso
    have : r = sgi s TP := hr.symm
    have := TP_eq
    cases s
    · have e : sgi false TP = TP := if_neg (by decide)
      omega
    · have e : sgi true TP = -TP := if_pos rfl
      omega
theorem lo_full {m : Nat} {E : Int} (h1 : 9223372036854775808 ≤ m) (h2 : m < 18446744073709551616) (h3 : -1048576 ≤ E) (h4 : E ≤ 1048576) : lo m E = (m : Int) - 9223372036854775808 + 1 + (E + 1048576) * 9223372036854775808 := by
  have hb : blen m = 64 := blen_uniq (k := 63) (by omega) (by omega) (by omega)
  have hx : xp m E = E := by unfold xp; rw [hb]; omega
  have ht : tp m = m := by
    rw [tp_small (by omega), hb, Nat.sub_self, Nat.pow_zero, Nat.mul_one]
  unfold lo
  rw [if_neg (by omega), hx, if_neg (by omega), if_neg (by omega), ht]
theorem back_odd {m k t : Nat} {E F : Int} (hm : m = k * 2 ^ t) (h1 : 9223372036854775808 ≤ m) (h2 : m < 18446744073709551616) (h3 : -1048576 ≤ E) (h4 : E ≤ 1048576) (hF : F = E + (t : Nat)) : ext k F = true ∧ lo k F = lo m E := by
  have hb : blen m = 64 := blen_uniq (k := 63) (by omega) (by omega) (by omega)
  have hk : k ≠ 0 := fun e => by rw [e, Nat.zero_mul] at hm; omega
  have b1 := blen_mul hk t; rw [← hm, hb] at b1; refine ⟨?_, ?_⟩
  · have e0 : (k == 0) = false := by simpa using hk
    unfold ext xp
    rw [e0, Bool.false_or, decide_eq_true (by omega), decide_eq_true (by omega), decide_eq_true (by omega)]
    rfl
  · rw [hm, lo_mul hk, hF]
/-- One that is one of the numbers is rounded to itself. -/
theorem back_fin {s : Bool} {M E : Int} (up : Bool) (g1 : 9223372036854775808 ≤ M) (hM : M < 18446744073709551616) (g2 : -1048576 ≤ E) (g3 : E ≤ 1048576) {z : Int} (hz : z.natAbs = M.toNat) (hs : decide (z < 0) = s) : rnd up (mk z E).1 (mk z E).2 = sgi s (M - 9223372036854775808 + 1 + (E + 1048576) * 9223372036854775808) := by
  have h0 : z ≠ 0 := by omega
  have hv := v2_pow_le (n := z.natAbs) (by omega)
  have hv2 : v2 z.natAbs < 64 := (Nat.pow_lt_pow_iff_right (a := 2) (by decide)).1 (show 2 ^ v2 z.natAbs < 2 ^ 64 by omega)
  obtain ⟨e1, e2, e3, e4, e5⟩ := mk_in (z := z) (e := E) h0 (by omega) (by omega)
  revert e1 e3 e4 e5
  generalize mk z E = p; obtain ⟨N, F⟩ := p
  intro e1 e3 e4 e5
  simp only at e1 e3 e4 e5 ⊢
  have ea : z.natAbs = N.natAbs * 2 ^ v2 z.natAbs := by
    have := congrArg Int.natAbs e5
    rwa [natAbs_mul_pow] at this
  obtain ⟨x1, x2⟩ := back_odd ea (by omega) (by omega) g2 g3 e1
  rw [rnd_ext x1, x2, lo_full (by omega) (by omega) g2 g3, show decide (N < 0) = s by rw [← hs]; simp only [e3], show ((z.natAbs : Nat) : Int) = M by omega]
theorem rnd_nought (up : Bool) : rnd up 0 0 = 0 := by
  rw [rnd_ext rfl]
  rfl
theorem rnd_back {D : Int} {s : Bool} {M E r : Int} (up : Bool) (q : Fq D s M E r) (hx : exb D s M E = true) : rnd up (exq D s M E).1 (exq D s M E).2 = r := by
  unfold exq
  rw [if_pos hx]; have hr := q.2.2
  rcases q.1 with ⟨rfl, rfl, rfl, rfl⟩ | ⟨rfl, g1, g2, g3⟩ | ⟨rfl, rfl, rfl⟩
  · obtain rfl : 0 = r := hr
    have e0 : sgi false 0 = 0 := if_neg (by decide)
    rw [e0, mk_zero]; exact rnd_nought up
  · have hM := q.2.1
    have hpl : plc 1 M E = M - 9223372036854775808 + 1 + (E + 1048576) * 9223372036854775808 := rfl
    rw [hpl] at hr; rw [← hr]; refine back_fin up g1 hM g2 g3 ?_ ?_
    · cases s
      · rw [show sgi false M = M from if_neg (by decide)]; omega
      · rw [show sgi true M = -M from if_pos rfl]; omega
    · cases s
      · rw [show sgi false M = M from if_neg (by decide)]; exact decide_eq_false (by omega)
      · rw [show sgi true M = -M from if_pos rfl]; exact decide_eq_true (by omega)
  · exact absurd hx (by unfold exb; simp)
/-- A whole number's place, and its worth. -/
def opl (n : Int) : Int := sgi (decide (n < 0)) (lo n.natAbs 0)
theorem opl_zero : opl 0 = 0 := rfl
theorem opl_vr {n : Int} (h1 : -9223372036854775808 ≤ n) (h2 : n ≤ 9223372036854775807) : vr (opl n) = n * 2 ^ KK := by
  by_cases h0 : n = 0
  · subst h0; rw [opl_zero, Int.zero_mul]
    rfl
  · have q := of_fq h0 h1 h2; have hs := of_shl h0 h1 h2; have a3 := blen_mono_le (n := n.natAbs) (k := 64) (by omega)
    have hr : _ = opl n := q.2.2
    have g := q.plc (by decide)
    rcases g with ⟨_, g1, g2, g3, g4, g5⟩ | ⟨g, _⟩
    · rw [← hr, vp_vr _ (by rw [g5]; omega), g5, vp_fin g1 g2 (by omega), ← hs, Int.mul_assoc, ← Int.pow_add, show (64 - (blen n.natAbs : Int)).toNat + (-(64 - (blen n.natAbs : Int)) + (KK : Int)).toNat = KK by rw [KK_eq]; omega, ← sgi_mul]
      congr 1
      by_cases hn : n < 0
      · rw [decide_eq_true hn]; show -(n.natAbs : Int) = n; omega
      · rw [decide_eq_false hn]; show (n.natAbs : Int) = n; omega
    · exact absurd g (by decide)
theorem opl_cmp {a b : Int} (h1 : -9223372036854775808 ≤ a) (h2 : a ≤ 9223372036854775807) (k1 : -9223372036854775808 ≤ b) (k2 : b ≤ 9223372036854775807) : cmpI (opl a) (opl b) = cmpI a b := by
  rw [← vr_cmp, opl_vr h1 h2, opl_vr k1 k2, cmpI_scale (p2pos KK)]
theorem sgi_not {n : Int} (h0 : n ≠ 0) (l : Int) : sgi (decide (-n < 0)) l = -sgi (decide (n < 0)) l := by
  by_cases hn : n < 0
  · rw [decide_eq_true hn, decide_eq_false (show ¬ -n < 0 by omega), show sgi false l = l from if_neg (by decide), show sgi true l = -l from if_pos rfl, Int.neg_neg]
  · rw [decide_eq_false hn, decide_eq_true (show -n < 0 by omega), show sgi false l = l from if_neg (by decide), show sgi true l = -l from if_pos rfl]
theorem opl_neg (n : Int) : opl (-n) = -opl n := by
  by_cases h0 : n = 0
  · rw [h0, Int.neg_zero, opl_zero, Int.neg_zero]
  · unfold opl
    rw [Int.natAbs_neg]; exact sgi_not h0 _
end Go.Proofs.YteejbcimmmcnlaaGreatDoor

/-
 Contracts that the proof rests on.
-/
import Derived.Test.YtmmallhniijdfaaGreatDoorYAbc
namespace Go.Proofs.YtmmallhniijdfaaGreatDoor
set_option maxHeartbeats 8000000
open Go.RowKit
set_option linter.unusedVariables false
set_option linter.unusedSimpArgs false
set_option maxRecDepth 100000
theorem jinv_lo {w : World} {n : Int} (h : n < 2) : Calls Tryz.prog 7 #[.int .i64 n] w (W2 w 1000000 0 0) := by
 have t1 : decide (n < 2) = true := decide_eq_true h
 go_enter Tryz.func7, Tryz.ntmps7
 go_upto_region 1 with (fail)
 generalize hW1 : (w.alloc _).alloc _ = w1 at *; obtain ⟨XR, XS, HB⟩ := Bo.en2 hW1; clear hW1
 go_upto_region 2 with (fail)
 have lX4 := Nat.le_refl (World.heap w1).size; have nX4XR := XR.lt; have nX4XS := XS.lt; generalize hWn : w1.alloc _ = w2 at *; obtain ⟨X4, BW⟩ := Bo.nw hWn; clear hWn; replace XR := XR.below BW; replace XS := XS.below BW; replace HB := Hqb HB BW; clear BW; clear lX4; have ltXR := XR.lt; have ltXS := XS.lt; have ltX4 := X4.lt
 go_upto_region 3 with (fail)
 refine Jo.rl (w.heap.size) #[.bool false, .slice none 0 0] 25 [0, 1, 2] [some 16, some 17, none, none] [[], [], [0], []] 4 1 [Jo.LFact.eq (.agg #[.bool false, .slice none 0 0]), Jo.LFact.eq (.agg #[.bool false, .slice none 0 0]), Jo.LFact.done, Jo.LFact.any] (by kernel_rfl) (by kernel_rfl) (by decide) rfl ?_ ?_
 · refine Jo.lm rfl ?_ ?_
   · rintro wj hJ K hK; simp only [Jo.z] at hK ⊢; replace X4 := X4.off (by omega) hJ; have xX4 := X4.cell; go_simp; exact hK.out _ _ rfl (Jo.Off.refl _ _ _ _)
   refine Jo.lm rfl ?_ ?_
   · rintro wj hJ K hK; simp only [Jo.z] at hK ⊢; replace X4 := X4.off (by omega) hJ; have xX4 := X4.cell; go_simp; exact hK.out _ _ rfl (Jo.Off.refl _ _ _ _)
   refine Jo.lm rfl ?_ ?_
   · rintro wj hJ _ rfl K hK; simp only [Jo.z] at hK ⊢
     obtain ⟨v0, v1, XO⟩ : ∃ v0 v1, Bo wj (w.heap.size) #[v0, v1] 25 := by
       rcases hJ.own with e | e
       · exact ⟨_, _, XR.keep e⟩
       · exact ⟨_, _, e⟩
     have xXO := XO.cell; have zXO0 := XO.frozen; go_simp; have SX := StN.mk2 XO (.bool false) (.slice none 0 0); exact hK.out undef _ SX.box (Jo.Off.of_stn SX)
   exact Jo.Steps.nil
 rintro w3 hJ _ rfl _ rfl u2 d2 -; simp only [Jo.z]; replace HB := Lib.hid (hJ.below HB.out (by omega) XR.lt); replace XS := XS.off (by omega) hJ; replace X4 := X4.off (by omega) hJ
 replace XR : Bo w3 (w.heap.size) #[.bool false, .slice none 0 0] 25 := d2
 have xXS := XS.cell; have zXS0 := XS.frozen
 refine Jo.jnext (i := 3) (o := ⟨none, _, _, _, _, _⟩) (by kernel_rfl) rfl (fun K hK => ?_)
 go_simp; refine hK.out _ _ ?_; clear hK K xXS zXS0; generalize hS : (w3.setCell _ _).setCell _ _ = w4 at *; have SX := StN.of2 XS hS; replace XR := XR.stn SX (by omega); replace X4 := X4.stn SX (by omega); replace HB := Hqs HB SX (by omega); replace XS := SX.box; clear SX hS; refine Jo.jdone (by kernel_rfl) ?_; go_wp2; exact bodyPost_ret (v := .tuple #[.agg #[.bool false, .slice none 0 0], .agg #[.bool false, .slice none 0 0]]) (by simp [results, Tryz.results7, go_sem, XR.cell, XS.cell]) rfl ⟨_, _, _, _, _, _, _, _, rfl, ⟨Nm.zero, rfl⟩, ⟨Nm.zero, rfl⟩, Nat.zero_le _, Nat.zero_le _, HB.out⟩
theorem jinv_hi {w : World} {n : Int} (h : 1000 < n) : Calls Tryz.prog 7 #[.int .i64 n] w (W2 w 1000000 0 0) := by
 have t1 : decide (n < 2) = false := decide_eq_false (by omega)
 have t2 : decide (1000 < n) = true := decide_eq_true h
 go_enter Tryz.func7, Tryz.ntmps7
 go_upto_region 1 with (fail)
 generalize hW1 : (w.alloc _).alloc _ = w1 at *; obtain ⟨XR, XS, HB⟩ := Bo.en2 hW1; clear hW1
 go_upto_region 2 with (fail)
 have lX4 := Nat.le_refl (World.heap w1).size; have nX4XR := XR.lt; have nX4XS := XS.lt; generalize hWn : w1.alloc _ = w2 at *; obtain ⟨X4, BW⟩ := Bo.nw hWn; clear hWn; replace XR := XR.below BW; replace XS := XS.below BW; replace HB := Hqb HB BW; clear BW; clear lX4; have ltXR := XR.lt; have ltXS := XS.lt; have ltX4 := X4.lt
 go_upto_region 3 with (fail)
 refine Jo.rl (w.heap.size) #[.bool false, .slice none 0 0] 25 [0, 1, 2] [some 16, some 17, none, none] [[], [], [0], []] 4 1 [Jo.LFact.eq (.agg #[.bool false, .slice none 0 0]), Jo.LFact.eq (.agg #[.bool false, .slice none 0 0]), Jo.LFact.done, Jo.LFact.any] (by kernel_rfl) (by kernel_rfl) (by decide) rfl ?_ ?_
 · refine Jo.lm rfl ?_ ?_
   · rintro wj hJ K hK; simp only [Jo.z] at hK ⊢; replace X4 := X4.off (by omega) hJ; have xX4 := X4.cell; go_simp; exact hK.out _ _ rfl (Jo.Off.refl _ _ _ _)
   refine Jo.lm rfl ?_ ?_
   · rintro wj hJ K hK; simp only [Jo.z] at hK ⊢; replace X4 := X4.off (by omega) hJ; have xX4 := X4.cell; go_simp; exact hK.out _ _ rfl (Jo.Off.refl _ _ _ _)
   refine Jo.lm rfl ?_ ?_
   · rintro wj hJ _ rfl K hK; simp only [Jo.z] at hK ⊢
     obtain ⟨v0, v1, XO⟩ : ∃ v0 v1, Bo wj (w.heap.size) #[v0, v1] 25 := by
       rcases hJ.own with e | e
       · exact ⟨_, _, XR.keep e⟩
       · exact ⟨_, _, e⟩
     have xXO := XO.cell; have zXO0 := XO.frozen; go_simp; have SX := StN.mk2 XO (.bool false) (.slice none 0 0); exact hK.out undef _ SX.box (Jo.Off.of_stn SX)
   exact Jo.Steps.nil
 rintro w3 hJ _ rfl _ rfl u2 d2 -; simp only [Jo.z]; replace HB := Lib.hid (hJ.below HB.out (by omega) XR.lt); replace XS := XS.off (by omega) hJ; replace X4 := X4.off (by omega) hJ
 replace XR : Bo w3 (w.heap.size) #[.bool false, .slice none 0 0] 25 := d2
 have xXS := XS.cell; have zXS0 := XS.frozen
 refine Jo.jnext (i := 3) (o := ⟨none, _, _, _, _, _⟩) (by kernel_rfl) rfl (fun K hK => ?_)
 go_simp; refine hK.out _ _ ?_; clear hK K xXS zXS0; generalize hS : (w3.setCell _ _).setCell _ _ = w4 at *; have SX := StN.of2 XS hS; replace XR := XR.stn SX (by omega); replace X4 := X4.stn SX (by omega); replace HB := Hqs HB SX (by omega); replace XS := SX.box; clear SX hS; refine Jo.jdone (by kernel_rfl) ?_; go_wp2; exact bodyPost_ret (v := .tuple #[.agg #[.bool false, .slice none 0 0], .agg #[.bool false, .slice none 0 0]]) (by simp [results, Tryz.results7, go_sem, XR.cell, XS.cell]) rfl ⟨_, _, _, _, _, _, _, _, rfl, ⟨Nm.zero, rfl⟩, ⟨Nm.zero, rfl⟩, Nat.zero_le _, Nat.zero_le _, HB.out⟩
def JInv (w : World) (n : Int) (R : Int × Nat) (g5 g6 k : Nat) (wr : World) : Prop := ∃ (s p : Int) (s5 : Bool) (A5 : Option Addr) (n5 c5 : Nat) (s6 : Bool) (A6 : Option Addr) (n6 c6 : Nat), Bo wr w.heap.size #[.bool false, .slice none 0 0] 25 ∧ Bo wr (w.heap.size + 1) #[.bool false, .slice none 0 0] 25 ∧ Bo wr g5 #[.bool s5, .slice A5 n5 c5] 25 ∧ Bo wr g6 #[.bool s6, .slice A6 n6 c6] 25 ∧ Wn wr s5 A5 n5 c5 s ∧ Wn wr s6 A6 n6 c6 p ∧ n5 ≤ 1000 * k ∧ n6 ≤ 2 + 4 * k ∧ k ≤ 100 ∧ (2 : Int) ^ (2 * k + 1) ≤ p ∧ invG n (200 - k) k s p = R ∧ Below w.heap.size w wr
theorem inv_step {n p s : Int} {k : Nat} {R : Int × Nat} (hn : 2 ≤ n) (hk : k ≤ 100) (hp : (2 : Int) ^ (2 * k + 1) ≤ p) (h : invG n (200 - k) k s p = R) : ∃ T : Int, SC.fdiv (p * (2 * (k : Int) + 1)) = T ∧ p * (2 * (k : Int) + 1) ≠ 0 ∧ 0 ≤ T ∧ (T = 0 → (s, k) = R) ∧
   (T ≠ 0 → k + 1 ≤ 100 ∧ (2 : Int) ^ (2 * (k + 1) + 1) ≤ p * (n * n) ∧ invG n (200 - (k + 1)) (k + 1) (if k % 2 = 1 then s + -T else s + T) (p * (n * n)) = R) := by
 have p2 : (0 : Int) < 2 ^ (2 * k + 1) := Int.pow_pos (by decide)
 have pp : 0 < p := by omega
 have hd : 0 < p * (2 * (k : Int) + 1) := Int.mul_pos pp (by omega)
 have hf : SC.fdiv (p * (2 * (k : Int) + 1)) = SC / (p * (2 * (k : Int) + 1)) := Int.fdiv_eq_ediv_of_nonneg _ (by omega)
 refine ⟨_, hf, by omega, Int.ediv_nonneg (by decide) (by omega), fun e => ?_, fun e => ?_⟩
 · rw [show 200 - k = (199 - k) + 1 by omega] at h
   unfold invG at h
   rw [if_pos e] at h; exact h
 · rw [show 200 - k = (200 - (k + 1)) + 1 by omega] at h
   unfold invG at h
   rw [if_neg e] at h
   have le : p * (2 * (k : Int) + 1) ≤ SC := by
     rcases Int.lt_or_le SC (p * (2 * (k : Int) + 1)) with c | c
     · exact absurd (Int.ediv_eq_zero_of_lt (by decide) c) e
     · exact c
   have le2 : p ≤ SC := Int.le_trans (by
     have : p * 1 ≤ p * (2 * (k : Int) + 1) := Int.mul_le_mul_of_nonneg_left (by omega) (by omega)
     omega) le
   refine ⟨?_, ?_, h⟩
   · rcases Nat.lt_or_ge k 100 with c | c
     · omega
     · exfalso
       have hk2 : k = 100 := by omega
       subst hk2
       have : (2 : Int) ^ (2 * 100 + 1) ≤ SC := Int.le_trans hp le2
       revert this
       decide
   · rw [show 2 * (k + 1) + 1 = (2 * k + 1) + 2 by omega, Int.pow_add]
     have h4 : (2 : Int) ^ 2 ≤ n * n := by
       have a : (2 : Int) * 2 ≤ n * 2 := Int.mul_le_mul_of_nonneg_right hn (by decide)
       have b : n * 2 ≤ n * n := Int.mul_le_mul_of_nonneg_left hn (by omega)
       show (4 : Int) ≤ n * n
       omega
     exact Int.mul_le_mul hp h4 (by decide) (by omega)
theorem jinv_in {w : World} {n : Int} (h1 : 2 ≤ n) (h2 : n ≤ 1000) {a b : Int} (hr : invP n = (a, b)) : Calls Tryz.prog 7 #[.int .i64 n] w (W2 w 1000000 a b) := by
 have t1 : decide (n < 2) = false := decide_eq_false (by omega)
 have t2 : decide (1000 < n) = false := decide_eq_false (by omega)
 obtain ⟨R, hR⟩ : ∃ R, invG n 200 0 0 n = R := ⟨_, rfl⟩
 have hans : R.1 + (-(R.2 : Int) - 1) = a ∧ R.1 + ((R.2 : Int) + 1) = b := by
   unfold invP at hr
   rw [if_neg (by omega), hR] at hr
   injection hr with e1 e2
   exact ⟨e1, e2⟩
 have HR := Lib.hid hR; have HA := Lib.hid hans.1; have HBB := Lib.hid hans.2
 have HNN : Hid (IntKind.i64.wrap (n * n) = n * n) := Lib.hid (IntWalk.i64_in _ (by
   have a : (0 : Int) ≤ n * n := Int.mul_nonneg (by omega) (by omega)
   have b : n * n ≤ 1000 * 1000 := Int.mul_le_mul h2 h2 (by omega) (by decide)
   omega))
 have HNB : Hid (0 ≤ n * n ∧ n * n ≤ 1000000) := Lib.hid (by
   have a : (0 : Int) ≤ n * n := Int.mul_nonneg (by omega) (by omega)
   have b : n * n ≤ 1000 * 1000 := Int.mul_le_mul h2 h2 (by omega) (by decide)
   exact ⟨a, by omega⟩)
 clear hr hR hans
 go_enter Tryz.func7, Tryz.ntmps7
 go_upto_region 1 with (fail)
 generalize hW1 : (w.alloc _).alloc _ = w1 at *; obtain ⟨XR, XS, HB⟩ := Bo.en2 hW1; clear hW1
 go_upto_region 2 with (fail)
 have lX4 := Nat.le_refl (World.heap w1).size; have nX4XR := XR.lt; have nX4XS := XS.lt; generalize hWn : w1.alloc _ = w2 at *; obtain ⟨X4, BW⟩ := Bo.nw hWn; clear hWn; replace XR := XR.below BW; replace XS := XS.below BW; replace HB := Hqb HB BW; clear BW; clear lX4; have ltXR := XR.lt; have ltXS := XS.lt; have ltX4 := X4.lt; have xX4 := X4.cell
 go_upto_region 5 with (fail)
 clear xX4; have lX5 := Nat.le_refl (World.heap w2).size; have nX5XR := XR.lt; have nX5XS := XS.lt; have nX5X4 := X4.lt; generalize hWn : w2.alloc _ = w3 at *; obtain ⟨X5, BW⟩ := Bo.nw hWn; clear hWn; replace XR := XR.below BW; replace XS := XS.below BW; replace X4 := X4.below BW; replace HB := Hqb HB BW; clear BW; clear lX5
 go_wp2_with fail
 refine (qFrom n _ (by omega) (by omega)).mono ?_; rintro ee w4 ⟨s6, A6, n6, c6, rfl, p6, k6, B⟩; replace XR := XR.below B; replace XS := XS.below B; replace X4 := X4.below B; replace X5 := X5.below B; replace HB := Hqb HB B; clear B; clear t1 t2
 go_upto_region 6 with (fail)
 have lX6 := Nat.le_refl (World.heap w4).size; have nX6XR := XR.lt; have nX6XS := XS.lt; have nX6X4 := X4.lt; have nX6X5 := X5.lt; generalize hWn : w4.alloc _ = w5 at *; obtain ⟨X6, BW⟩ := Bo.nw hWn; clear hWn; replace XR := XR.below BW; replace XS := XS.below BW; replace X4 := X4.below BW; replace X5 := X5.below BW; replace p6 := p6.below BW; replace HB := Hqb HB BW; clear BW; clear lX6
 have G1 : w.heap.size < w2.heap.size ∧ w.heap.size + 1 < w2.heap.size ∧ w2.heap.size < w4.heap.size := ⟨by omega, by omega, by omega⟩
 clear nX4XR nX4XS nX5XR nX5XS nX5X4 nX6XR nX6XS nX6X4 nX6X5 ltXR ltXS ltX4; generalize w2.heap.size = g5 at *; generalize w4.heap.size = g6 at *
 have hI0 : JInv w n R g5 g6 0 w5 := ⟨0, n, _, _, _, _, _, _, _, _, XR, XS, X5, X6, ⟨Nm.zero, rfl⟩, p6, Nat.zero_le _, by omega, by decide, by simpa using h1, HR.out, HB.out⟩
 have HI0 := Lib.hid hI0; clear hI0 XR XS X4 X5 X6 p6 HB HR; go_wp2
 go_loopw [7] (fun i wr => ∃ k : Nat, i = .int .i64 k ∧ JInv w n R g5 g6 k wr) (fun i _ => 200 - (intOf i).toNat)
 case atStart => exact ⟨0, rfl, HI0.out⟩
 case round =>
   obtain ⟨k, rfl, s, p, s5, A5, n5, c5, s6, A6, n6, c6, XR, XS, X5, X6, p5, p6, k5, k6, hk, hp, hG, hB⟩ := hrel; have HB := Lib.hid hB; obtain ⟨T, hT, hd0, hT0, hz, hnz⟩ := inv_step h1 hk hp hG; have HT := Lib.hid hT; have HZ := Lib.hid hz; have HNZ := Lib.hid hnz
   have tlt : decide ((k : Int) < 200) = true := decide_eq_true (by omega)
   have HW1 : Hid (IntKind.i64.wrap (2 * (k : Int)) = 2 * (k : Int)) := Lib.hid (IntWalk.i64_in _ (by omega))
   have HW2 : Hid (IntKind.i64.wrap (2 * (k : Int) + 1) = 2 * (k : Int) + 1) := Lib.hid (IntWalk.i64_in _ (by omega))
   have HW3 : Hid (wrap64 (2 * (k : Int) + 1) = 2 * (k : Int) + 1) := Lib.hid (IntWalk.wrap64_in _ (by omega))
   clear hB HI0 hp hG hT hz hnz
   go_upto_region 8 with (fail)
   have ltXR := XR.lt; have ltXS := XS.lt; have ltX5 := X5.lt; have ltX6 := X6.lt; refine Jo.rk [0, 1, 2, 3, 4, 5, 6, 7] [some 23, some 24, some 25, some 26, some 27, some 28, some 29, some 8, none] [[], [], [], [2], [3], [1, 4], [0, 5], [], []] 9 1 [Jo.Fact.wn (SC) (8), Jo.Fact.eq (.agg #[.bool s6, .slice A6 n6 c6]), Jo.qi k, Jo.Fact.eq (.int .i64 (2 * (k : Int))), Jo.Fact.eq (.int .i64 (2 * (k : Int) + 1)), Jo.Fact.wn (p * (2 * (k : Int) + 1)) (n6 + 2), Jo.Fact.wn (T) (n6 + 20), Jo.Fact.bo wr.heap.size #[.bool false, .slice none 0 0] 25, Jo.Fact.any] (by kernel_rfl) (by kernel_rfl) (by decide) rfl ?_ ?_
   · refine Jo.jm rfl ?_ ?_
     · rintro wj hJ K hK; simp only [Jo.z] at hK ⊢; go_simp; refine (jScale).mono ?_; rintro ee wk ⟨s20, A20, n20, c20, rfl, p20, k20, B⟩; exact hK.out _ _ ⟨s20, A20, n20, c20, rfl, p20, k20⟩ B
     iterate 2 (refine Jo.jm rfl ?_ ?_; rotate_left)
     refine Jo.jm rfl ?_ ?_
     · rintro wj hJ _ rfl K hK; simp only [Jo.z] at hK ⊢; have hw := HW1.out; go_simp
       exact hK.out _ _ (by first | rfl | (show Value.int _ _ = Value.int _ _; simp_all)) (br _ _)
     refine Jo.jm rfl ?_ ?_
     · rintro wj hJ _ rfl K hK; simp only [Jo.z] at hK ⊢; have hw := HW2.out; have hw3 := HW3.out; go_simp
       exact hK.out _ _ (by first | rfl | (show Value.int _ _ = Value.int _ _; simp_all)) (br _ _)
     refine Jo.jm rfl ?_ ?_
     · rintro wj hJ _ rfl _ rfl K hK; simp only [Jo.z] at hK ⊢; go_simp; refine (jTimes (p6.below hJ).wr (by omega) (by omega) (by omega) rfl).mono ?_; rintro ee wk ⟨s21, A21, n21, c21, rfl, p21, k21, B⟩; exact hK.out _ _ ⟨s21, A21, n21, c21, rfl, p21, k21⟩ B
     refine Jo.jm rfl ?_ ?_
     · rintro wj hJ _ ⟨s20, A20, n20, c20, rfl, p20, k20⟩ _ ⟨s21, A21, n21, c21, rfl, p21, k21⟩ K hK; simp only [Jo.z] at hK ⊢; go_simp; refine (jDown p20.wr p21.wr (by omega) (by omega) hd0 HT.out).mono ?_; rintro ee wk ⟨s22, A22, n22, c22, rfl, p22, k22, B⟩; exact hK.out _ _ ⟨s22, A22, n22, c22, rfl, p22, by omega⟩ B
     refine Jo.jm rfl ?_ ?_
     · rintro wj hJ K hK; simp only [Jo.z] at hK ⊢; go_simp; exact hK.out _ _ ⟨_, rfl, hJ.size, Bo.new _ _ _⟩ (bel1 _ _)
     exact Jo.Steps.nil
     all_goals (rintro wj hJ; (repeat rintro _ rfl); intro K hK; simp only [Jo.z] at hK ⊢; have xX6 := (X6.below hJ).cell; go_simp; exact hK.out _ _ rfl (br _ _))
   rintro w6 hJ _ ⟨s20, A20, n20, c20, rfl, p20, k20⟩ _ rfl _ rfl _ rfl _ rfl _ ⟨s21, A21, n21, c21, rfl, p21, k21⟩ _ ⟨s22, A22, n22, c22, rfl, p22, k22⟩ _ ⟨g8, rfl, hg8, X8⟩ -; simp only [Jo.z]; replace XR := XR.below hJ; replace XS := XS.below hJ; replace X5 := X5.below hJ; replace X6 := X6.below hJ; replace p5 := p5.below hJ; replace p6 := p6.below hJ; replace HB := Hqb HB hJ; have xX8 := X8.cell
   have zX80 := X8.frozen
   refine Jo.jnext (i := 8) (o := ⟨none, _, _, _, _, _⟩) (by kernel_rfl) rfl (fun K hK => ?_)
   go_simp; refine hK.out _ _ ?_; clear hK K xX8 zX80; generalize hS : (w6.setCell _ _).setCell _ _ = w7 at *; have SX := StN.of2 X8 hS; replace XR := XR.stn SX (by omega); replace XS := XS.stn SX (by omega); replace X5 := X5.stn SX (by omega); replace X6 := X6.stn SX (by omega); replace p5 := p5.stn SX (by simp [no32]); replace p6 := p6.stn SX (by simp [no32]); replace p22 := p22.stn SX (by simp [no32])
   replace HB := Hqs HB SX (by omega); replace X8 := SX.box; clear SX hS; refine Jo.jdone (by kernel_rfl) ?_; clear HT HW1 HW2 HW3 p20 p21 hd0
   by_cases hc : T = 0
   · have HS : Hid (cmpI T 0 = 0) := Lib.hid (by rw [hc]; decide)
     have hsk := HZ.out hc
     have e1 : R.1 = s := by rw [← hsk]
     have e2 : R.2 = k := by rw [← hsk]
     have HA2 : Hid (s + (-(k : Int) - 1) = a) := Lib.hid (by rw [← e1, ← e2]; exact HA.out)
     have HB2 : Hid (s + ((k : Int) + 1) = b) := Lib.hid (by rw [← e1, ← e2]; exact HBB.out)
     clear HZ HNZ HA HBB hsk e1 e2; have xX8 := X8.cell
     go_wp2_with fail
     refine (qSign p22.wr HS.out).mono ?_; rintro ee w8 ⟨rfl, B⟩; clear xX8; replace XR := XR.below B; replace XS := XS.below B; replace X5 := X5.below B; replace X6 := X6.below B; replace X8 := X8.below B; replace p5 := p5.below B; replace p6 := p6.below B; replace p22 := p22.below B; replace HB := Hqb HB B; clear B; clear p22 p6
     go_upto_region 15 with (fail)
     have HN1 : Hid (IntKind.i64.wrap (-(k : Int)) = -(k : Int)) := Lib.hid (IntWalk.i64_in _ (by omega))
     have HN2 : Hid (IntKind.i64.wrap (-(k : Int) - 1) = -(k : Int) - 1) := Lib.hid (IntWalk.i64_in _ (by omega))
     have HN3 : Hid (IntKind.i64.wrap ((k : Int) + 1) = (k : Int) + 1) := Lib.hid (IntWalk.i64_in _ (by omega))
     have HN4 : Hid (wrap64 ((k : Int) + 1) = (k : Int) + 1) := Lib.hid (IntWalk.wrap64_in _ (by omega))
     have HN5 : Hid (wrap64 (-(k : Int)) = -(k : Int)) := Lib.hid (IntWalk.wrap64_in _ (by omega))
     have HN6 : Hid (wrap64 (-(k : Int) - 1) = -(k : Int) - 1) := Lib.hid (IntWalk.wrap64_in _ (by omega))
     refine Jo.rk [0, 1, 2, 3, 4, 5, 6, 7, 8, 9, 10] [some 48, some 49, some 50, some 51, some 52, some 53, some 54, some 55, some 56, some 57, some 58, none, none] [[], [], [1], [2], [3], [0, 4], [], [], [7], [8], [6, 9], [], []] 13 2 [Jo.Fact.eq (.agg #[.bool s5, .slice A5 n5 c5]), Jo.qi k, Jo.Fact.eq (.int .i64 (-(k : Int))), Jo.Fact.eq (.int .i64 (-(k : Int) - 1)), Jo.Fact.wn (-(k : Int) - 1) (2), Jo.Fact.wn (a) (1000000), Jo.Fact.eq (.agg #[.bool s5, .slice A5 n5 c5]), Jo.qi k, Jo.Fact.eq (.int .i64 ((k : Int) + 1)), Jo.Fact.wn ((k : Int) + 1) (2), Jo.Fact.wn (b) (1000000), Jo.Fact.any, Jo.Fact.any] (by kernel_rfl) (by kernel_rfl) (by decide) rfl ?_ ?_
     · iterate 2 (refine Jo.jm rfl ?_ ?_; rotate_left)
       refine Jo.jm rfl ?_ ?_
       · rintro wj hJ _ rfl K hK; simp only [Jo.z] at hK ⊢; have hw := HN1.out; have hw5 := HN5.out; go_simp
         exact hK.out _ _ (by first | rfl | (show Value.int _ _ = Value.int _ _; simp_all)) (br _ _)
       refine Jo.jm rfl ?_ ?_
       · rintro wj hJ _ rfl K hK; simp only [Jo.z] at hK ⊢; have hw := HN2.out; have hw6 := HN6.out; go_simp
         exact hK.out _ _ (by first | rfl | (show Value.int _ _ = Value.int _ _; simp_all)) (br _ _)
       refine Jo.jm rfl ?_ ?_
       · rintro wj hJ _ rfl K hK; simp only [Jo.z] at hK ⊢; go_simp; refine (qFrom _ _ (by omega) (by omega)).mono ?_; rintro ee wk ⟨s30, A30, n30, c30, rfl, p30, k30, B⟩; exact hK.out _ _ ⟨s30, A30, n30, c30, rfl, p30, k30⟩ B
       refine Jo.jm rfl ?_ ?_
       · rintro wj hJ _ rfl _ ⟨s30, A30, n30, c30, rfl, p30, k30⟩ K hK; simp only [Jo.z] at hK ⊢; go_simp; refine (qAdd (p5.below hJ).wr p30.wr (by omega) (by omega) HA2.out).mono ?_; rintro ee wk ⟨s31, A31, n31, c31, rfl, p31, k31, B⟩; exact hK.out _ _ ⟨s31, A31, n31, c31, rfl, p31, by omega⟩ B
       iterate 2 (refine Jo.jm rfl ?_ ?_; rotate_left)
       refine Jo.jm rfl ?_ ?_
       · rintro wj hJ _ rfl K hK; simp only [Jo.z] at hK ⊢; have hw := HN3.out; have hw4 := HN4.out; go_simp
         exact hK.out _ _ (by first | rfl | (show Value.int _ _ = Value.int _ _; simp_all)) (br _ _)
       refine Jo.jm rfl ?_ ?_
       · rintro wj hJ _ rfl K hK; simp only [Jo.z] at hK ⊢; go_simp; refine (qFrom _ _ (by omega) (by omega)).mono ?_; rintro ee wk ⟨s32, A32, n32, c32, rfl, p32, k32, B⟩; exact hK.out _ _ ⟨s32, A32, n32, c32, rfl, p32, k32⟩ B
       refine Jo.jm rfl ?_ ?_
       · rintro wj hJ _ rfl _ ⟨s32, A32, n32, c32, rfl, p32, k32⟩ K hK; simp only [Jo.z] at hK ⊢; go_simp; refine (qAdd (p5.below hJ).wr p32.wr (by omega) (by omega) HB2.out).mono ?_; rintro ee wk ⟨s33, A33, n33, c33, rfl, p33, k33, B⟩; exact hK.out _ _ ⟨s33, A33, n33, c33, rfl, p33, by omega⟩ B
       exact Jo.Steps.nil
       all_goals (rintro wj hJ; (repeat rintro _ rfl); intro K hK; simp only [Jo.z] at hK ⊢; have xX5 := (X5.below hJ).cell; go_simp; exact hK.out _ _ rfl (br _ _))
     rintro w9 hJ _ rfl _ rfl _ rfl _ rfl _ ⟨s30, A30, n30, c30, rfl, p30, k30⟩ _ ⟨s31, A31, n31, c31, rfl, p31, k31⟩ _ rfl _ rfl _ rfl _ ⟨s32, A32, n32, c32, rfl, p32, k32⟩ _ ⟨s33, A33, n33, c33, rfl, p33, k33⟩ -; simp only [Jo.z]; replace XR := XR.below hJ; replace XS := XS.below hJ; replace X5 := X5.below hJ; replace X6 := X6.below hJ; replace X8 := X8.below hJ; replace p5 := p5.below hJ; replace HB := Hqb HB hJ
     have xXR := XR.cell; have zXR0 := XR.frozen
     refine Jo.jnext (i := 11) (o := ⟨none, _, _, _, _, _⟩) (by kernel_rfl) rfl (fun K hK => ?_)
     go_simp; refine hK.out _ _ ?_; clear hK K xXR zXR0; generalize hS : (w9.setCell _ _).setCell _ _ = wA at *; have SX := StN.of2 XR hS; replace XS := XS.stn SX (by omega); replace X5 := X5.stn SX (by omega); replace X6 := X6.stn SX (by omega); replace X8 := X8.stn SX (by omega); replace p31 := p31.stn SX (by simp [no32]); replace p33 := p33.stn SX (by simp [no32]); replace HB := Hqs HB SX (by omega)
     replace XR := SX.box; clear SX hS; have xXS := XS.cell; have zXS0 := XS.frozen
     refine Jo.jnext (i := 12) (o := ⟨none, _, _, _, _, _⟩) (by kernel_rfl) rfl (fun K hK => ?_)
     go_simp; refine hK.out _ _ ?_; clear hK K xXS zXS0; generalize hS : (wA.setCell _ _).setCell _ _ = wB at *; have SX := StN.of2 XS hS; replace XR := XR.stn SX (by omega); replace X5 := X5.stn SX (by omega); replace X6 := X6.stn SX (by omega); replace X8 := X8.stn SX (by omega); replace p31 := p31.stn SX (by simp [no32]); replace p33 := p33.stn SX (by simp [no32]); replace HB := Hqs HB SX (by omega)
     replace XS := SX.box; clear SX hS; refine Jo.jdone (by kernel_rfl) ?_; go_wp2; exact bodyPost_ret (v := .tuple #[.agg #[.bool s31, .slice A31 n31 c31], .agg #[.bool s33, .slice A33 n33 c33]]) (by simp [results, Tryz.results7, go_sem, XR.cell, XS.cell]) rfl ⟨s31, A31, n31, c31, s33, A33, n33, c33, rfl, p31, p33, k31, k33, HB.out⟩
   · have HS : Hid (cmpI T 0 = 1) := Lib.hid (cmpI_gt (by omega))
     obtain ⟨hk1, hp1, hG1⟩ := HNZ.out hc; have HP1 := Lib.hid hp1; have HG1 := Lib.hid hG1
     have HW4 : Hid (IntKind.i64.wrap ((k : Int) + 1) = (k : Int) + 1) := Lib.hid (IntWalk.i64_in _ (by omega))
     have HW5 : Hid (wrap64 ((k : Int) + 1) = (k : Int) + 1) := Lib.hid (IntWalk.wrap64_in _ (by omega))
     clear HZ HNZ HA HBB hp1 hG1 hc hT0; have xX8 := X8.cell
     go_wp2_with fail
     refine (qSign p22.wr HS.out).mono ?_; rintro ee w8 ⟨rfl, B⟩; clear xX8; replace XR := XR.below B; replace XS := XS.below B; replace X5 := X5.below B; replace X6 := X6.below B; replace X8 := X8.below B; replace p5 := p5.below B; replace p6 := p6.below B; replace p22 := p22.below B; replace HB := Hqb HB B; clear B; have hG2 := HG1.out; clear HG1
     by_cases hodd : k % 2 = 1
     · rw [if_pos hodd] at hG2; have HG1 := Lib.hid hG2; clear hG2
       have t9 : (Int.tmod (k : Int) 2 == 1) = true := by
         rw [show Int.tmod (k : Int) 2 = 1 by rw [Int.tmod_eq_emod_of_nonneg (by omega)]; omega]
         rfl
       have xX8 := X8.cell
       go_wp2_with fail
       refine (qNeg p22.wr rfl).mono ?_; rintro ee w9 ⟨s23, A23, n23, c23, rfl, p23, k23, B⟩; clear xX8; replace XR := XR.below B; replace XS := XS.below B; replace X5 := X5.below B; replace X6 := X6.below B; replace X8 := X8.below B; replace p5 := p5.below B; replace p6 := p6.below B; replace p22 := p22.below B; replace HB := Hqb HB B; clear B; clear p22; have xX8 := X8.cell
       have zX80 := X8.frozen
       go_upto_region 12 with (fail)
       clear xX8 zX80; generalize hS : (w9.setCell _ _).setCell _ _ = wA at *; have SX := StN.of2 X8 hS; replace XR := XR.stn SX (by omega); replace XS := XS.stn SX (by omega); replace X5 := X5.stn SX (by omega); replace X6 := X6.stn SX (by omega); replace p5 := p5.stn SX (by simp [no32]); replace p6 := p6.stn SX (by simp [no32]); replace p23 := p23.stn SX (by simp [no32]); replace HB := Hqs HB SX (by omega)
       replace X8 := SX.box; clear SX hS; clear t9; clear hodd; have xX5 := X5.cell; have xX8 := X8.cell
       go_wp2_with fail
       refine (qAdd p5.wr p23.wr (by omega) (by omega) rfl).mono ?_; rintro ee wBa ⟨s24, A24, n24, c24, rfl, p24, k24, B⟩; clear xX5 xX8; replace XR := XR.below B; replace XS := XS.below B; replace X5 := X5.below B; replace X6 := X6.below B; replace X8 := X8.below B; replace p5 := p5.below B; replace p6 := p6.below B; replace p23 := p23.below B; replace HB := Hqb HB B; clear B
       clear p5 p23; have xX5 := X5.cell; have zX50 := X5.frozen
       go_upto_region 13 with (fail)
       clear xX5 zX50; generalize hS : (wBa.setCell _ _).setCell _ _ = wBb at *; have SX := StN.of2 X5 hS; replace XR := XR.stn SX (by omega); replace XS := XS.stn SX (by omega); replace X6 := X6.stn SX (by omega); replace X8 := X8.stn SX (by omega); replace p6 := p6.stn SX (by simp [no32]); replace p24 := p24.stn SX (by simp [no32]); replace HB := Hqs HB SX (by omega); replace X5 := SX.box
       clear SX hS; have hnn := HNN.out; have xX6 := X6.cell
       go_wp2_with fail
       refine (jTimes p6.wr (by omega) (Int.le_trans (by decide) HNB.out.1) (Int.le_trans HNB.out.2 (by decide)) rfl).mono ?_; rintro ee wBc ⟨s25, A25, n25, c25, rfl, p25, k25, B⟩; clear xX6; replace XR := XR.below B; replace XS := XS.below B; replace X5 := X5.below B; replace X6 := X6.below B; replace X8 := X8.below B; replace p6 := p6.below B; replace p24 := p24.below B; replace HB := Hqb HB B
       clear B; clear p6 hnn; have xX6 := X6.cell; have zX60 := X6.frozen
       go_upto_region 14 with (fail)
       clear xX6 zX60; generalize hS : (wBc.setCell _ _).setCell _ _ = wBd at *; have SX := StN.of2 X6 hS; replace XR := XR.stn SX (by omega); replace XS := XS.stn SX (by omega); replace X5 := X5.stn SX (by omega); replace X8 := X8.stn SX (by omega); replace p24 := p24.stn SX (by simp [no32]); replace p25 := p25.stn SX (by simp [no32]); replace HB := Hqs HB SX (by omega); replace X6 := SX.box
       clear SX hS
       have hn5 : n24 ≤ 1000 * (k + 1) := by omega
       have hn6 : n25 ≤ 2 + 4 * (k + 1) := by omega
       have hw4 := HW4.out; have hw5 := HW5.out; go_wp2; clear hw4 hw5
       go_roundw
       case rel => exact ⟨k + 1, by go_num, _, _, _, _, _, _, _, _, _, _, XR, XS, X5, X6, p24, p25, hn5, hn6, hk1, HP1.out, HG1.out, HB.out⟩
       case measure => simp [intOf]; omega
     · rw [if_neg hodd] at hG2; have HG1 := Lib.hid hG2; clear hG2
       have t9 : (Int.tmod (k : Int) 2 == 1) = false := by
         rw [show Int.tmod (k : Int) 2 = 0 by rw [Int.tmod_eq_emod_of_nonneg (by omega)]; omega]
         rfl
       have p23 := p22; have k23 := k22; clear p22
       go_upto_region 12 with (fail)
       clear t9; clear hodd; have xX5 := X5.cell; have xX8 := X8.cell
       go_wp2_with fail
       refine (qAdd p5.wr p23.wr (by omega) (by omega) rfl).mono ?_; rintro ee wBa ⟨s24, A24, n24, c24, rfl, p24, k24, B⟩; clear xX5 xX8; replace XR := XR.below B; replace XS := XS.below B; replace X5 := X5.below B; replace X6 := X6.below B; replace X8 := X8.below B; replace p5 := p5.below B; replace p6 := p6.below B; replace p23 := p23.below B; replace HB := Hqb HB B; clear B
       clear p5 p23; have xX5 := X5.cell; have zX50 := X5.frozen
       go_upto_region 13 with (fail)
       clear xX5 zX50; generalize hS : (wBa.setCell _ _).setCell _ _ = wBb at *; have SX := StN.of2 X5 hS; replace XR := XR.stn SX (by omega); replace XS := XS.stn SX (by omega); replace X6 := X6.stn SX (by omega); replace X8 := X8.stn SX (by omega); replace p6 := p6.stn SX (by simp [no32]); replace p24 := p24.stn SX (by simp [no32]); replace HB := Hqs HB SX (by omega); replace X5 := SX.box
       clear SX hS; have hnn := HNN.out; have xX6 := X6.cell
       go_wp2_with fail
       refine (jTimes p6.wr (by omega) (Int.le_trans (by decide) HNB.out.1) (Int.le_trans HNB.out.2 (by decide)) rfl).mono ?_; rintro ee wBc ⟨s25, A25, n25, c25, rfl, p25, k25, B⟩; clear xX6; replace XR := XR.below B; replace XS := XS.below B; replace X5 := X5.below B; replace X6 := X6.below B; replace X8 := X8.below B; replace p6 := p6.below B; replace p24 := p24.below B; replace HB := Hqb HB B
       clear B; clear p6 hnn; have xX6 := X6.cell; have zX60 := X6.frozen
       go_upto_region 14 with (fail)
       clear xX6 zX60; generalize hS : (wBc.setCell _ _).setCell _ _ = wBd at *; have SX := StN.of2 X6 hS; replace XR := XR.stn SX (by omega); replace XS := XS.stn SX (by omega); replace X5 := X5.stn SX (by omega); replace X8 := X8.stn SX (by omega); replace p24 := p24.stn SX (by simp [no32]); replace p25 := p25.stn SX (by simp [no32]); replace HB := Hqs HB SX (by omega); replace X6 := SX.box
       clear SX hS
       have hn5 : n24 ≤ 1000 * (k + 1) := by omega
       have hn6 : n25 ≤ 2 + 4 * (k + 1) := by omega
       have hw4 := HW4.out; have hw5 := HW5.out; go_wp2; clear hw4 hw5
       go_roundw
       case rel => exact ⟨k + 1, by go_num, _, _, _, _, _, _, _, _, _, _, XR, XS, X5, X6, p24, p25, hn5, hn6, hk1, HP1.out, HG1.out, HB.out⟩
       case measure => simp [intOf]; omega
theorem jInv {w : World} {n a b : Int} (hr : invP n = (a, b)) : Calls Tryz.prog 7 #[.int .i64 n] w (W2 w 1000000 a b) := by
 by_cases h1 : n < 2
 · unfold invP at hr
   rw [if_pos (.inl h1)] at hr
   injection hr with e1 e2
   subst e1; subst e2; exact jinv_lo h1
 · by_cases h2 : 1000 < n
   · unfold invP at hr
     rw [if_pos (.inr h2)] at hr
     injection hr with e1 e2
     subst e1; subst e2; exact jinv_hi h2
   · exact jinv_in (by omega) (by omega) hr
end Go.Proofs.YtmmallhniijdfaaGreatDoor

/-
 Contracts that the proof rests on.
-/
import Derived.Test.YtmmallhniijdfaaDoorYAax
namespace Go.Proofs.YtmmallhniijdfaaDoor
set_option maxHeartbeats 8000000
open Go.RowKit
set_option linter.unusedVariables false
set_option linter.unusedSimpArgs false
set_option maxRecDepth 100000
theorem cScale {w : World} : Calls Tryd.prog 52 #[] w (W1 w 8 SC) := by
 go_enter Tryd.func52, Tryd.ntmps52
 go_upto_region 1 with (fail)
 generalize hW1 : w.alloc _ = w1 at *; obtain ⟨XR, HB⟩ := Bo.en1 hW1; clear hW1
 go_wp2_with fail
 refine (vShl (a := 1) 192 ⟨_, [1], one_limb w1, rfl⟩ (by decide) (by decide)).mono ?_; rintro ee w2 ⟨A2, n2, c2, rfl, p2, k2, B⟩; replace B := bt (bel1 _ (.cells #[.int .u32 1] 61)) B; replace XR := XR.below B; replace HB := Hqb HB B; clear B
 go_wp2_with fail
 refine (wMake false p2.rd).mono ?_; rintro ee w3 ⟨s3, A3, n3, c3, rfl, p3, k3, B⟩; replace XR := XR.below B; replace p2 := p2.below B; replace HB := Hqb HB B; clear B; clear p2
 replace p3 : Wn w3 s3 A3 n3 c3 SC := by rw [show SC = sg false (1 * 2 ^ 192) by decide]; exact p3
 have xXR := XR.cell; have zXR0 := XR.frozen; go_wp2; clear xXR zXR0; have SX := StN.mk2 XR (.bool s3) (.slice A3 n3 c3); replace p3 := p3.stn SX (by simp [no32]); exact bodyPost_ret (v := .agg #[.bool s3, .slice A3 n3 c3]) (by simp [results, Tryd.results52, go_sem, SX.box.cell]) rfl ⟨s3, A3, n3, c3, rfl, p3, by omega, (SX.below HB.out (by omega))⟩
theorem cPiece {w : World} {A : Option Addr} {n c K : Nat} {zs : List Int} {y q : Int} (h : Wl w A n c K zs) (hK : 1 + n * K ≤ 1000) (hy : prd zs = y) (h0 : y ≠ 0) (hq : SC.fdiv y = q) : Calls Tryd.prog 69 #[.slice A n c] w (W1 w 2000 q) := by
 go_enter Tryd.func69, Tryd.ntmps69
 go_upto_region 1 with (fail)
 generalize hW1 : w.alloc _ = w1 at *; obtain ⟨XR, HB⟩ := Bo.en1 hW1; replace h := h.below HB.out; clear hW1
 go_wp2_with fail
 refine (cScale).mono ?_; rintro ee w2 ⟨s2, A2, n2, c2, rfl, p2, k2, B⟩; replace XR := XR.below B; replace h := h.below B; replace HB := Hqb HB B; clear B
 go_wp2_with fail
 refine (wMul h (by omega) hy).mono ?_; rintro ee w3 ⟨s3, A3, n3, c3, rfl, p3, k3, B⟩; replace XR := XR.below B; replace h := h.below B; replace p2 := p2.below B; replace HB := Hqb HB B; clear B; clear h
 go_wp2_with fail
 refine (wDiv p2.wr p3.wr (by omega) (by omega) h0 hq rfl).mono ?_; rintro ee w4 ⟨s8, A8, n8, c8, s9, A9, n9, c9, rfl, p8, p9, k8, k9, B⟩; replace XR := XR.below B; replace p2 := p2.below B; replace p3 := p3.below B; replace HB := Hqb HB B; clear B; clear p2 p3
 go_upto_region 2 with (fail)
 have e4X6 : (World.alloc w4 (.cells #[.bool s8, .slice A8 n8 c8] 28)).heap.size = w4.heap.size + 1 := by simp
 have lX5 := Nat.le_refl (World.heap w4).size; have nX5XR := XR.lt; have BX := bel1 w4 (.cells #[.bool s8, .slice A8 n8 c8] 28); replace XR := XR.below BX; replace p8 := p8.below BX; replace p9 := p9.below BX; replace HB := Lib.hid (bt HB.out BX); have X5 := Bo.new w4 #[.bool s8, .slice A8 n8 c8] 28
 generalize hWn : World.alloc w4 (.cells #[.bool s8, .slice A8 n8 c8] 28) = w5 at *; clear hWn; have lX6 := Nat.le_refl (World.heap w5).size; have nX6XR := XR.lt; have nX6X5 := X5.lt; generalize hWn : w5.alloc _ = w6 at *; obtain ⟨X6, BW⟩ := Bo.nw hWn; clear hWn; replace XR := XR.below BW; replace X5 := X5.below BW; replace p8 := p8.below BW; replace p9 := p9.below BW; replace HB := Hqb HB BW
 clear BW; rw [e4X6] at X6; clear lX5 lX6 e4X6; clear p9; have xXR := XR.cell; have zXR0 := XR.frozen; have xX5 := X5.cell; go_wp2; clear xXR zXR0 xX5; have SX := StN.mk2 XR (.bool s8) (.slice A8 n8 c8); replace p8 := p8.stn SX (by simp [no32]); exact bodyPost_ret (v := .agg #[.bool s8, .slice A8 n8 c8]) (by simp [results, Tryd.results69, go_sem, SX.box.cell]) rfl ⟨s8, A8, n8, c8, rfl, p8, by omega, (SX.below HB.out (by omega))⟩
def PNx (w : World) (gp go : Nat) (T P O : Int) (e : Ending) (w' : World) : Prop := ∃ s A n c s6 A6 n6 c6, e = .returned (.agg #[.bool s, .slice A n c]) ∧ Wn w' s A n c T ∧ n ≤ 8 ∧ Bo w' gp #[.bool s6, .slice A6 n6 c6] 28 ∧ Wn w' s6 A6 n6 c6 P ∧ n6 ≤ 10 ∧ Bo w' go #[.int .i64 O] 3 ∧ Duo gp go w w'
theorem cNext {w : World} {gp go gb k : Nat} {s6 s7 : Bool} {A6 A7 : Option Addr} {n6 c6 n7 c7 : Nat} {p n T : Int} (XP : Bo w gp #[.bool s6, .slice A6 n6 c6] 28) (XO : Bo w go #[.int .i64 (2 * (k : Int) + 1)] 3) (XB : Bo w gb #[.bool s7, .slice A7 n7 c7] 28) (p6 : Wn w s6 A6 n6 c6 p) (p7 : Wn w s7 A7 n7 c7 n) (k6 : n6 ≤ 10) (k7 : n7 ≤ 2) (hpo : gp ≠ go) (hpb : gp ≠ gb) (hob : go ≠ gb)
   (hk : k ≤ 1000) (hp : 0 < p) (hp2 : p ≤ SC * 1000000) (h1 : 2 ≤ n) (h2 : n ≤ 1000) (hT : SC.fdiv (p * (2 * (k : Int) + 1)) = T) :
   Calls Tryd.prog 68 #[.pointer (some ⟨gp, 0, none⟩), .pointer (some ⟨go, 0, none⟩), .pointer (some ⟨gb, 0, none⟩)] w (PNx w gp go T (p * (n * n)) (2 * (k : Int) + 3)) := by
 have HT := Lib.hid hT
 have HY : Hid (prd [p, 2 * (k : Int) + 1] = p * (2 * (k : Int) + 1)) := Lib.hid (by show 1 * p * (2 * (k : Int) + 1) = _; rw [Int.one_mul])
 have H0 : Hid (p * (2 * (k : Int) + 1) ≠ 0) := Lib.hid (by have := Int.mul_pos hp (show (0 : Int) < 2 * (k : Int) + 1 by omega); omega)
 have HM : Hid (prd [p, n, n] = p * (n * n)) := Lib.hid (by show 1 * p * n * n = _; rw [Int.one_mul, Int.mul_assoc])
 have HTB := Lib.hid (term_bd hp hT); have HPB := Lib.hid (power_bd hp hp2 h1 h2)
 have HW1 : Hid (IntKind.i64.wrap (2 * (k : Int) + 1 + 2) = 2 * (k : Int) + 3) := Lib.hid (by rw [show 2 * (k : Int) + 1 + 2 = 2 * (k : Int) + 3 by omega]; exact IntWalk.i64_in _ (by omega))
 have HW2 : Hid (wrap64 (2 * (k : Int) + 1 + 2) = 2 * (k : Int) + 3) := Lib.hid (by rw [show 2 * (k : Int) + 1 + 2 = 2 * (k : Int) + 3 by omega]; exact IntWalk.wrap64_in _ (by omega))
 have HK : Hid (2 * (k : Int) + 1 ≤ 3000) := Lib.hid (by omega)
 have G1 := XP.lt; have G2 := XO.lt; have G3 := XB.lt; clear hT hp hp2 h1 h2
 go_enter Tryd.func68, Tryd.ntmps68
 go_upto_region 1 with (fail)
 have XR := Bo.newAt w (g := w.heap.size) rfl #[.bool false, .slice none 0 0] 28
 have HB : Hid (Duo gp go w (World.alloc w (.cells #[.bool false, .slice none 0 0] 28))) := Lib.hid (.of (bel1 w (.cells #[.bool false, .slice none 0 0] 28)))
 replace XP := XP.below (bel1 w (.cells #[.bool false, .slice none 0 0] 28)); replace XO := XO.below (bel1 w (.cells #[.bool false, .slice none 0 0] 28)); replace XB := XB.below (bel1 w (.cells #[.bool false, .slice none 0 0] 28)); replace p6 := p6.below (bel1 w (.cells #[.bool false, .slice none 0 0] 28)); replace p7 := p7.below (bel1 w (.cells #[.bool false, .slice none 0 0] 28)); generalize hW1 : World.alloc w (.cells #[.bool false, .slice none 0 0] 28) = w1 at *
 clear hW1; have ltXP := XP.lt; have ltXO := XO.lt; have ltXB := XB.lt; have ltXR := XR.lt; refine Jo.rk [0, 1, 2, 3, 4, 5] [some 5, some 6, some 7, some 8, some 9, some 4, none] [[], [], [1], [0, 2], [3], [], []] 7 1 [Jo.Fact.eq (.agg #[.bool s6, .slice A6 n6 c6]), Jo.Fact.eq (.int .i64 (2 * (k : Int) + 1)), Jo.Fact.wn (2 * (k : Int) + 1) (2), Jo.Fact.wl 10 2 [p, 2 * (k : Int) + 1], Jo.Fact.wn (T) (8), Jo.Fact.bo w1.heap.size #[.bool false, .slice none 0 0] 28, Jo.Fact.any] (by kernel_rfl) (by kernel_rfl) (by decide) rfl ?_ ?_
 · refine Jo.jm rfl ?_ ?_
   · rintro wj hJ K hK; simp only [Jo.z] at hK ⊢; have xXP := (XP.below hJ).cell; go_simp; exact hK.out _ _ rfl (br _ _)
   refine Jo.jm rfl ?_ ?_
   · rintro wj hJ K hK; simp only [Jo.z] at hK ⊢; have xXO0 := (XO.below hJ).a 0 (.int .i64 (2 * (k : Int) + 1)) rfl; go_simp; exact hK.out _ _ rfl (br _ _)
   refine Jo.jm rfl ?_ ?_
   · rintro wj hJ _ rfl K hK; simp only [Jo.z] at hK ⊢; go_simp; refine (wFrom _ _ (by omega) (by omega)).mono ?_; rintro ee wk ⟨s20, A20, n20, c20, rfl, p20, k20, B⟩; exact hK.out _ _ ⟨s20, A20, n20, c20, rfl, p20, k20⟩ B
   refine Jo.jm rfl ?_ ?_
   · rintro wj hJ _ rfl _ ⟨s20, A20, n20, c20, rfl, p20, k20⟩ K hK; simp only [Jo.z] at hK ⊢; go_simp; exact hK.out _ _ ⟨_, _, rfl, Wl.lit2 rfl (p6.below hJ).wr p20.wr (by omega) (by omega)⟩ (bel1 _ _)
   refine Jo.jm rfl ?_ ?_
   · rintro wj hJ _ ⟨A25, c25, rfl, h25⟩ K hK; simp only [Jo.z] at hK ⊢; go_simp; refine (cPiece h25 (by decide) HY.out H0.out HT.out).mono ?_; rintro ee wk ⟨s21, A21, n21, c21, rfl, p21, k21, B⟩; exact hK.out _ _ ⟨s21, A21, n21, c21, rfl, p21, (p21.fits (small8 HTB.out))⟩ B
   refine Jo.jm rfl ?_ ?_
   · rintro wj hJ K hK; simp only [Jo.z] at hK ⊢; go_simp; exact hK.out _ _ ⟨_, rfl, hJ.size, Bo.new _ _ _⟩ (bel1 _ _)
   exact Jo.Steps.nil
 rintro w2 hJ _ rfl _ rfl _ ⟨s20, A20, n20, c20, rfl, p20, k20⟩ _ ⟨_, _, rfl, _⟩ _ ⟨s21, A21, n21, c21, rfl, p21, k21⟩ _ ⟨g8, rfl, hg8, X8⟩ -; simp only [Jo.z]; replace XP := XP.below hJ; replace XO := XO.below hJ; replace XB := XB.below hJ; replace XR := XR.below hJ; replace p6 := p6.below hJ; replace p7 := p7.below hJ; replace HB := Lib.hid (HB.out.mv hJ); have xX8 := X8.cell; have zX80 := X8.frozen
 refine Jo.jnext (i := 6) (o := ⟨none, _, _, _, _, _⟩) (by kernel_rfl) rfl (fun K hK => ?_)
 go_simp; refine hK.out _ _ ?_; clear hK K xX8 zX80; generalize hS : (w2.setCell _ _).setCell _ _ = w3 at *; have SX := StN.of2 X8 hS; replace XP := XP.stn SX (by omega); replace XO := XO.stn SX (by omega); replace XB := XB.stn SX (by omega); replace XR := XR.stn SX (by omega); replace p6 := p6.stn SX (by simp [no32]); replace p7 := p7.stn SX (by simp [no32]); replace p21 := p21.stn SX (by simp [no32])
 replace HB := Lib.hid (HB.out.stn SX (by omega)); replace X8 := SX.box; clear SX hS; refine Jo.jdone (by kernel_rfl) ?_; have xXP := XP.cell; have xXB := XB.cell
 go_wp2_with fail
 refine (wMul (Wl.lit3 (K := 10) rfl p6.wr p7.wr p7.wr (by omega) (by omega) (by omega)) (by decide) HM.out).mono ?_; rintro ee w4 ⟨s22, A22, n22, c22, rfl, p22, k22, B⟩; replace B := bt (bel1 _ _) B; clear xXP xXB; replace XP := XP.below B; replace XO := XO.below B; replace XB := XB.below B; replace XR := XR.below B; replace X8 := X8.below B; replace p6 := p6.below B; replace p7 := p7.below B
 replace p21 := p21.below B; replace HB := Lib.hid (HB.out.mv B); clear B p6 p7
 replace k22 : n22 ≤ 10 := p22.fits (small10 HPB.out)
 have xXP := XP.cell; have zXP0 := XP.frozen
 go_upto_region 3 with (fail)
 clear xXP zXP0; generalize hS : (w4.setCell _ _).setCell _ _ = w5 at *; have SX := StN.of2 XP hS; replace XO := XO.stn SX (by omega); replace XB := XB.stn SX (by omega); replace XR := XR.stn SX (by omega); replace X8 := X8.stn SX (by omega); replace p21 := p21.stn SX (by simp [no32]); replace p22 := p22.stn SX (by simp [no32]); replace HB := Lib.hid (HB.out.stn SX (by omega)); replace XP := SX.box
 clear SX hS; have hw1 := HW1.out; have hw2 := HW2.out; have xXO0 := XO.a 0 (.int .i64 (2 * (k : Int) + 1)) rfl; have zXO0 := XO.frozen 0
 go_upto_region 4 with (fail)
 clear hw1 hw2; clear xXO0 zXO0
 have SX : StN w5 (World.setCell w5 ⟨go, 0, none⟩ (.int .i64 (2 * (k : Int) + 3))) _ _ #[.int .i64 (2 * (k : Int) + 3)] _ := StN.at4 XO 0 (.int .i64 (2 * (k : Int) + 3))
 replace XP := XP.stn SX (by omega); replace XB := XB.stn SX (by omega); replace XR := XR.stn SX (by omega); replace X8 := X8.stn SX (by omega); replace p21 := p21.stn SX (by simp [no32]); replace p22 := p22.stn SX (by simp [no32]); replace HB := Lib.hid (HB.out.stn SX (by omega)); replace XO := SX.box; clear SX; generalize World.setCell w5 ⟨go, 0, none⟩ (.int .i64 (2 * (k : Int) + 3)) = w6 at *; have xXR := XR.cell
 have zXR0 := XR.frozen; have xX8 := X8.cell; go_wp2; clear xXR zXR0 xX8; generalize hS : (w6.setCell _ _).setCell _ _ = w7 at *; have SX := StN.of2 XR hS; replace XP := XP.stn SX (by omega); replace XO := XO.stn SX (by omega); replace XB := XB.stn SX (by omega); replace X8 := X8.stn SX (by omega); replace p21 := p21.stn SX (by simp [no32]); replace p22 := p22.stn SX (by simp [no32])
 replace HB := Lib.hid (HB.out.stn SX (by omega)); replace XR := SX.box; clear SX hS; exact bodyPost_ret (v := .agg #[.bool s21, .slice A21 n21 c21]) (by simp [results, Tryd.results68, go_sem, XR.cell]) rfl ⟨s21, A21, n21, c21, s22, A22, n22, c22, rfl, p21, k21, XP, p22, k22, XO, HB.out⟩
theorem cTerms {w : World} {n : Int} (h1 : 2 ≤ n) (h2 : n ≤ 1000) : Calls Tryd.prog 41 #[.int .i64 n] w (fun e w' => ∃ gp go gb s6 A6 n6 c6 s7 A7 n7 c7, e = .returned (.func (.func 68) #[] #[.pointer (some ⟨gp, 0, none⟩), .pointer (some ⟨go, 0, none⟩), .pointer (some ⟨gb, 0, none⟩)]) ∧ Bo w' gp #[.bool s6, .slice A6 n6 c6] 28 ∧ Bo w' go #[.int .i64 1] 3 ∧ Bo w' gb #[.bool s7, .slice A7 n7 c7] 28 ∧ Wn w' s6 A6 n6 c6 n ∧ Wn w' s7 A7 n7 c7 n ∧ n6 ≤ 2 ∧ n7 ≤ 2 ∧ gp ≠ go ∧ gp ≠ gb ∧ go ≠ gb ∧ w.heap.size ≤ gp ∧ w.heap.size ≤ go ∧ Below w.heap.size w w') := by
 have hmf : ∀ (fn : Fn) (first cap : Array Value) (w : World), (Instr.makeFunc fn first cap).run Tryd.prog w = .ok (.func fn first cap) w := fun _ _ _ _ => rfl
 have HB := Lib.hid (Below.refl w.heap.size w)
 go_enter Tryd.func41, Tryd.ntmps41
 go_wp2_with fail
 refine (wFrom n _ (by omega) (by omega)).mono ?_; rintro ee w2 ⟨s7, A7, n7, c7, rfl, p7, k7, B⟩; replace HB := Hqb HB B; clear B
 go_wp2_with fail
 refine (wFrom n _ (by omega) (by omega)).mono ?_; rintro ee w3 ⟨s6, A6, n6, c6, rfl, p6, k6, B⟩; replace p7 := p7.below B; replace HB := Hqb HB B; clear B; have hsz := HB.out.size
 go_upto_region 2 with (fail)
 have e4XP : (World.alloc w3 (.cells #[.bool s7, .slice A7 n7 c7] 28)).heap.size = w3.heap.size + 1 := by simp
 have e4XO : (World.alloc (World.alloc w3 (.cells #[.bool s7, .slice A7 n7 c7] 28)) (.cells #[.bool s6, .slice A6 n6 c6] 28)).heap.size = w3.heap.size + 1 + 1 := by simp
 have lXB := Nat.le_refl (World.heap w3).size; have BX := bel1 w3 (.cells #[.bool s7, .slice A7 n7 c7] 28); replace p6 := p6.below BX; replace p7 := p7.below BX; replace HB := Lib.hid (bt HB.out BX); have XB := Bo.new w3 #[.bool s7, .slice A7 n7 c7] 28; generalize hWn : World.alloc w3 (.cells #[.bool s7, .slice A7 n7 c7] 28) = w4 at *
 clear hWn; have lXP := Nat.le_refl (World.heap w4).size; have nXPXB := XB.lt; generalize hWn : w4.alloc _ = w5 at *; obtain ⟨XP, BW⟩ := Bo.nw hWn; clear hWn; replace XB := XB.below BW; replace p6 := p6.below BW; replace p7 := p7.below BW; replace HB := Hqb HB BW; clear BW; have lXO := Nat.le_refl (World.heap w5).size; have nXOXB := XB.lt; have nXOXP := XP.lt; generalize hWn : w5.alloc _ = w6 at *
 obtain ⟨XO, BW⟩ := Bo.nw hWn; clear hWn; replace XB := XB.below BW; replace XP := XP.below BW; replace p6 := p6.below BW; replace p7 := p7.below BW; replace HB := Hqb HB BW; clear BW; rw [e4XP] at XP; rw [e4XO] at XO; clear lXB lXP lXO; go_wp2; exact bodyPost_ret (v := .func (.func 68) #[] #[.pointer (some ⟨w3.heap.size + 1, 0, none⟩), .pointer (some ⟨w3.heap.size + 1 + 1, 0, none⟩), .pointer (some ⟨w3.heap.size, 0, none⟩)]) (by simp [results, Tryd.results41, go_sem]) rfl ⟨_, _, _, _, _, _, _, _, _, _, _, rfl, XP, XO, XB, p6, p7, k6, k7, by omega, by omega, by omega, by omega, by omega, HB.out⟩
theorem inv_step {n p s : Int} {k : Nat} {R : Int × Nat} (hn : 2 ≤ n) (hk : k ≤ 100) (hp : (2 : Int) ^ (2 * k + 1) ≤ p) (h : invG n (200 - k) k s p = R) : ∃ T : Int, SC.fdiv (p * (2 * (k : Int) + 1)) = T ∧ p * (2 * (k : Int) + 1) ≠ 0 ∧ 0 ≤ T ∧ (T = 0 → (s, k) = R) ∧
   (T ≠ 0 → k + 1 ≤ 100 ∧ (2 : Int) ^ (2 * (k + 1) + 1) ≤ p * (n * n) ∧ invG n (200 - (k + 1)) (k + 1) (if k % 2 = 1 then s + -T else s + T) (p * (n * n)) = R) := by
 have p2 : (0 : Int) < 2 ^ (2 * k + 1) := Int.pow_pos (by decide)
 have pp : 0 < p := by omega
 have hd : 0 < p * (2 * (k : Int) + 1) := Int.mul_pos pp (by omega)
 have hf : SC.fdiv (p * (2 * (k : Int) + 1)) = SC / (p * (2 * (k : Int) + 1)) := Int.fdiv_eq_ediv_of_nonneg _ (by omega)
 refine ⟨_, hf, by omega, Int.ediv_nonneg (by decide) (by omega), fun e => ?_, fun e => ?_⟩
 · rw [show 200 - k = (199 - k) + 1 by omega] at h
   unfold invG at h
   rw [if_pos e] at h; exact h
 · rw [show 200 - k = (200 - (k + 1)) + 1 by omega] at h
   unfold invG at h
   rw [if_neg e] at h
   have le : p * (2 * (k : Int) + 1) ≤ SC := by
     rcases Int.lt_or_le SC (p * (2 * (k : Int) + 1)) with c | c
     · exact absurd (Int.ediv_eq_zero_of_lt (by decide) c) e
     · exact c
   have le2 : p ≤ SC := Int.le_trans (by
     have : p * 1 ≤ p * (2 * (k : Int) + 1) := Int.mul_le_mul_of_nonneg_left (by omega) (by omega)
     omega) le
   refine ⟨?_, ?_, h⟩
   · rcases Nat.lt_or_ge k 100 with c | c
     · omega
     · exfalso
       have hk2 : k = 100 := by omega
       subst hk2
       have : (2 : Int) ^ (2 * 100 + 1) ≤ SC := Int.le_trans hp le2
       revert this
       decide
   · rw [show 2 * (k + 1) + 1 = (2 * k + 1) + 2 by omega, Int.pow_add]
     have h4 : (2 : Int) ^ 2 ≤ n * n := by
       have a : (2 : Int) * 2 ≤ n * 2 := Int.mul_le_mul_of_nonneg_right hn (by decide)
       have b : n * 2 ≤ n * n := Int.mul_le_mul_of_nonneg_left hn (by omega)
       show (4 : Int) ≤ n * n
       omega
     exact Int.mul_le_mul hp h4 (by decide) (by omega)
def AInv (w : World) (n : Int) (R : Int × Nat) (gp go gb gs : Nat) (s7 : Bool) (A7 : Option Addr) (n7 c7 k gt : Nat) (wr : World) : Prop := ∃ (s p T : Int) (s4 : Bool) (A4 : Option Addr) (n4 c4 : Nat) (s5 : Bool) (A5 : Option Addr) (n5 c5 : Nat) (s6 : Bool) (A6 : Option Addr) (n6 c6 : Nat),
 Bo wr w.heap.size #[.bool false, .slice none 0 0] 28 ∧ Bo wr gs #[.bool s4, .slice A4 n4 c4] 28 ∧ Bo wr gt #[.bool s5, .slice A5 n5 c5] 28 ∧ Bo wr gp #[.bool s6, .slice A6 n6 c6] 28 ∧ Bo wr go #[.int .i64 (2 * (k : Int) + 3)] 3 ∧ Bo wr gb #[.bool s7, .slice A7 n7 c7] 28 ∧
 Wn wr s4 A4 n4 c4 s ∧ Wn wr s5 A5 n5 c5 T ∧ Wn wr s6 A6 n6 c6 (p * (n * n)) ∧ Wn wr s7 A7 n7 c7 n ∧ n4 ≤ 1000 * k ∧ n5 ≤ 8 ∧ n6 ≤ 10 ∧ k ≤ 100 ∧ w.heap.size < gt ∧ gs ≠ gt ∧ (2 : Int) ^ (2 * k + 1) ≤ p ∧ p ≤ SC * 1000000 ∧ invG n (200 - k) k s p = R ∧ SC.fdiv (p * (2 * (k : Int) + 1)) = T ∧ Duo gp go w wr
def PAl (w : World) (gp go : Nat) (R : Int × Nat) (e : Ending) (w' : World) : Prop := ∃ s A m c, e = .returned (.tuple #[.agg #[.bool s, .slice A m c], .int .i64 (R.2 : Int)]) ∧ Wn w' s A m c R.1 ∧ m ≤ 200000 ∧ R.2 ≤ 100 ∧ Duo gp go w w'
theorem pow_pos2 {k : Nat} {p : Int} (h : (2 : Int) ^ (2 * k + 1) ≤ p) : 0 < p := Int.lt_of_lt_of_le (Int.pow_pos (by decide)) h
theorem next_bd {p n T : Int} {k : Nat} (hp : (2 : Int) ^ (2 * k + 1) ≤ p) (hT : SC.fdiv (p * (2 * (k : Int) + 1)) = T) (h1 : 2 ≤ n) (h2 : n ≤ 1000) (hc : T ≠ 0) : p * (n * n) ≤ SC * 1000000 := by
 have a := pow_pos2 hp; have b := term_le a hT hc
 have d : n * n ≤ 1000 * 1000 := Int.mul_le_mul h2 h2 (by omega) (by decide)
 exact Int.mul_le_mul b (by omega) (Int.mul_nonneg (by omega) (by omega)) (by decide)
theorem sum_step {R : Int × Nat} {n p s T : Int} {k f : Nat} (h : invG n f (k + 1) (if k % 2 = 1 then s + -T else s + T) p = R) : (k % 2 = 1 → invG n f (k + 1) (s - T) p = R) ∧ (¬ k % 2 = 1 → invG n f (k + 1) (s + T) p = R) := by
 constructor <;> intro c
 · rw [if_pos c] at h; exact h
 · rw [if_neg c] at h; exact h
theorem cAlt {w : World} {gp go gb : Nat} {s6 s7 : Bool} {A6 A7 : Option Addr} {n6 c6 n7 c7 : Nat} {n : Int} {R : Int × Nat} (XP : Bo w gp #[.bool s6, .slice A6 n6 c6] 28) (XO : Bo w go #[.int .i64 1] 3) (XB : Bo w gb #[.bool s7, .slice A7 n7 c7] 28) (p6 : Wn w s6 A6 n6 c6 n) (p7 : Wn w s7 A7 n7 c7 n) (k6 : n6 ≤ 2) (k7 : n7 ≤ 2) (hpo : gp ≠ go) (hpb : gp ≠ gb) (hob : go ≠ gb) (h1 : 2 ≤ n) (h2 : n ≤ 1000) (hR : invG n 200 0 0 n = R) :
   Calls Tryd.prog 40 #[.func (.func 68) #[] #[.pointer (some ⟨gp, 0, none⟩), .pointer (some ⟨go, 0, none⟩), .pointer (some ⟨gb, 0, none⟩)]] w (PAl w gp go R) := by
 have HR := Lib.hid hR; have G1 := XP.lt; have G2 := XO.lt; have G3 := XB.lt; obtain ⟨T0, hn0⟩ : ∃ T0, SC.fdiv (n * (2 * ((0 : Nat) : Int) + 1)) = T0 := ⟨_, rfl⟩; have HN0 := Lib.hid hn0; clear hn0; clear hR
 go_enter Tryd.func40, Tryd.ntmps40
 go_upto_region 1 with (fail)
 have XR := Bo.newAt w (g := w.heap.size) rfl #[.bool false, .slice none 0 0] 28
 have HB : Hid (Duo gp go w (World.alloc w (.cells #[.bool false, .slice none 0 0] 28))) := Lib.hid (.of (bel1 w (.cells #[.bool false, .slice none 0 0] 28)))
 replace XP := XP.below (bel1 w (.cells #[.bool false, .slice none 0 0] 28)); replace XO := XO.below (bel1 w (.cells #[.bool false, .slice none 0 0] 28)); replace XB := XB.below (bel1 w (.cells #[.bool false, .slice none 0 0] 28)); replace p6 := p6.below (bel1 w (.cells #[.bool false, .slice none 0 0] 28)); replace p7 := p7.below (bel1 w (.cells #[.bool false, .slice none 0 0] 28)); generalize hW1 : World.alloc w (.cells #[.bool false, .slice none 0 0] 28) = w1 at *
 clear hW1
 go_upto_region 2 with (fail)
 have lX4 := Nat.le_refl (World.heap w1).size; have nX4XP := XP.lt; have nX4XO := XO.lt; have nX4XB := XB.lt; have nX4XR := XR.lt; generalize hWn : w1.alloc _ = w2 at *; obtain ⟨X4, BW⟩ := Bo.nw hWn; clear hWn; replace XP := XP.below BW; replace XO := XO.below BW; replace XB := XB.below BW; replace XR := XR.below BW; replace p6 := p6.below BW; replace p7 := p7.below BW; replace HB := Lib.hid (HB.out.mv BW)
 clear BW; clear lX4; have ltXP := XP.lt; have ltXO := XO.lt; have ltXB := XB.lt; have ltXR := XR.lt; have ltX4 := X4.lt
 have gS : w.heap.size < w1.heap.size := nX4XR
 have gO : go < w1.heap.size := nX4XO
 have gP : gp < w1.heap.size := nX4XP
 have gB : gb < w1.heap.size := nX4XB
 clear nX4XR nX4XO nX4XP nX4XB ltXR ltXO ltXP ltXB; generalize w1.heap.size = gs at *
 have XO1 : Bo w2 go #[.int .i64 (2 * ((0 : Nat) : Int) + 1)] 3 := XO
 clear XO; have XO := XO1; clear XO1; have hsz := HB.out.size
 go_wp2_with fail
 refine (cNext (k := 0) XP XO XB p6 p7 (by omega) k7 hpo hpb hob (by decide) (by omega) (Int.le_trans h2 (by decide)) h1 h2 HN0.out).mono ?_; rintro ee w3 ⟨s15, A15, n15, c15, s16, A16, n16, c16, rfl, p15, k15, YP, p16, k16, YO, B⟩; replace XB := XB.duo B (by omega) (by omega); replace XR := XR.duo B (by omega) (by omega); replace X4 := X4.duo B (by omega) (by omega); replace p6 := p6.duo XP XO (by simp [no32]) (by simp [no32]) B
 replace p7 := p7.duo XP XO (by simp [no32]) (by simp [no32]) B; replace HB := Lib.hid (HB.out.trans B); have hszB := B.size; clear B p6 XP XO; have XP := YP; have XO := YO; clear YP YO
 go_upto_region 3 with (fail)
 have lX5 := Nat.le_refl (World.heap w3).size; have nX5XP := XP.lt; have nX5XO := XO.lt; have nX5XB := XB.lt; have nX5XR := XR.lt; have nX5X4 := X4.lt; generalize hWn : w3.alloc _ = w4 at *; obtain ⟨X5, BW⟩ := Bo.nw hWn; clear hWn; replace XP := XP.below BW; replace XO := XO.below BW; replace XB := XB.below BW; replace XR := XR.below BW; replace X4 := X4.below BW; replace p7 := p7.below BW; replace p15 := p15.below BW
 replace p16 := p16.below BW; replace HB := Lib.hid (HB.out.mv BW); clear BW; clear lX5 nX5XR nX5XP nX5XO nX5XB
 have hI0 : AInv w n R gp go gb gs s7 A7 n7 c7 0 w3.heap.size w4 := ⟨0, n, _, _, _, _, _, _, _, _, _, _, _, _, _, XR, X4, X5, XP, XO, XB, ⟨Nm.zero, rfl⟩, p15, p16, p7, Nat.zero_le _, k15, k16, by decide, by omega, by omega, by simpa using h1, Int.le_trans h2 (by decide), HR.out, HN0.out, HB.out⟩
 have HI0 := Lib.hid hI0; clear hI0 XR X4 X5 XP XO XB p7 p15 p16 HB HR HN0; go_wp2
 go_loopw [5, 6] (fun i pt wr => ∃ k gt : Nat, i = .int .i64 k ∧ pt = .pointer (some ⟨gt, 0, none⟩) ∧ AInv w n R gp go gb gs s7 A7 n7 c7 k gt wr) (fun i _ _ => 200 - (intOf i).toNat)
 case atStart => exact ⟨0, _, rfl, rfl, HI0.out⟩
 case round =>
   obtain ⟨k, gt, rfl, rfl, s, p, T, s4, A4, n4, c4, s5, A5, n5, c5, s6, A6, n6, c6, XR, X4, X5, XP, XO, XB, p4, p5, p6, p7, k4, k5, k6, hk, hgt, hst, hp, hpS, hG, hT, hB⟩ := hrel; have HB := Lib.hid hB; obtain ⟨T', hT', hd0, hT0, hz, hnz⟩ := inv_step h1 hk hp hG
   obtain rfl : T' = T := hT'.symm.trans hT
   have HT := Lib.hid hT; have HZ := Lib.hid hz; have HNZ := Lib.hid hnz
   have HNB : Hid (T' ≠ 0 → p * (n * n) ≤ SC * 1000000) := Lib.hid (fun hc => next_bd hp hT h1 h2 hc)
   clear hB HI0 hG hT hT' hz hnz hd0; have hsz := HB.out.size; have ltXP := XP.lt; have ltXO := XO.lt; have ltXB := XB.lt; have ltXR := XR.lt; have ltX4 := X4.lt; have ltX5 := X5.lt
   by_cases hc : T' = 0
   · have HS : Hid (cmpI T' 0 = 0) := Lib.hid (by rw [hc]; decide)
     have hsk := HZ.out hc; subst hsk; clear HZ HNZ HNB hp hpS; have xX5 := X5.cell
     go_wp2_with fail
     refine (wSign p5.wr HS.out).mono ?_; rintro ee w5 ⟨rfl, B⟩; clear xX5; replace XP := XP.below B; replace XO := XO.below B; replace XB := XB.below B; replace XR := XR.below B; replace X4 := X4.below B; replace X5 := X5.below B; replace p4 := p4.below B; replace p5 := p5.below B; replace p6 := p6.below B; replace p7 := p7.below B; replace HB := Lib.hid (HB.out.mv B); clear B; clear p5 p6 p7
     clear X5 XP XO XB; have xX4 := X4.cell; have xXR := XR.cell; have zXR0 := XR.frozen; go_wp2; clear xX4 xXR zXR0; generalize hS : (w5.setCell _ _).setCell _ _ = w6 at *; have SX := StN.of2 XR hS; replace X4 := X4.stn SX (by omega); replace p4 := p4.stn SX (by simp [no32]); replace HB := Lib.hid (HB.out.stn SX (by omega)); replace XR := SX.box; clear SX hS; exact bodyPost_ret (v := .tuple #[.agg #[.bool s4, .slice A4 n4 c4], .int .i64 (k : Int)]) (by simp [results, Tryd.results40, go_sem, XR.cell]) rfl ⟨s4, A4, n4, c4, rfl, p4, by omega, hk, HB.out⟩
   · have HS : Hid (cmpI T' 0 = 1) := Lib.hid (cmpI_gt (by omega))
     obtain ⟨hk1, hp1, hG1⟩ := HNZ.out hc; have HP1 := Lib.hid hp1; have HP2 := Lib.hid (HNB.out hc); obtain ⟨ho, he⟩ := sum_step hG1; have HO := Lib.hid ho; have HE := Lib.hid he
     have HW4 : Hid (IntKind.i64.wrap ((k : Int) + 1) = (k : Int) + 1) := Lib.hid (IntWalk.i64_in _ (by omega))
     have HW5 : Hid (wrap64 ((k : Int) + 1) = (k : Int) + 1) := Lib.hid (IntWalk.wrap64_in _ (by omega))
     clear HZ HNZ HNB hp1 hG1 hT0 ho he hp hpS; have xX5 := X5.cell
     go_wp2_with fail
     refine (wSign p5.wr HS.out).mono ?_; rintro ee w5 ⟨rfl, B⟩; clear xX5; replace XP := XP.below B; replace XO := XO.below B; replace XB := XB.below B; replace XR := XR.below B; replace X4 := X4.below B; replace X5 := X5.below B; replace p4 := p4.below B; replace p5 := p5.below B; replace p6 := p6.below B; replace p7 := p7.below B; replace HB := Lib.hid (HB.out.mv B); clear B
     by_cases hodd : k % 2 = 1
     · have HF := Lib.hid (HO.out hodd); clear HO HE
       have t9 : (Int.tmod (k : Int) 2 == 0) = false := by
         rw [show Int.tmod (k : Int) 2 = 1 by rw [Int.tmod_eq_emod_of_nonneg (by omega)]; omega]
         rfl
       have xX4 := X4.cell; have xX5 := X5.cell
       go_wp2_with fail
       refine (wSub p4.wr p5.wr (by omega) (by omega) rfl).mono ?_; rintro ee w6 ⟨s24, A24, n24, c24, rfl, p24, k24, B⟩; clear xX4 xX5; replace XP := XP.below B; replace XO := XO.below B; replace XB := XB.below B; replace XR := XR.below B; replace X4 := X4.below B; replace X5 := X5.below B; replace p4 := p4.below B; replace p5 := p5.below B; replace p6 := p6.below B; replace p7 := p7.below B
       replace HB := Lib.hid (HB.out.mv B); clear B; clear p4 t9 hodd; have xX4 := X4.cell; have zX40 := X4.frozen
       go_upto_region 9 with (fail)
       clear xX4 zX40; generalize hS : (w6.setCell _ _).setCell _ _ = w7 at *; have SX := StN.of2 X4 hS; replace XP := XP.stn SX (by omega); replace XO := XO.stn SX (by omega); replace XB := XB.stn SX (by omega); replace XR := XR.stn SX (by omega); replace X5 := X5.stn SX (by omega); replace p5 := p5.stn SX (by simp [no32]); replace p6 := p6.stn SX (by simp [no32]); replace p7 := p7.stn SX (by simp [no32])
       replace p24 := p24.stn SX (by simp [no32]); replace HB := Lib.hid (HB.out.stn SX (by omega)); replace X4 := SX.box; clear SX hS; have hw4 := HW4.out; have hw5 := HW5.out; have xX5 := X5.cell
       go_upto_region 4 with (fail)
       clear xX5; clear hw4 hw5 X5; have lX7 := Nat.le_refl (World.heap w7).size; have nX7XP := XP.lt; have nX7XO := XO.lt; have nX7XB := XB.lt; have nX7XR := XR.lt; have nX7X4 := X4.lt; generalize hWn : w7.alloc _ = w7a at *; obtain ⟨X7, BW⟩ := Bo.nw hWn; clear hWn; replace XP := XP.below BW; replace XO := XO.below BW; replace XB := XB.below BW; replace XR := XR.below BW; replace X4 := X4.below BW
       replace p5 := p5.below BW; replace p6 := p6.below BW; replace p7 := p7.below BW; replace p24 := p24.below BW; replace HB := Lib.hid (HB.out.mv BW); clear BW; clear lX7; have ltXP := XP.lt; have ltXO := XO.lt; have ltXB := XB.lt; have ltXR := XR.lt; have ltX4 := X4.lt; have ltX7 := X7.lt; have hsz7 := HB.out.size
       have g7 : gs < w7.heap.size := nX7X4
       have g7p : gp < w7.heap.size := nX7XP
       have g7o : go < w7.heap.size := nX7XO
       have g7b : gb < w7.heap.size := nX7XB
       have g7r : w.heap.size < w7.heap.size := nX7XR
       clear p5
       have XO1 : Bo w7a go #[.int .i64 (2 * ((k + 1 : Nat) : Int) + 1)] 3 := by
         rw [show 2 * ((k + 1 : Nat) : Int) + 1 = 2 * (k : Int) + 3 by omega]
         exact XO
       clear XO; have XO := XO1; clear XO1; obtain ⟨T2, hT2⟩ : ∃ T2, SC.fdiv (p * (n * n) * (2 * ((k + 1 : Nat) : Int) + 1)) = T2 := ⟨_, rfl⟩
       go_wp2_with fail
       refine (cNext (k := k + 1) XP XO XB p6 p7 k6 k7 hpo hpb hob (by omega) (pow_pos2 HP1.out) HP2.out h1 h2 hT2).mono ?_; rintro ee w7b ⟨s15, A15, n15, c15, s16, A16, n16, c16, rfl, p15, k15, YP, p16, k16, YO, B⟩; replace XB := XB.duo B (by omega) (by omega); replace XR := XR.duo B (by omega) (by omega); replace X4 := X4.duo B (by omega) (by omega); replace X7 := X7.duo B (by omega) (by omega)
       replace p24 := p24.duo XP XO (by simp [no32]) (by simp [no32]) B; replace p6 := p6.duo XP XO (by simp [no32]) (by simp [no32]) B; replace p7 := p7.duo XP XO (by simp [no32]) (by simp [no32]) B; replace HB := Lib.hid (HB.out.trans B); have hszB := B.size; clear B p6 XP XO; have XP := YP; have XO := YO; clear YP YO; have xX7 := X7.cell; have zX70 := X7.frozen; go_wp2; clear xX7 zX70
       generalize hS : (w7b.setCell _ _).setCell _ _ = w7c at *; have SX := StN.of2 X7 hS; replace XP := XP.stn SX (by omega); replace XO := XO.stn SX (by omega); replace XB := XB.stn SX (by omega); replace XR := XR.stn SX (by omega); replace X4 := X4.stn SX (by omega); replace p24 := p24.stn SX (by simp [no32]); replace p7 := p7.stn SX (by simp [no32]); replace p15 := p15.stn SX (by simp [no32])
       replace p16 := p16.stn SX (by simp [no32]); replace HB := Lib.hid (HB.out.stn SX (by omega)); replace X7 := SX.box; clear SX hS
       go_roundw
       case rel => exact ⟨k + 1, w7.heap.size, by go_num, rfl, _, _, _, _, _, _, _, _, _, _, _, _, _, _, _, XR, X4, X7, XP, XO, XB, p24, p15, p16, p7, by omega, k15, k16, hk1, by omega, by omega, HP1.out, HP2.out, HF.out, hT2, HB.out⟩
       case measure => simp [intOf]; omega
     · have HF := Lib.hid (HE.out hodd); clear HO HE
       have t9 : (Int.tmod (k : Int) 2 == 0) = true := by
         rw [show Int.tmod (k : Int) 2 = 0 by rw [Int.tmod_eq_emod_of_nonneg (by omega)]; omega]
         rfl
       have xX4 := X4.cell; have xX5 := X5.cell
       go_wp2_with fail
       refine (wAdd p4.wr p5.wr (by omega) (by omega) rfl).mono ?_; rintro ee w6 ⟨s24, A24, n24, c24, rfl, p24, k24, B⟩; clear xX4 xX5; replace XP := XP.below B; replace XO := XO.below B; replace XB := XB.below B; replace XR := XR.below B; replace X4 := X4.below B; replace X5 := X5.below B; replace p4 := p4.below B; replace p5 := p5.below B; replace p6 := p6.below B; replace p7 := p7.below B
       replace HB := Lib.hid (HB.out.mv B); clear B; clear p4 t9 hodd; have xX4 := X4.cell; have zX40 := X4.frozen
       go_upto_region 9 with (fail)
       clear xX4 zX40; generalize hS : (w6.setCell _ _).setCell _ _ = w7 at *; have SX := StN.of2 X4 hS; replace XP := XP.stn SX (by omega); replace XO := XO.stn SX (by omega); replace XB := XB.stn SX (by omega); replace XR := XR.stn SX (by omega); replace X5 := X5.stn SX (by omega); replace p5 := p5.stn SX (by simp [no32]); replace p6 := p6.stn SX (by simp [no32]); replace p7 := p7.stn SX (by simp [no32])
       replace p24 := p24.stn SX (by simp [no32]); replace HB := Lib.hid (HB.out.stn SX (by omega)); replace X4 := SX.box; clear SX hS; have hw4 := HW4.out; have hw5 := HW5.out; have xX5 := X5.cell
       go_upto_region 4 with (fail)
       clear xX5; clear hw4 hw5 X5; have lX7 := Nat.le_refl (World.heap w7).size; have nX7XP := XP.lt; have nX7XO := XO.lt; have nX7XB := XB.lt; have nX7XR := XR.lt; have nX7X4 := X4.lt; generalize hWn : w7.alloc _ = w7a at *; obtain ⟨X7, BW⟩ := Bo.nw hWn; clear hWn; replace XP := XP.below BW; replace XO := XO.below BW; replace XB := XB.below BW; replace XR := XR.below BW; replace X4 := X4.below BW
       replace p5 := p5.below BW; replace p6 := p6.below BW; replace p7 := p7.below BW; replace p24 := p24.below BW; replace HB := Lib.hid (HB.out.mv BW); clear BW; clear lX7; have ltXP := XP.lt; have ltXO := XO.lt; have ltXB := XB.lt; have ltXR := XR.lt; have ltX4 := X4.lt; have ltX7 := X7.lt; have hsz7 := HB.out.size
       have g7 : gs < w7.heap.size := nX7X4
       have g7p : gp < w7.heap.size := nX7XP
       have g7o : go < w7.heap.size := nX7XO
       have g7b : gb < w7.heap.size := nX7XB
       have g7r : w.heap.size < w7.heap.size := nX7XR
       clear p5
       have XO1 : Bo w7a go #[.int .i64 (2 * ((k + 1 : Nat) : Int) + 1)] 3 := by
         rw [show 2 * ((k + 1 : Nat) : Int) + 1 = 2 * (k : Int) + 3 by omega]
         exact XO
       clear XO; have XO := XO1; clear XO1; obtain ⟨T2, hT2⟩ : ∃ T2, SC.fdiv (p * (n * n) * (2 * ((k + 1 : Nat) : Int) + 1)) = T2 := ⟨_, rfl⟩
       go_wp2_with fail
       refine (cNext (k := k + 1) XP XO XB p6 p7 k6 k7 hpo hpb hob (by omega) (pow_pos2 HP1.out) HP2.out h1 h2 hT2).mono ?_; rintro ee w7b ⟨s15, A15, n15, c15, s16, A16, n16, c16, rfl, p15, k15, YP, p16, k16, YO, B⟩; replace XB := XB.duo B (by omega) (by omega); replace XR := XR.duo B (by omega) (by omega); replace X4 := X4.duo B (by omega) (by omega); replace X7 := X7.duo B (by omega) (by omega)
       replace p24 := p24.duo XP XO (by simp [no32]) (by simp [no32]) B; replace p6 := p6.duo XP XO (by simp [no32]) (by simp [no32]) B; replace p7 := p7.duo XP XO (by simp [no32]) (by simp [no32]) B; replace HB := Lib.hid (HB.out.trans B); have hszB := B.size; clear B p6 XP XO; have XP := YP; have XO := YO; clear YP YO; have xX7 := X7.cell; have zX70 := X7.frozen; go_wp2; clear xX7 zX70
       generalize hS : (w7b.setCell _ _).setCell _ _ = w7c at *; have SX := StN.of2 X7 hS; replace XP := XP.stn SX (by omega); replace XO := XO.stn SX (by omega); replace XB := XB.stn SX (by omega); replace XR := XR.stn SX (by omega); replace X4 := X4.stn SX (by omega); replace p24 := p24.stn SX (by simp [no32]); replace p7 := p7.stn SX (by simp [no32]); replace p15 := p15.stn SX (by simp [no32])
       replace p16 := p16.stn SX (by simp [no32]); replace HB := Lib.hid (HB.out.stn SX (by omega)); replace X7 := SX.box; clear SX hS
       go_roundw
       case rel => exact ⟨k + 1, w7.heap.size, by go_num, rfl, _, _, _, _, _, _, _, _, _, _, _, _, _, _, _, XR, X4, X7, XP, XO, XB, p24, p15, p16, p7, by omega, k15, k16, hk1, by omega, by omega, HP1.out, HP2.out, HF.out, hT2, HB.out⟩
       case measure => simp [intOf]; omega
theorem has_in {a b n : Int} (h1 : -19342822337206103650074625 < n) (h2 : n < 19342822337206103650074625) (h3 : a ≤ n) (h4 : n ≤ b) : hasI (some (a, b)) n = true := by
 simp [hasI, infp_fin h1 h2]
 omega
end Go.Proofs.YtmmallhniijdfaaDoor

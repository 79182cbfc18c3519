/-
 Contracts that the proof rests on.
-/
import Derived.Test.YtmmallhniijdfaaGreatDoorYAbc
namespace Go.Proofs.YtmmallhniijdfaaGreatDoor
set_option maxHeartbeats 8000000
open Go.RowKit
set_option linter.unusedVariables false
set_option linter.unusedSimpArgs false
set_option maxRecDepth 100000
theorem cScale {w : World} : Calls Tryz.prog 11 #[] w (W1 w 8 SC) := by
 go_enter Tryz.func11, Tryz.ntmps11
 go_upto_region 1 with (fail)
 generalize hW1 : w.alloc _ = w1 at *; obtain ⟨XR, HB⟩ := Bo.en1 hW1; clear hW1
 go_wp2_with fail
 refine (vShl (a := 1) 192 ⟨_, [1], one_limb w1, rfl⟩ (by decide) (by decide)).mono ?_; rintro ee w2 ⟨A2, n2, c2, rfl, p2, k2, B⟩; replace B := bt (bel1 _ (.cells #[.int .u32 1] 54)) B; replace XR := XR.below B; replace HB := Hqb HB B; clear B
 go_wp2_with fail
 refine (wMake false p2.rd).mono ?_; rintro ee w3 ⟨s3, A3, n3, c3, rfl, p3, k3, B⟩; replace XR := XR.below B; replace p2 := p2.below B; replace HB := Hqb HB B; clear B; clear p2
 replace p3 : Wn w3 s3 A3 n3 c3 SC := by rw [show SC = sg false (1 * 2 ^ 192) by decide]; exact p3
 have xXR := XR.cell; have zXR0 := XR.frozen; go_wp2; clear xXR zXR0; have SX := StN.mk2 XR (.bool s3) (.slice A3 n3 c3); replace p3 := p3.stn SX (by simp [no32]); exact bodyPost_ret (v := .agg #[.bool s3, .slice A3 n3 c3]) (by simp [results, Tryz.results11, go_sem, SX.box.cell]) rfl ⟨s3, A3, n3, c3, rfl, p3, by omega, (SX.below HB.out (by omega))⟩
theorem cPiece {w : World} {A : Option Addr} {n c K : Nat} {zs : List Int} {y q : Int} (h : Wl w A n c K zs) (hK : 1 + n * K ≤ 1000) (hy : prd zs = y) (h0 : y ≠ 0) (hq : SC.fdiv y = q) : Calls Tryz.prog 61 #[.slice A n c] w (W1 w 2000 q) := by
 go_enter Tryz.func61, Tryz.ntmps61
 go_upto_region 1 with (fail)
 generalize hW1 : w.alloc _ = w1 at *; obtain ⟨XR, HB⟩ := Bo.en1 hW1; replace h := h.below HB.out; clear hW1
 go_wp2_with fail
 refine (cScale).mono ?_; rintro ee w2 ⟨s2, A2, n2, c2, rfl, p2, k2, B⟩; replace XR := XR.below B; replace h := h.below B; replace HB := Hqb HB B; clear B
 go_wp2_with fail
 refine (wMul h (by omega) hy).mono ?_; rintro ee w3 ⟨s3, A3, n3, c3, rfl, p3, k3, B⟩; replace XR := XR.below B; replace h := h.below B; replace p2 := p2.below B; replace HB := Hqb HB B; clear B; clear h
 go_wp2_with fail
 refine (wDiv p2.wr p3.wr (by omega) (by omega) h0 hq rfl).mono ?_; rintro ee w4 ⟨s8, A8, n8, c8, s9, A9, n9, c9, rfl, p8, p9, k8, k9, B⟩; replace XR := XR.below B; replace p2 := p2.below B; replace p3 := p3.below B; replace HB := Hqb HB B; clear B; clear p2 p3
 go_upto_region 2 with (fail)
 have e4X6 : (World.alloc w4 (.cells #[.bool s8, .slice A8 n8 c8] 25)).heap.size = w4.heap.size + 1 := by simp
 have lX5 := Nat.le_refl (World.heap w4).size; have nX5XR := XR.lt; have BX := bel1 w4 (.cells #[.bool s8, .slice A8 n8 c8] 25); replace XR := XR.below BX; replace p8 := p8.below BX; replace p9 := p9.below BX; replace HB := Lib.hid (bt HB.out BX); have X5 := Bo.new w4 #[.bool s8, .slice A8 n8 c8] 25
 generalize hWn : World.alloc w4 (.cells #[.bool s8, .slice A8 n8 c8] 25) = w5 at *; clear hWn; have lX6 := Nat.le_refl (World.heap w5).size; have nX6XR := XR.lt; have nX6X5 := X5.lt; generalize hWn : w5.alloc _ = w6 at *; obtain ⟨X6, BW⟩ := Bo.nw hWn; clear hWn; replace XR := XR.below BW; replace X5 := X5.below BW; replace p8 := p8.below BW; replace p9 := p9.below BW; replace HB := Hqb HB BW
 clear BW; rw [e4X6] at X6; clear lX5 lX6 e4X6; clear p9; have xXR := XR.cell; have zXR0 := XR.frozen; have xX5 := X5.cell; go_wp2; clear xXR zXR0 xX5; have SX := StN.mk2 XR (.bool s8) (.slice A8 n8 c8); replace p8 := p8.stn SX (by simp [no32]); exact bodyPost_ret (v := .agg #[.bool s8, .slice A8 n8 c8]) (by simp [results, Tryz.results61, go_sem, SX.box.cell]) rfl ⟨s8, A8, n8, c8, rfl, p8, by omega, (SX.below HB.out (by omega))⟩
def PNx (w : World) (gp go : Nat) (T P O : Int) (e : Ending) (w' : World) : Prop := ∃ s A n c s6 A6 n6 c6, e = .returned (.agg #[.bool s, .slice A n c]) ∧ Wn w' s A n c T ∧ n ≤ 8 ∧ Bo w' gp #[.bool s6, .slice A6 n6 c6] 25 ∧ Wn w' s6 A6 n6 c6 P ∧ n6 ≤ 10 ∧ Bo w' go #[.int .i64 O] 3 ∧ Duo gp go w w'
theorem cNext {w : World} {gp go gb k : Nat} {s6 s7 : Bool} {A6 A7 : Option Addr} {n6 c6 n7 c7 : Nat} {p n T : Int} (XP : Bo w gp #[.bool s6, .slice A6 n6 c6] 25) (XO : Bo w go #[.int .i64 (2 * (k : Int) + 1)] 3) (XB : Bo w gb #[.bool s7, .slice A7 n7 c7] 25) (p6 : Wn w s6 A6 n6 c6 p) (p7 : Wn w s7 A7 n7 c7 n) (k6 : n6 ≤ 10) (k7 : n7 ≤ 2) (hpo : gp ≠ go) (hpb : gp ≠ gb) (hob : go ≠ gb)
   (hk : k ≤ 1000) (hp : 0 < p) (hp2 : p ≤ SC * 1000000) (h1 : 2 ≤ n) (h2 : n ≤ 1000) (hT : SC.fdiv (p * (2 * (k : Int) + 1)) = T) :
   Calls Tryz.prog 60 #[.pointer (some ⟨gp, 0, none⟩), .pointer (some ⟨go, 0, none⟩), .pointer (some ⟨gb, 0, none⟩)] w (PNx w gp go T (p * (n * n)) (2 * (k : Int) + 3)) := by
 have HT := Lib.hid hT
 have HY : Hid (prd [p, 2 * (k : Int) + 1] = p * (2 * (k : Int) + 1)) := Lib.hid (by show 1 * p * (2 * (k : Int) + 1) = _; rw [Int.one_mul])
 have H0 : Hid (p * (2 * (k : Int) + 1) ≠ 0) := Lib.hid (by have := Int.mul_pos hp (show (0 : Int) < 2 * (k : Int) + 1 by omega); omega)
 have HM : Hid (prd [p, n, n] = p * (n * n)) := Lib.hid (by show 1 * p * n * n = _; rw [Int.one_mul, Int.mul_assoc])
 have HTB := Lib.hid (term_bd hp hT); have HPB := Lib.hid (power_bd hp hp2 h1 h2)
 have HW1 : Hid (IntKind.i64.wrap (2 * (k : Int) + 1 + 2) = 2 * (k : Int) + 3) := Lib.hid (by rw [show 2 * (k : Int) + 1 + 2 = 2 * (k : Int) + 3 by omega]; exact IntWalk.i64_in _ (by omega))
 have HW2 : Hid (wrap64 (2 * (k : Int) + 1 + 2) = 2 * (k : Int) + 3) := Lib.hid (by rw [show 2 * (k : Int) + 1 + 2 = 2 * (k : Int) + 3 by omega]; exact IntWalk.wrap64_in _ (by omega))
 have HK : Hid (2 * (k : Int) + 1 ≤ 3000) := Lib.hid (by omega)
 have G1 := XP.lt; have G2 := XO.lt; have G3 := XB.lt; clear hT hp hp2 h1 h2
 go_enter Tryz.func60, Tryz.ntmps60
 go_upto_region 1 with (fail)
 have XR := Bo.newAt w (g := w.heap.size) rfl #[.bool false, .slice none 0 0] 25
 have HB : Hid (Duo gp go w (World.alloc w (.cells #[.bool false, .slice none 0 0] 25))) := Lib.hid (.of (bel1 w (.cells #[.bool false, .slice none 0 0] 25)))
 replace XP := XP.below (bel1 w (.cells #[.bool false, .slice none 0 0] 25)); replace XO := XO.below (bel1 w (.cells #[.bool false, .slice none 0 0] 25)); replace XB := XB.below (bel1 w (.cells #[.bool false, .slice none 0 0] 25)); replace p6 := p6.below (bel1 w (.cells #[.bool false, .slice none 0 0] 25)); replace p7 := p7.below (bel1 w (.cells #[.bool false, .slice none 0 0] 25)); generalize hW1 : World.alloc w (.cells #[.bool false, .slice none 0 0] 25) = w1 at *
 clear hW1; have ltXP := XP.lt; have ltXO := XO.lt; have ltXB := XB.lt; have ltXR := XR.lt; refine Jo.rk [0, 1, 2, 3, 4, 5] [some 5, some 6, some 7, some 8, some 9, some 4, none] [[], [], [1], [0, 2], [3], [], []] 7 1 [Jo.Fact.eq (.agg #[.bool s6, .slice A6 n6 c6]), Jo.Fact.eq (.int .i64 (2 * (k : Int) + 1)), Jo.Fact.wn (2 * (k : Int) + 1) (2), Jo.Fact.wl 10 2 [p, 2 * (k : Int) + 1], Jo.Fact.wn (T) (8), Jo.Fact.bo w1.heap.size #[.bool false, .slice none 0 0] 25, Jo.Fact.any] (by kernel_rfl) (by kernel_rfl) (by decide) rfl ?_ ?_
 · refine Jo.jm rfl ?_ ?_
   · rintro wj hJ K hK; simp only [Jo.z] at hK ⊢; have xXP := (XP.below hJ).cell; go_simp; exact hK.out _ _ rfl (br _ _)
   refine Jo.jm rfl ?_ ?_
   · rintro wj hJ K hK; simp only [Jo.z] at hK ⊢; have xXO0 := (XO.below hJ).a 0 (.int .i64 (2 * (k : Int) + 1)) rfl; go_simp; exact hK.out _ _ rfl (br _ _)
   refine Jo.jm rfl ?_ ?_
   · rintro wj hJ _ rfl K hK; simp only [Jo.z] at hK ⊢; go_simp; refine (wFrom _ _ (by omega) (by omega)).mono ?_; rintro ee wk ⟨s20, A20, n20, c20, rfl, p20, k20, B⟩; exact hK.out _ _ ⟨s20, A20, n20, c20, rfl, p20, k20⟩ B
   refine Jo.jm rfl ?_ ?_
   · rintro wj hJ _ rfl _ ⟨s20, A20, n20, c20, rfl, p20, k20⟩ K hK; simp only [Jo.z] at hK ⊢; go_simp; exact hK.out _ _ ⟨_, _, rfl, Wl.lit2 rfl (p6.below hJ).wr p20.wr (by omega) (by omega)⟩ (bel1 _ _)
   refine Jo.jm rfl ?_ ?_
   · rintro wj hJ _ ⟨A25, c25, rfl, h25⟩ K hK; simp only [Jo.z] at hK ⊢; go_simp; refine (cPiece h25 (by decide) HY.out H0.out HT.out).mono ?_; rintro ee wk ⟨s21, A21, n21, c21, rfl, p21, k21, B⟩; exact hK.out _ _ ⟨s21, A21, n21, c21, rfl, p21, (p21.fits (small8 HTB.out))⟩ B
   refine Jo.jm rfl ?_ ?_
   · rintro wj hJ K hK; simp only [Jo.z] at hK ⊢; go_simp; exact hK.out _ _ ⟨_, rfl, hJ.size, Bo.new _ _ _⟩ (bel1 _ _)
   exact Jo.Steps.nil
 rintro w2 hJ _ rfl _ rfl _ ⟨s20, A20, n20, c20, rfl, p20, k20⟩ _ ⟨_, _, rfl, _⟩ _ ⟨s21, A21, n21, c21, rfl, p21, k21⟩ _ ⟨g8, rfl, hg8, X8⟩ -; simp only [Jo.z]; replace XP := XP.below hJ; replace XO := XO.below hJ; replace XB := XB.below hJ; replace XR := XR.below hJ; replace p6 := p6.below hJ; replace p7 := p7.below hJ; replace HB := Lib.hid (HB.out.mv hJ); have xX8 := X8.cell; have zX80 := X8.frozen
 refine Jo.jnext (i := 6) (o := ⟨none, _, _, _, _, _⟩) (by kernel_rfl) rfl (fun K hK => ?_)
 go_simp; refine hK.out _ _ ?_; clear hK K xX8 zX80; generalize hS : (w2.setCell _ _).setCell _ _ = w3 at *; have SX := StN.of2 X8 hS; replace XP := XP.stn SX (by omega); replace XO := XO.stn SX (by omega); replace XB := XB.stn SX (by omega); replace XR := XR.stn SX (by omega); replace p6 := p6.stn SX (by simp [no32]); replace p7 := p7.stn SX (by simp [no32]); replace p21 := p21.stn SX (by simp [no32])
 replace HB := Lib.hid (HB.out.stn SX (by omega)); replace X8 := SX.box; clear SX hS; refine Jo.jdone (by kernel_rfl) ?_; have xXP := XP.cell; have xXB := XB.cell
 go_wp2_with fail
 refine (wMul (Wl.lit3 (K := 10) rfl p6.wr p7.wr p7.wr (by omega) (by omega) (by omega)) (by decide) HM.out).mono ?_; rintro ee w4 ⟨s22, A22, n22, c22, rfl, p22, k22, B⟩; replace B := bt (bel1 _ _) B; clear xXP xXB; replace XP := XP.below B; replace XO := XO.below B; replace XB := XB.below B; replace XR := XR.below B; replace X8 := X8.below B; replace p6 := p6.below B; replace p7 := p7.below B
 replace p21 := p21.below B; replace HB := Lib.hid (HB.out.mv B); clear B p6 p7
 replace k22 : n22 ≤ 10 := p22.fits (small10 HPB.out)
 have xXP := XP.cell; have zXP0 := XP.frozen
 go_upto_region 3 with (fail)
 clear xXP zXP0; generalize hS : (w4.setCell _ _).setCell _ _ = w5 at *; have SX := StN.of2 XP hS; replace XO := XO.stn SX (by omega); replace XB := XB.stn SX (by omega); replace XR := XR.stn SX (by omega); replace X8 := X8.stn SX (by omega); replace p21 := p21.stn SX (by simp [no32]); replace p22 := p22.stn SX (by simp [no32]); replace HB := Lib.hid (HB.out.stn SX (by omega)); replace XP := SX.box
 clear SX hS; have hw1 := HW1.out; have hw2 := HW2.out; have xXO0 := XO.a 0 (.int .i64 (2 * (k : Int) + 1)) rfl; have zXO0 := XO.frozen 0
 go_upto_region 4 with (fail)
 clear hw1 hw2; clear xXO0 zXO0
 have SX : StN w5 (World.setCell w5 ⟨go, 0, none⟩ (.int .i64 (2 * (k : Int) + 3))) _ _ #[.int .i64 (2 * (k : Int) + 3)] _ := StN.at4 XO 0 (.int .i64 (2 * (k : Int) + 3))
 replace XP := XP.stn SX (by omega); replace XB := XB.stn SX (by omega); replace XR := XR.stn SX (by omega); replace X8 := X8.stn SX (by omega); replace p21 := p21.stn SX (by simp [no32]); replace p22 := p22.stn SX (by simp [no32]); replace HB := Lib.hid (HB.out.stn SX (by omega)); replace XO := SX.box; clear SX; generalize World.setCell w5 ⟨go, 0, none⟩ (.int .i64 (2 * (k : Int) + 3)) = w6 at *; have xXR := XR.cell
 have zXR0 := XR.frozen; have xX8 := X8.cell; go_wp2; clear xXR zXR0 xX8; generalize hS : (w6.setCell _ _).setCell _ _ = w7 at *; have SX := StN.of2 XR hS; replace XP := XP.stn SX (by omega); replace XO := XO.stn SX (by omega); replace XB := XB.stn SX (by omega); replace X8 := X8.stn SX (by omega); replace p21 := p21.stn SX (by simp [no32]); replace p22 := p22.stn SX (by simp [no32])
 replace HB := Lib.hid (HB.out.stn SX (by omega)); replace XR := SX.box; clear SX hS; exact bodyPost_ret (v := .agg #[.bool s21, .slice A21 n21 c21]) (by simp [results, Tryz.results60, go_sem, XR.cell]) rfl ⟨s21, A21, n21, c21, s22, A22, n22, c22, rfl, p21, k21, XP, p22, k22, XO, HB.out⟩
theorem cTerms {w : World} {n : Int} (h1 : 2 ≤ n) (h2 : n ≤ 1000) : Calls Tryz.prog 21 #[.int .i64 n] w (fun e w' => ∃ gp go gb s6 A6 n6 c6 s7 A7 n7 c7, e = .returned (.func (.func 60) #[] #[.pointer (some ⟨gp, 0, none⟩), .pointer (some ⟨go, 0, none⟩), .pointer (some ⟨gb, 0, none⟩)]) ∧ Bo w' gp #[.bool s6, .slice A6 n6 c6] 25 ∧ Bo w' go #[.int .i64 1] 3 ∧ Bo w' gb #[.bool s7, .slice A7 n7 c7] 25 ∧ Wn w' s6 A6 n6 c6 n ∧ Wn w' s7 A7 n7 c7 n ∧ n6 ≤ 2 ∧ n7 ≤ 2 ∧ gp ≠ go ∧ gp ≠ gb ∧ go ≠ gb ∧ w.heap.size ≤ gp ∧ w.heap.size ≤ go ∧ Below w.heap.size w w') := by
 have hmf : ∀ (fn : Fn) (first cap : Array Value) (w : World), (Instr.makeFunc fn first cap).run Tryz.prog w = .ok (.func fn first cap) w := fun _ _ _ _ => rfl
 have HB := Lib.hid (Below.refl w.heap.size w)
 go_enter Tryz.func21, Tryz.ntmps21
 go_wp2_with fail
 refine (wFrom n _ (by omega) (by omega)).mono ?_; rintro ee w2 ⟨s7, A7, n7, c7, rfl, p7, k7, B⟩; replace HB := Hqb HB B; clear B
 go_wp2_with fail
 refine (wFrom n _ (by omega) (by omega)).mono ?_; rintro ee w3 ⟨s6, A6, n6, c6, rfl, p6, k6, B⟩; replace p7 := p7.below B; replace HB := Hqb HB B; clear B; have hsz := HB.out.size
 go_upto_region 2 with (fail)
 have e4XP : (World.alloc w3 (.cells #[.bool s7, .slice A7 n7 c7] 25)).heap.size = w3.heap.size + 1 := by simp
 have e4XO : (World.alloc (World.alloc w3 (.cells #[.bool s7, .slice A7 n7 c7] 25)) (.cells #[.bool s6, .slice A6 n6 c6] 25)).heap.size = w3.heap.size + 1 + 1 := by simp
 have lXB := Nat.le_refl (World.heap w3).size; have BX := bel1 w3 (.cells #[.bool s7, .slice A7 n7 c7] 25); replace p6 := p6.below BX; replace p7 := p7.below BX; replace HB := Lib.hid (bt HB.out BX); have XB := Bo.new w3 #[.bool s7, .slice A7 n7 c7] 25; generalize hWn : World.alloc w3 (.cells #[.bool s7, .slice A7 n7 c7] 25) = w4 at *
 clear hWn; have lXP := Nat.le_refl (World.heap w4).size; have nXPXB := XB.lt; generalize hWn : w4.alloc _ = w5 at *; obtain ⟨XP, BW⟩ := Bo.nw hWn; clear hWn; replace XB := XB.below BW; replace p6 := p6.below BW; replace p7 := p7.below BW; replace HB := Hqb HB BW; clear BW; have lXO := Nat.le_refl (World.heap w5).size; have nXOXB := XB.lt; have nXOXP := XP.lt; generalize hWn : w5.alloc _ = w6 at *
 obtain ⟨XO, BW⟩ := Bo.nw hWn; clear hWn; replace XB := XB.below BW; replace XP := XP.below BW; replace p6 := p6.below BW; replace p7 := p7.below BW; replace HB := Hqb HB BW; clear BW; rw [e4XP] at XP; rw [e4XO] at XO; clear lXB lXP lXO; go_wp2; exact bodyPost_ret (v := .func (.func 60) #[] #[.pointer (some ⟨w3.heap.size + 1, 0, none⟩), .pointer (some ⟨w3.heap.size + 1 + 1, 0, none⟩), .pointer (some ⟨w3.heap.size, 0, none⟩)]) (by simp [results, Tryz.results21, go_sem]) rfl ⟨_, _, _, _, _, _, _, _, _, _, _, rfl, XP, XO, XB, p6, p7, k6, k7, by omega, by omega, by omega, by omega, by omega, HB.out⟩
theorem lit_one (W : World) : Rd (W.alloc (.cells #[.int .u32 1] 54)) (some ⟨W.heap.size, 0, none⟩) 1 1 1 :=
 ⟨_, [1], (Own.new W [1]).all (Lim.cons (by decide) Lim.nil) (by simp) (Nat.le_refl _), by decide⟩
theorem stk_zero (q : Nat) : stk q 0 = q * 2 ^ (1 : Int).toNat := by
 unfold stk
 rw [if_pos rfl]
 show 2 * q + 0 = q * 2
 omega
theorem stk_one {q r : Nat} (h : r ≠ 0) : stk q r = q * 2 ^ (1 : Int).toNat + 1 := by
 unfold stk
 rw [if_neg h]
 show 2 * q + 1 = q * 2 + 1
 omega
theorem sg_sgi (s : Bool) (a : Nat) : sg s a = sgi s (a : Int) := by
 cases s
 · rw [sg_false, wsg_f]
 · rw [sg_true, wsg_t]
theorem jsticky_n {w : World} {A : Option Addr} {n c a r : Nat} (h : Rd w A n c a) (hn : n ≤ 100000) (hr : a * 2 ^ (1 : Int).toNat = r) : Calls Tryz.prog 124 #[.slice A n c, .bool false] w (P1 w (n + 5) r) := by
 have HR := Lib.hid hr; obtain ⟨d, hd⟩ : ∃ d, a * 2 ^ (1 : Int).toNat = d := ⟨_, rfl⟩; have HD := Lib.hid hd; rw [hd] at HR; clear hr hd
 go_enter Tryz.func124, Tryz.ntmps124
 go_wp2_with fail
 refine (rShlN (z := 1) h (by omega) (by decide) (by decide) HD.out).mono ?_; rintro ee w2 ⟨A1, n1, c1, rfl, p1, k1, B1⟩
 have hk1 : n1 ≤ n + 2 := by
   have : (1 : Int).toNat / 32 = 0 := rfl
   omega
 clear h k1
 obtain rfl : d = r := HR.out
 go_wp2
 go_ret
 exact ⟨A1, n1, c1, rfl, p1, by omega, B1⟩
theorem jsticky_y {w : World} {A : Option Addr} {n c a r : Nat} (h : Rd w A n c a) (hn : n ≤ 100000) (hr : a * 2 ^ (1 : Int).toNat + 1 = r) : Calls Tryz.prog 124 #[.slice A n c, .bool true] w (P1 w (n + 5) r) := by
 have HR := Lib.hid hr; obtain ⟨d, hd⟩ : ∃ d, a * 2 ^ (1 : Int).toNat = d := ⟨_, rfl⟩; have HD := Lib.hid hd; rw [hd] at HR; clear hr hd
 go_enter Tryz.func124, Tryz.ntmps124
 go_wp2_with fail
 refine (rShlN (z := 1) h (by omega) (by decide) (by decide) HD.out).mono ?_; rintro ee w2 ⟨A1, n1, c1, rfl, p1, k1, B1⟩
 have hk1 : n1 ≤ n + 2 := by
   have : (1 : Int).toNat / 32 = 0 := rfl
   omega
 clear h k1
 go_wp2_with fail
 refine (rAddE (p1.below (bel1 _ _)).rd (lit_one w2) (by omega) (by decide) HR.out).mono ?_; rintro ee w3 ⟨A2, n2, c2, rfl, p2, k2, B2⟩; go_wp2
 go_ret
 exact ⟨A2, n2, c2, rfl, p2, by omega, bt B1 (bt (bel1 _ _) B2)⟩
theorem jSticky {w : World} {A : Option Addr} {n c a d r : Nat} {cut : Bool} (h : Rd w A n c a) (hn : n ≤ 100000) (hc : decide (d ≠ 0) = cut) (hr : stk a d = r) : Calls Tryz.prog 124 #[.slice A n c, .bool cut] w (P1 w (n + 5) r) := by
 by_cases h0 : d = 0
 · subst h0
   obtain rfl : false = cut := hc
   exact jsticky_n h hn (by rw [← stk_zero]; exact hr)
 · obtain rfl : true = cut := by rw [← hc]; exact (decide_eq_true h0).symm
   exact jsticky_y h hn (by rw [← stk_one h0]; exact hr)
theorem jDivE {w : World} {A1 A2 : Option Addr} {n m c1 c2 a d q r : Nat} (h1 : Rd w A1 n c1 a) (h2 : Rd w A2 m c2 d) (hn : n ≤ 268435456) (hm : m ≤ 268435456) (hd : d ≠ 0) (hq : a / d = q) (hr : a % d = r) :
   Calls Tryz.prog 102 #[.slice A1 n c1, .slice A2 m c2] w (P3 w n q r) := hq ▸ hr ▸ rDiv h1 h2 hn hm hd
def Jo.Fact.dv (q r K : Nat) : Jo.Fact := ⟨fun v w => ∃ A n c B m d, v = .tuple #[.slice A n c, .slice B m d, .bool true] ∧ Nm w A n c q ∧ Nm w B m d r ∧ n ≤ K, fun v w w' h b => by
 obtain ⟨A, n, c, B, m, d, e, p, k, l⟩ := h; exact ⟨A, n, c, B, m, d, e, p.below b, k.below b, l⟩⟩
def Jo.Fact.nmA (a : Nat) : Jo.Fact := ⟨fun v w => ∃ A n c, v = .slice A n c ∧ Nm w A n c a, fun v w w' h b => by
 obtain ⟨A, n, c, e, p⟩ := h; exact ⟨A, n, c, e, p.below b⟩⟩
theorem stk_small {α β κ n : Nat} {N M : Nat} (hβ : 0 < β) (hn : n = 70 + blen β) (hα : α < 4294967296 ^ N) (hβ2 : β < 4294967296 ^ M) (hN : N ≤ 3500) (hM : M ≤ 3500) (hκ : κ = 500000) : stk (α * 2 ^ n / β) (α * 2 ^ n % β) < 2 ^ κ := by
 have e32 : ∀ k : Nat, (4294967296 : Nat) ^ k = 2 ^ (32 * k) := fun k => by rw [show (4294967296 : Nat) = 2 ^ 32 by decide, ← Nat.pow_mul]
 rw [e32] at hα hβ2
 have b1 : blen β ≤ 32 * M := blen_mono_le hβ2
 have q1 : α * 2 ^ n / β ≤ α * 2 ^ n := Nat.div_le_self _ _
 have q2 : α * 2 ^ n < 2 ^ (32 * N) * 2 ^ n := Nat.mul_lt_mul_of_pos_right hα (Nat.pow_pos (by decide))
 rw [← Nat.pow_add] at q2
 have q3 : stk (α * 2 ^ n / β) (α * 2 ^ n % β) ≤ 2 * (α * 2 ^ n / β) + 1 := by
   unfold stk
   split <;> omega
 have q4 : 2 ^ (32 * N + n + 1) ≤ 2 ^ κ := Nat.pow_le_pow_right (by decide) (by omega)
 rw [Nat.pow_succ] at q4
 omega
theorem jratio_z {w : World} {A B : Option Addr} {n c m d α β : Nat} {s t up : Bool} {e r : Int} (ha : Rd w A n c α) (hb : Rd w B m d β) (hn : n ≤ 3500) (hm : m ≤ 3500) (e1 : -2200000 ≤ e) (e2 : e ≤ 2200000) (h0 : β = 0) (hr : sgi (!up) TP = r) : Calls Tryz.prog 96 #[.agg #[.bool s, .slice A n c], .agg #[.bool t, .slice B m d], .int .i64 e, .bool up] w (PN w r) := by
 subst h0; have HR := Lib.hid hr
 have HS : Hid (cmpI (sg t 0) 0 = 0) := Lib.hid (cmpI_eq (sg_zero t))
 clear hr
 go_enter Tryz.func96, Tryz.ntmps96
 go_upto_region 1 with (fail)
 generalize hW1 : ((w.alloc _).alloc _).alloc _ = w1 at *; obtain ⟨X4, X5, XR, HB⟩ := Bo.en3 hW1; replace hb := hb.below HB.out; clear hW1; have xX5 := X5.cell
 go_wp2_with fail
 refine (qSign (hb.wr t) HS.out).mono ?_; rintro ee w2 ⟨rfl, B⟩; clear xX5; replace X4 := X4.below B; replace X5 := X5.below B; replace XR := XR.below B; replace hb := hb.below B; replace HB := Hqb HB B; clear B; clear hb
 go_wp2_with fail
 refine (yInf (s := !up) HR.out).mono ?_; rintro ee w3 ⟨K1, s1, M1, E1, rfl, q1, B⟩; replace X4 := X4.below B; replace X5 := X5.below B; replace XR := XR.below B; replace HB := Hqb HB B; clear B; have xXR := XR.cell; have zXR0 := XR.frozen; go_wp2; clear xXR zXR0; have SX := StN.mk4 XR (.int .i64 K1) (.bool s1) (.int .u64 M1) (.int .i64 E1); exact bodyPost_ret (by simp [results, Tryz.results96, go_sem, SX.box.cell]) rfl ⟨_, _, _, _, rfl, q1, (SX.below HB.out (by omega))⟩
theorem jratio_l {w : World} {A B : Option Addr} {n c m d α β : Nat} {s t up : Bool} {e r : Int} (ha : Rd w A n c α) (hb : Rd w B m d β) (hn : n ≤ 3500) (hm : m ≤ 3500) (e1 : -2200000 ≤ e) (e2 : e ≤ 2200000) {Q R : Nat} (h0 : 0 < β) (hQ : α * 2 ^ (70 + blen β) / β = Q) (hR : α * 2 ^ (70 + blen β) % β = R) (hz : R ≠ 0) (hr : Sid up (sgi (s != t) ((α : Int) * 2 ^ (e + (KK : Int)).toNat)) (β : Int) r) : Calls Tryz.prog 96 #[.agg #[.bool s, .slice A n c], .agg #[.bool t, .slice B m d], .int .i64 e, .bool up] w (PN w r) := by
 have hbl := hb.blen_le; obtain ⟨by_, hby⟩ : ∃ k : Nat, 70 + blen β = k := ⟨_, rfl⟩; obtain ⟨κ, hκ⟩ : ∃ κ : Nat, κ = 500000 := ⟨_, rfl⟩; have hsmall := stk_small h0 hby.symm ha.bound hb.bound hn hm hκ; have hside := ratio_side (σ := (s != t)) (up := up) (e := e) h0 hby.symm hκ hsmall (by omega) (by omega); have hru := hside.uniq (by omega) hr; rw [hby] at hQ hR; rw [hQ, hR] at hru; obtain ⟨S, hS⟩ : ∃ S, stk Q R = S := ⟨_, rfl⟩
 rw [hS, ← sg_sgi] at hru; obtain ⟨X, hX⟩ : ∃ X, α * 2 ^ by_ = X := ⟨_, rfl⟩; rw [hX] at hQ hR; obtain ⟨b, hb2⟩ : ∃ b : Int, (by_ : Int) = b := ⟨_, rfl⟩; rw [hb2] at hru; obtain ⟨L, hL⟩ : ∃ L : Int, ((blen β : Nat) : Int) = L := ⟨_, rfl⟩
 have hLb : 70 + L = b := by omega
 have hb3 : 70 ≤ b ∧ b ≤ 200000 := by omega
 obtain ⟨P, hP⟩ : ∃ P, mk (sg (s != t) S) (e - b - 1) = P := ⟨_, rfl⟩; rw [hP] at hru
 have hPn : mk P.1 P.2 = P := by rw [← hP]; exact mk_nf _ _
 have HRR := Lib.hid (show rnd up (mk P.1 P.2).1 (mk P.1 P.2).2 = r by rw [hPn]; exact hru)
 have HP1 : Hid ((mk (sg (!(s == t)) S) (e - b - 1)).1 = P.1) := Lib.hid (by rw [← hP]; rfl)
 have HP2 : Hid ((mk (sg (!(s == t)) S) (e - b - 1)).2 = P.2) := Lib.hid (by rw [← hP]; rfl)
 have HL := Lib.hid hL
 have HW1 : Hid (IntKind.i64.wrap (70 + L) = b) := Lib.hid (by rw [hLb]; exact IntWalk.i64_in _ (by omega))
 have HW2 : Hid (IntKind.i64.wrap (e - b) = e - b) := Lib.hid (IntWalk.i64_in _ (by omega))
 have HW3 : Hid (IntKind.i64.wrap (e - b - 1) = e - b - 1) := Lib.hid (IntWalk.i64_in _ (by omega))
 have hbt : b.toNat = by_ := by omega
 have HX : Hid (α * 2 ^ b.toNat = X) := Lib.hid (by rw [hbt]; exact hX)
 have HQ := Lib.hid hQ; have HRM := Lib.hid hR; have HST := Lib.hid hS
 have hn0 : β ≠ 0 := by omega
 obtain ⟨σ, hσ⟩ : ∃ σ, cmpI (sg t β) 0 = σ := ⟨_, rfl⟩
 have hs0 : (σ == 0) = false := by
   have : σ ≠ 0 := by
     rw [← hσ]
     rcases sg_cases t β with ⟨a, _⟩ | ⟨_, _, a⟩ | ⟨_, _, a⟩
     · omega
     · rw [a]; decide
     · rw [a]; decide
   simpa using this
 have HS := Lib.hid hσ
 have hXn : n + b.toNat / 32 + 1 ≤ 20000 := by omega
 clear hside hr hru hsmall hbl hL hLb hX hb2 hP hPn hQ hR hS hby hκ hbt hσ
 go_enter Tryz.func96, Tryz.ntmps96
 go_upto_region 1 with (fail)
 generalize hW1 : ((w.alloc _).alloc _).alloc _ = w1 at *; obtain ⟨X4, X5, XR, HB⟩ := Bo.en3 hW1; replace ha := ha.below HB.out; replace hb := hb.below HB.out; clear hW1; have xX5 := X5.cell
 go_wp2_with fail
 refine (qSign (hb.wr t) HS.out).mono ?_; rintro ee w2 ⟨rfl, B⟩; clear xX5; replace X4 := X4.below B; replace X5 := X5.below B; replace XR := XR.below B; replace ha := ha.below B; replace hb := hb.below B; replace HB := Hqb HB B; clear B; have xX5 := X5.cell
 go_wp2_with fail
 refine (rLen hb HL.out).mono ?_; rintro ee w3 ⟨rfl, B⟩; clear xX5; replace X4 := X4.below B; replace X5 := X5.below B; replace XR := XR.below B; replace ha := ha.below B; replace hb := hb.below B; replace HB := Hqb HB B; clear B; have hw1 := HW1.out
 go_upto_region 4 with (fail)
 clear hw1; refine Jo.rk [0, 1, 2, 3, 4, 5, 6, 7, 8, 9, 10, 11, 12, 13] [some 25, some 26, some 27, some 28, some 29, some 30, some 31, some 24, some 32, some 33, some 34, some 10, some 11, some 12] [[], [0], [], [1, 2], [], [4], [3, 5], [6], [7], [7], [7], [8], [9], [10]] 14 0 [Jo.qp w.heap.size 1, Jo.Fact.eq (.slice A n c), Jo.qi b, Jo.Fact.nm X 20000, Jo.qp (w.heap.size + 1) 1, Jo.Fact.eq (.slice B m d), Jo.Fact.dv Q R 20000, Jo.Fact.dv Q R 20000, Jo.Fact.nm Q 20000, Jo.Fact.nmA R, Jo.qb true, Jo.Fact.nm Q 20000, Jo.Fact.nmA R, Jo.qb true] (by kernel_rfl) (by kernel_rfl) (by decide) rfl ?_ ?_
 · refine Jo.jm rfl ?_ ?_; rotate_left
   refine Jo.jm rfl ?_ ?_
   · rintro wj hJ _ rfl K hK; simp only [Jo.z] at hK ⊢; have xX41 := (X4.below hJ).a 1 (.slice A n c) rfl; go_simp; exact hK.out _ _ rfl (br _ _)
   refine Jo.jm rfl ?_ ?_; rotate_left
   refine Jo.jm rfl ?_ ?_
   · rintro wj hJ _ rfl _ rfl K hK; simp only [Jo.z] at hK ⊢; go_simp; refine (rShlN (z := b) (ha.below hJ) (by omega) (by omega) (by omega) HX.out).mono ?_; rintro ee wk ⟨A3, n3, c3, rfl, p3, k3, B⟩; exact hK.out _ _ ⟨A3, n3, c3, rfl, p3, Nat.le_trans k3 hXn⟩ B
   refine Jo.jm rfl ?_ ?_; rotate_left
   refine Jo.jm rfl ?_ ?_
   · rintro wj hJ _ rfl K hK; simp only [Jo.z] at hK ⊢; have xX51 := (X5.below hJ).a 1 (.slice B m d) rfl; go_simp; exact hK.out _ _ rfl (br _ _)
   refine Jo.jm rfl ?_ ?_
   · rintro wj hJ _ ⟨A3, n3, c3, rfl, p3, k3⟩ _ rfl K hK; simp only [Jo.z] at hK ⊢; go_simp; refine (jDivE p3.rd (hb.below hJ) (by omega) (by omega) hn0 HQ.out HRM.out).mono ?_; rintro ee wk ⟨A6, n6, c6, B6, m6, d6_, rfl, p6, r6, k6, l6, B⟩; exact hK.out _ _ ⟨A6, n6, c6, B6, m6, d6_, rfl, p6, r6, Nat.le_trans k6 k3⟩ B
   refine Jo.jm rfl ?_ ?_
   · rintro wj hJ _ ⟨A6, n6, c6, B6, m6, d6_, rfl, p6, r6, k6⟩ K hK; simp only [Jo.z] at hK ⊢; go_simp; exact hK.out _ _ ⟨A6, n6, c6, B6, m6, d6_, rfl, p6, r6, k6⟩ (br _ _)
   refine Jo.jm rfl ?_ ?_
   · rintro wj hJ _ ⟨A6, n6, c6, B6, m6, d6_, rfl, p6, r6, k6⟩ K hK; simp only [Jo.z] at hK ⊢; go_simp; exact hK.out _ _ ⟨A6, n6, c6, rfl, p6, k6⟩ (br _ _)
   refine Jo.jm rfl ?_ ?_
   · rintro wj hJ _ ⟨A6, n6, c6, B6, m6, d6_, rfl, p6, r6, k6⟩ K hK; simp only [Jo.z] at hK ⊢; go_simp; exact hK.out _ _ ⟨B6, m6, d6_, rfl, r6⟩ (br _ _)
   refine Jo.jm rfl ?_ ?_
   · rintro wj hJ _ ⟨A6, n6, c6, B6, m6, d6_, rfl, p6, r6, k6⟩ K hK; simp only [Jo.z] at hK ⊢; go_simp; exact hK.out _ _ rfl (br _ _)
   refine Jo.jm rfl ?_ ?_
   · rintro wj hJ _ ⟨A8, n8, c8, rfl, p8, k8⟩ K hK; simp only [Jo.z] at hK ⊢; go_simp; exact hK.out _ _ ⟨A8, n8, c8, rfl, p8, k8⟩ (br _ _)
   refine Jo.jm rfl ?_ ?_
   · rintro wj hJ _ ⟨A9, n9, c9, rfl, p9⟩ K hK; simp only [Jo.z] at hK ⊢; go_simp; exact hK.out _ _ ⟨A9, n9, c9, rfl, p9⟩ (br _ _)
   refine Jo.jm rfl ?_ ?_; rotate_left
   exact Jo.Steps.nil
   all_goals (rintro wj hJ; (repeat rintro _ rfl); intro K hK; simp only [Jo.z] at hK ⊢; go_simp; exact hK.out _ _ rfl (br _ _))
 rintro w4 hJ _ _ _ rfl _ rfl _ ⟨_, _, _, rfl, _⟩ _ _ _ rfl _ ⟨_, _, _, _, _, _, rfl, _⟩ _ ⟨_, _, _, _, _, _, rfl, _⟩ _ ⟨_, _, _, rfl, _⟩ _ ⟨_, _, _, rfl, _⟩ _ rfl _ ⟨A11, n11, c11, rfl, p11, k11⟩ _ ⟨A12, n12, c12, rfl, p12⟩ _ rfl -; simp only [Jo.z]; replace X4 := X4.below hJ; replace X5 := X5.below hJ; replace XR := XR.below hJ; replace ha := ha.below hJ; replace hb := hb.below hJ; replace HB := Hqb HB hJ
 refine Jo.jdone (by kernel_rfl) ?_; clear ha hb
 have hpos : 0 < n12 := by have := p12.pos; omega
 have hgt : (0 : Int) < n12 := by omega
 have hlen : n12 ≤ 1099511627776 := p12.rd.big
 clear p12
 go_wp2_with fail
 refine (jSticky (d := R) (cut := true) p11.rd (by omega) (decide_eq_true hz) HST.out).mono ?_; rintro ee w5 ⟨A5, n5, c5, rfl, p5, k5, B⟩; replace X4 := X4.below B; replace X5 := X5.below B; replace XR := XR.below B; replace p11 := p11.below B; replace HB := Hqb HB B; clear B; clear p11; have xX4 := X4.cell; have xX5 := X5.cell
 go_wp2_with fail
 refine (qMake (!(s == t)) p5.rd).mono ?_; rintro ee w6 ⟨s7, A7, n7, c7, rfl, p7, k7, B⟩; clear xX4 xX5; replace X4 := X4.below B; replace X5 := X5.below B; replace XR := XR.below B; replace p5 := p5.below B; replace HB := Hqb HB B; clear B; clear p5; have hw2 := HW2.out; have hw3 := HW3.out
 go_wp2_with fail
 refine (q3Make p7.wr (by omega) HP1.out HP2.out).mono ?_; rintro ee w7 ⟨s8, A8, n8, c8, rfl, p8, k8, B⟩; replace X4 := X4.below B; replace X5 := X5.below B; replace XR := XR.below B; replace p7 := p7.below B; replace HB := Hqb HB B; clear B; clear p7 hw2 hw3
 go_wp2_with fail
 refine (yRound p8.wr (by omega) rfl rfl HRR.out).mono ?_; rintro ee w8 ⟨K9, s9, M9, E9, rfl, q9, B⟩; replace X4 := X4.below B; replace X5 := X5.below B; replace XR := XR.below B; replace p8 := p8.below B; replace HB := Hqb HB B; clear B; have xXR := XR.cell; have zXR0 := XR.frozen; go_wp2; clear xXR zXR0; have SX := StN.mk4 XR (.int .i64 K9) (.bool s9) (.int .u64 M9) (.int .i64 E9)
 exact bodyPost_ret (by simp [results, Tryz.results96, go_sem, SX.box.cell]) rfl ⟨_, _, _, _, rfl, q9, (SX.below HB.out (by omega))⟩
theorem jratio_e {w : World} {A B : Option Addr} {n c m d α β : Nat} {s t up : Bool} {e r : Int} (ha : Rd w A n c α) (hb : Rd w B m d β) (hn : n ≤ 3500) (hm : m ≤ 3500) (e1 : -2200000 ≤ e) (e2 : e ≤ 2200000) {Q R : Nat} (h0 : 0 < β) (hQ : α * 2 ^ (70 + blen β) / β = Q) (hR : α * 2 ^ (70 + blen β) % β = R) (hz : R = 0) (hr : Sid up (sgi (s != t) ((α : Int) * 2 ^ (e + (KK : Int)).toNat)) (β : Int) r) : Calls Tryz.prog 96 #[.agg #[.bool s, .slice A n c], .agg #[.bool t, .slice B m d], .int .i64 e, .bool up] w (PN w r) := by
 have hbl := hb.blen_le; obtain ⟨by_, hby⟩ : ∃ k : Nat, 70 + blen β = k := ⟨_, rfl⟩; obtain ⟨κ, hκ⟩ : ∃ κ : Nat, κ = 500000 := ⟨_, rfl⟩; have hsmall := stk_small h0 hby.symm ha.bound hb.bound hn hm hκ; have hside := ratio_side (σ := (s != t)) (up := up) (e := e) h0 hby.symm hκ hsmall (by omega) (by omega); have hru := hside.uniq (by omega) hr; rw [hby] at hQ hR; rw [hQ, hR] at hru; obtain ⟨S, hS⟩ : ∃ S, stk Q R = S := ⟨_, rfl⟩
 rw [hS, ← sg_sgi] at hru; obtain ⟨X, hX⟩ : ∃ X, α * 2 ^ by_ = X := ⟨_, rfl⟩; rw [hX] at hQ hR; obtain ⟨b, hb2⟩ : ∃ b : Int, (by_ : Int) = b := ⟨_, rfl⟩; rw [hb2] at hru; obtain ⟨L, hL⟩ : ∃ L : Int, ((blen β : Nat) : Int) = L := ⟨_, rfl⟩
 have hLb : 70 + L = b := by omega
 have hb3 : 70 ≤ b ∧ b ≤ 200000 := by omega
 obtain ⟨P, hP⟩ : ∃ P, mk (sg (s != t) S) (e - b - 1) = P := ⟨_, rfl⟩; rw [hP] at hru
 have hPn : mk P.1 P.2 = P := by rw [← hP]; exact mk_nf _ _
 have HRR := Lib.hid (show rnd up (mk P.1 P.2).1 (mk P.1 P.2).2 = r by rw [hPn]; exact hru)
 have HP1 : Hid ((mk (sg (!(s == t)) S) (e - b - 1)).1 = P.1) := Lib.hid (by rw [← hP]; rfl)
 have HP2 : Hid ((mk (sg (!(s == t)) S) (e - b - 1)).2 = P.2) := Lib.hid (by rw [← hP]; rfl)
 have HL := Lib.hid hL
 have HW1 : Hid (IntKind.i64.wrap (70 + L) = b) := Lib.hid (by rw [hLb]; exact IntWalk.i64_in _ (by omega))
 have HW2 : Hid (IntKind.i64.wrap (e - b) = e - b) := Lib.hid (IntWalk.i64_in _ (by omega))
 have HW3 : Hid (IntKind.i64.wrap (e - b - 1) = e - b - 1) := Lib.hid (IntWalk.i64_in _ (by omega))
 have hbt : b.toNat = by_ := by omega
 have HX : Hid (α * 2 ^ b.toNat = X) := Lib.hid (by rw [hbt]; exact hX)
 have HQ := Lib.hid hQ; have HRM := Lib.hid hR; have HST := Lib.hid hS
 have hn0 : β ≠ 0 := by omega
 obtain ⟨σ, hσ⟩ : ∃ σ, cmpI (sg t β) 0 = σ := ⟨_, rfl⟩
 have hs0 : (σ == 0) = false := by
   have : σ ≠ 0 := by
     rw [← hσ]
     rcases sg_cases t β with ⟨a, _⟩ | ⟨_, _, a⟩ | ⟨_, _, a⟩
     · omega
     · rw [a]; decide
     · rw [a]; decide
   simpa using this
 have HS := Lib.hid hσ
 have hXn : n + b.toNat / 32 + 1 ≤ 20000 := by omega
 clear hside hr hru hsmall hbl hL hLb hX hb2 hP hPn hQ hR hS hby hκ hbt hσ
 go_enter Tryz.func96, Tryz.ntmps96
 go_upto_region 1 with (fail)
 generalize hW1 : ((w.alloc _).alloc _).alloc _ = w1 at *; obtain ⟨X4, X5, XR, HB⟩ := Bo.en3 hW1; replace ha := ha.below HB.out; replace hb := hb.below HB.out; clear hW1; have xX5 := X5.cell
 go_wp2_with fail
 refine (qSign (hb.wr t) HS.out).mono ?_; rintro ee w2 ⟨rfl, B⟩; clear xX5; replace X4 := X4.below B; replace X5 := X5.below B; replace XR := XR.below B; replace ha := ha.below B; replace hb := hb.below B; replace HB := Hqb HB B; clear B; have xX5 := X5.cell
 go_wp2_with fail
 refine (rLen hb HL.out).mono ?_; rintro ee w3 ⟨rfl, B⟩; clear xX5; replace X4 := X4.below B; replace X5 := X5.below B; replace XR := XR.below B; replace ha := ha.below B; replace hb := hb.below B; replace HB := Hqb HB B; clear B; have hw1 := HW1.out
 go_upto_region 4 with (fail)
 clear hw1; refine Jo.rk [0, 1, 2, 3, 4, 5, 6, 7, 8, 9, 10, 11, 12, 13] [some 25, some 26, some 27, some 28, some 29, some 30, some 31, some 24, some 32, some 33, some 34, some 10, some 11, some 12] [[], [0], [], [1, 2], [], [4], [3, 5], [6], [7], [7], [7], [8], [9], [10]] 14 0 [Jo.qp w.heap.size 1, Jo.Fact.eq (.slice A n c), Jo.qi b, Jo.Fact.nm X 20000, Jo.qp (w.heap.size + 1) 1, Jo.Fact.eq (.slice B m d), Jo.Fact.dv Q R 20000, Jo.Fact.dv Q R 20000, Jo.Fact.nm Q 20000, Jo.Fact.nmA R, Jo.qb true, Jo.Fact.nm Q 20000, Jo.Fact.nmA R, Jo.qb true] (by kernel_rfl) (by kernel_rfl) (by decide) rfl ?_ ?_
 · refine Jo.jm rfl ?_ ?_; rotate_left
   refine Jo.jm rfl ?_ ?_
   · rintro wj hJ _ rfl K hK; simp only [Jo.z] at hK ⊢; have xX41 := (X4.below hJ).a 1 (.slice A n c) rfl; go_simp; exact hK.out _ _ rfl (br _ _)
   refine Jo.jm rfl ?_ ?_; rotate_left
   refine Jo.jm rfl ?_ ?_
   · rintro wj hJ _ rfl _ rfl K hK; simp only [Jo.z] at hK ⊢; go_simp; refine (rShlN (z := b) (ha.below hJ) (by omega) (by omega) (by omega) HX.out).mono ?_; rintro ee wk ⟨A3, n3, c3, rfl, p3, k3, B⟩; exact hK.out _ _ ⟨A3, n3, c3, rfl, p3, Nat.le_trans k3 hXn⟩ B
   refine Jo.jm rfl ?_ ?_; rotate_left
   refine Jo.jm rfl ?_ ?_
   · rintro wj hJ _ rfl K hK; simp only [Jo.z] at hK ⊢; have xX51 := (X5.below hJ).a 1 (.slice B m d) rfl; go_simp; exact hK.out _ _ rfl (br _ _)
   refine Jo.jm rfl ?_ ?_
   · rintro wj hJ _ ⟨A3, n3, c3, rfl, p3, k3⟩ _ rfl K hK; simp only [Jo.z] at hK ⊢; go_simp; refine (jDivE p3.rd (hb.below hJ) (by omega) (by omega) hn0 HQ.out HRM.out).mono ?_; rintro ee wk ⟨A6, n6, c6, B6, m6, d6_, rfl, p6, r6, k6, l6, B⟩; exact hK.out _ _ ⟨A6, n6, c6, B6, m6, d6_, rfl, p6, r6, Nat.le_trans k6 k3⟩ B
   refine Jo.jm rfl ?_ ?_
   · rintro wj hJ _ ⟨A6, n6, c6, B6, m6, d6_, rfl, p6, r6, k6⟩ K hK; simp only [Jo.z] at hK ⊢; go_simp; exact hK.out _ _ ⟨A6, n6, c6, B6, m6, d6_, rfl, p6, r6, k6⟩ (br _ _)
   refine Jo.jm rfl ?_ ?_
   · rintro wj hJ _ ⟨A6, n6, c6, B6, m6, d6_, rfl, p6, r6, k6⟩ K hK; simp only [Jo.z] at hK ⊢; go_simp; exact hK.out _ _ ⟨A6, n6, c6, rfl, p6, k6⟩ (br _ _)
   refine Jo.jm rfl ?_ ?_
   · rintro wj hJ _ ⟨A6, n6, c6, B6, m6, d6_, rfl, p6, r6, k6⟩ K hK; simp only [Jo.z] at hK ⊢; go_simp; exact hK.out _ _ ⟨B6, m6, d6_, rfl, r6⟩ (br _ _)
   refine Jo.jm rfl ?_ ?_
   · rintro wj hJ _ ⟨A6, n6, c6, B6, m6, d6_, rfl, p6, r6, k6⟩ K hK; simp only [Jo.z] at hK ⊢; go_simp; exact hK.out _ _ rfl (br _ _)
   refine Jo.jm rfl ?_ ?_
   · rintro wj hJ _ ⟨A8, n8, c8, rfl, p8, k8⟩ K hK; simp only [Jo.z] at hK ⊢; go_simp; exact hK.out _ _ ⟨A8, n8, c8, rfl, p8, k8⟩ (br _ _)
   refine Jo.jm rfl ?_ ?_
   · rintro wj hJ _ ⟨A9, n9, c9, rfl, p9⟩ K hK; simp only [Jo.z] at hK ⊢; go_simp; exact hK.out _ _ ⟨A9, n9, c9, rfl, p9⟩ (br _ _)
   refine Jo.jm rfl ?_ ?_; rotate_left
   exact Jo.Steps.nil
   all_goals (rintro wj hJ; (repeat rintro _ rfl); intro K hK; simp only [Jo.z] at hK ⊢; go_simp; exact hK.out _ _ rfl (br _ _))
 rintro w4 hJ _ _ _ rfl _ rfl _ ⟨_, _, _, rfl, _⟩ _ _ _ rfl _ ⟨_, _, _, _, _, _, rfl, _⟩ _ ⟨_, _, _, _, _, _, rfl, _⟩ _ ⟨_, _, _, rfl, _⟩ _ ⟨_, _, _, rfl, _⟩ _ rfl _ ⟨A11, n11, c11, rfl, p11, k11⟩ _ ⟨A12, n12, c12, rfl, p12⟩ _ rfl -; simp only [Jo.z]; replace X4 := X4.below hJ; replace X5 := X5.below hJ; replace XR := XR.below hJ; replace ha := ha.below hJ; replace hb := hb.below hJ; replace HB := Hqb HB hJ
 refine Jo.jdone (by kernel_rfl) ?_; clear ha hb; subst hz
 obtain rfl : n12 = 0 := by have := p12.pos; omega
 clear p12
 go_wp2_with fail
 refine (jSticky (d := 0) (cut := false) p11.rd (by omega) (by decide) HST.out).mono ?_; rintro ee w5 ⟨A5, n5, c5, rfl, p5, k5, B⟩; replace X4 := X4.below B; replace X5 := X5.below B; replace XR := XR.below B; replace p11 := p11.below B; replace HB := Hqb HB B; clear B; clear p11; have xX4 := X4.cell; have xX5 := X5.cell
 go_wp2_with fail
 refine (qMake (!(s == t)) p5.rd).mono ?_; rintro ee w6 ⟨s7, A7, n7, c7, rfl, p7, k7, B⟩; clear xX4 xX5; replace X4 := X4.below B; replace X5 := X5.below B; replace XR := XR.below B; replace p5 := p5.below B; replace HB := Hqb HB B; clear B; clear p5; have hw2 := HW2.out; have hw3 := HW3.out
 go_wp2_with fail
 refine (q3Make p7.wr (by omega) HP1.out HP2.out).mono ?_; rintro ee w7 ⟨s8, A8, n8, c8, rfl, p8, k8, B⟩; replace X4 := X4.below B; replace X5 := X5.below B; replace XR := XR.below B; replace p7 := p7.below B; replace HB := Hqb HB B; clear B; clear p7 hw2 hw3
 go_wp2_with fail
 refine (yRound p8.wr (by omega) rfl rfl HRR.out).mono ?_; rintro ee w8 ⟨K9, s9, M9, E9, rfl, q9, B⟩; replace X4 := X4.below B; replace X5 := X5.below B; replace XR := XR.below B; replace p8 := p8.below B; replace HB := Hqb HB B; clear B; have xXR := XR.cell; have zXR0 := XR.frozen; go_wp2; clear xXR zXR0; have SX := StN.mk4 XR (.int .i64 K9) (.bool s9) (.int .u64 M9) (.int .i64 E9)
 exact bodyPost_ret (by simp [results, Tryz.results96, go_sem, SX.box.cell]) rfl ⟨_, _, _, _, rfl, q9, (SX.below HB.out (by omega))⟩
theorem jRatio0 {w : World} {A B : Option Addr} {n c m d α β : Nat} {s t up : Bool} {e r : Int} (ha : Rd w A n c α) (hb : Rd w B m d β) (hn : n ≤ 3500) (hm : m ≤ 3500) (e1 : -2200000 ≤ e) (e2 : e ≤ 2200000) (h0 : 0 < β) (hr : Sid up (sgi (s != t) ((α : Int) * 2 ^ (e + (KK : Int)).toNat)) (β : Int) r) : Calls Tryz.prog 96 #[.agg #[.bool s, .slice A n c], .agg #[.bool t, .slice B m d], .int .i64 e, .bool up] w (PN w r) := by
 by_cases hz : α * 2 ^ (70 + blen β) % β = 0
 · exact jratio_e ha hb hn hm e1 e2 h0 rfl rfl hz hr
 · exact jratio_l ha hb hn hm e1 e2 h0 rfl rfl hz hr
theorem jRatio {w : World} {A B : Option Addr} {n c m d : Nat} {s t up : Bool} {z y r : Int} (h : Wr w s A n c z) (k : Wr w t B m d y) (hn : n ≤ 3500) (hm : m ≤ 3500) (hr : Rq up z y r) : Calls Tryz.prog 54 #[.agg #[.bool s, .slice A n c], .agg #[.bool t, .slice B m d], .bool up] w (PN w r) := by
 obtain ⟨α, ha, hz⟩ := h; obtain ⟨β, hb, hy⟩ := k
 have hside : (β = 0 ∧ sgi (!up) TP = r) ∨ (0 < β ∧ Sid up (sgi (s != t) ((α : Int) * 2 ^ (0 + (KK : Int)).toNat)) (β : Int) r) := by
   rw [sg_sgi] at hz hy
   rcases Nat.eq_zero_or_pos β with e | e
   · left
     subst e
     have : y = 0 := by rw [← hy]; cases t <;> rfl
     subst this; exact ⟨rfl, (rq_none.1 hr).symm⟩
   · right
     obtain ⟨r', hr'⟩ := sid_ex up (sgi (s != t) ((α : Int) * 2 ^ (0 + (KK : Int)).toNat)) (show (0 : Int) < (β : Int) by omega)
     have := rq_of e hr'
     rw [hz, hy] at this; rw [hr.uniq this]; exact ⟨e, hr'⟩
 clear hz hy hr
 go_enter Tryz.func54, Tryz.ntmps54
 go_upto_region 1 with (fail)
 generalize hW1 : ((w.alloc _).alloc _).alloc _ = w1 at *; obtain ⟨X3, X4, XR, HB⟩ := Bo.en3 hW1; replace ha := ha.below HB.out; replace hb := hb.below HB.out; clear hW1
 rcases hside with ⟨h0, hr⟩ | ⟨h0, hr⟩
 · have xX3 := X3.cell; have xX4 := X4.cell
   go_wp2_with fail
   refine (jratio_z ha hb hn hm (by decide) (by decide) h0 hr).mono ?_; rintro ee w2 ⟨K1, s1, M1, E1, rfl, q1, B⟩; clear xX3 xX4; replace X3 := X3.below B; replace X4 := X4.below B; replace XR := XR.below B; replace ha := ha.below B; replace hb := hb.below B; replace HB := Hqb HB B; clear B; have xXR := XR.cell; have zXR0 := XR.frozen; go_wp2; clear xXR zXR0
   have SX := StN.mk4 XR (.int .i64 K1) (.bool s1) (.int .u64 M1) (.int .i64 E1); exact bodyPost_ret (by simp [results, Tryz.results54, go_sem, SX.box.cell]) rfl ⟨_, _, _, _, rfl, q1, (SX.below HB.out (by omega))⟩
 · have HR := Lib.hid hr; clear hr; have xX3 := X3.cell; have xX4 := X4.cell
   go_wp2_with fail
   refine (jRatio0 ha hb hn hm (by decide) (by decide) h0 HR.out).mono ?_; rintro ee w2 ⟨K1, s1, M1, E1, rfl, q1, B⟩; clear xX3 xX4; replace X3 := X3.below B; replace X4 := X4.below B; replace XR := XR.below B; replace ha := ha.below B; replace hb := hb.below B; replace HB := Hqb HB B; clear B; have xXR := XR.cell; have zXR0 := XR.frozen; go_wp2; clear xXR zXR0
   have SX := StN.mk4 XR (.int .i64 K1) (.bool s1) (.int .u64 M1) (.int .i64 E1); exact bodyPost_ret (by simp [results, Tryz.results54, go_sem, SX.box.cell]) rfl ⟨_, _, _, _, rfl, q1, (SX.below HB.out (by omega))⟩
end Go.Proofs.YtmmallhniijdfaaGreatDoor

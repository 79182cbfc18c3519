/-
  The walk of PiHolds: for all arguments the call answers true, and nothing that was there has turned.
-/
import Derived.Test.YtmmallhniijdfaaDoorYAbc
namespace Go.Proofs.YtmmallhniijdfaaDoor
set_option maxHeartbeats 8000000
open Go.RowKit
set_option linter.unusedVariables false
set_option linter.unusedSimpArgs false
set_option maxRecDepth 100000
theorem piHolds_a (D0 : Int) (s0 : Bool) (M0 E0 : Int) (w : World) (hT : Tab w) (u0 : LQ M0) (m0 : 0 ≤ M0) (x : Int) (hx : rk D0 s0 M0 E0 = x) (hf : fixB x = false) (b : Bool) (hq : exb D0 s0 M0 E0 = b) :
   Calls Tryd.prog 3 #[VQ D0 s0 M0 E0] w (PB w true) := by
 delta VQ
 obtain ⟨N, hN⟩ : ∃ N, (exq D0 s0 M0 E0).1 = N := ⟨_, rfl⟩; obtain ⟨G, hG⟩ : ∃ N, (exq D0 s0 M0 E0).2 = N := ⟨_, rfl⟩; have HX := Lib.hid hx; have HF := Lib.hid hf; have HQ := Lib.hid hq; have HN := Lib.hid hN; have HG := Lib.hid hG; clear hx hf hq hN hG
 go_enter Tryd.func3, Tryd.ntmps3
 go_upto_region 1 with (fail)
 generalize hW1 : w.alloc _ = w1 at *; obtain ⟨X0, HB⟩ := Bo.en1 hW1; replace hT := hT.below HB.out; clear hW1
 go_wp2_with fail
 refine (awake11 hT).mono ?_; rintro ee w2 ⟨rfl, B⟩; replace X0 := X0.below B; replace hT := hT.below B; replace HB := Hqb HB B; clear B; have xX0 := X0.cell
 go_wp2_with fail
 refine (cFix hT m0 u0 HX.out rfl HF.out).mono ?_; rintro ee w3 ⟨s11, A11, n11, c11, rfl, p11, k11, B⟩; clear xX0; replace X0 := X0.below B; replace hT := hT.below B; replace HB := Hqb HB B; clear B; have hsz11 := HB.out.size
 go_upto_region 3 with (fail)
 have lX4 := Nat.le_refl (World.heap w3).size; have nX4X0 := X0.lt; generalize hWn : w3.alloc _ = w4 at *; obtain ⟨X4, BW⟩ := Bo.nw hWn; clear hWn; replace X0 := X0.below BW; replace hT := hT.below BW; replace p11 := p11.below BW; replace HB := Hqb HB BW; clear BW; clear lX4; have xX0 := X0.cell
 go_wp2_with fail
 refine (nExact hT m0 u0 HQ.out HN.out HG.out).mono ?_; rintro ee w5 ⟨s6, A6, n6, c6, rfl, p6, k6, B⟩; clear xX0; replace X0 := X0.below B; replace X4 := X4.below B; replace hT := hT.below B; replace p11 := p11.below B; replace HB := Hqb HB B; clear B; have hszx := HB.out.size
 go_upto_region 4 with (fail)
 have lX6 := Nat.le_refl (World.heap w5).size; have nX6X0 := X0.lt; have nX6X4 := X4.lt; generalize hWn : w5.alloc _ = w6 at *; obtain ⟨X6, BW⟩ := Bo.nw hWn; clear hWn; replace X0 := X0.below BW; replace X4 := X4.below BW; replace hT := hT.below BW; replace p11 := p11.below BW; replace p6 := p6.below BW; replace HB := Hqb HB BW; clear BW; clear lX6; clear hT p11 p6; go_wp2
 go_ret
 exact ⟨rfl, HB.out⟩
theorem piHolds_b (D0 : Int) (s0 : Bool) (M0 E0 : Int) (w : World) (hT : Tab w) (u0 : LQ M0) (m0 : 0 ≤ M0) (x : Int) (hx : rk D0 s0 M0 E0 = x) (hf : fixB x = true) (hq : exb D0 s0 M0 E0 = false) :
   Calls Tryd.prog 3 #[VQ D0 s0 M0 E0] w (PB w true) := by
 delta VQ
 obtain ⟨N, hN⟩ : ∃ N, (exq D0 s0 M0 E0).1 = N := ⟨_, rfl⟩; obtain ⟨G, hG⟩ : ∃ N, (exq D0 s0 M0 E0).2 = N := ⟨_, rfl⟩; have HX := Lib.hid hx; have HF := Lib.hid hf; have HQ := Lib.hid hq; have HN := Lib.hid hN; have HG := Lib.hid hG; clear hx hf hq hN hG
 go_enter Tryd.func3, Tryd.ntmps3
 go_upto_region 1 with (fail)
 generalize hW1 : w.alloc _ = w1 at *; obtain ⟨X0, HB⟩ := Bo.en1 hW1; replace hT := hT.below HB.out; clear hW1
 go_wp2_with fail
 refine (awake11 hT).mono ?_; rintro ee w2 ⟨rfl, B⟩; replace X0 := X0.below B; replace hT := hT.below B; replace HB := Hqb HB B; clear B; have xX0 := X0.cell
 go_wp2_with fail
 refine (cFix hT m0 u0 HX.out rfl HF.out).mono ?_; rintro ee w3 ⟨s11, A11, n11, c11, rfl, p11, k11, B⟩; clear xX0; replace X0 := X0.below B; replace hT := hT.below B; replace HB := Hqb HB B; clear B; have hsz11 := HB.out.size
 go_upto_region 3 with (fail)
 have lX4 := Nat.le_refl (World.heap w3).size; have nX4X0 := X0.lt; generalize hWn : w3.alloc _ = w4 at *; obtain ⟨X4, BW⟩ := Bo.nw hWn; clear hWn; replace X0 := X0.below BW; replace hT := hT.below BW; replace p11 := p11.below BW; replace HB := Hqb HB BW; clear BW; clear lX4; have xX0 := X0.cell
 go_wp2_with fail
 refine (nExact hT m0 u0 HQ.out HN.out HG.out).mono ?_; rintro ee w5 ⟨s6, A6, n6, c6, rfl, p6, k6, B⟩; clear xX0; replace X0 := X0.below B; replace X4 := X4.below B; replace hT := hT.below B; replace p11 := p11.below B; replace HB := Hqb HB B; clear B; have hszx := HB.out.size
 go_upto_region 4 with (fail)
 have lX6 := Nat.le_refl (World.heap w5).size; have nX6X0 := X0.lt; have nX6X4 := X4.lt; generalize hWn : w5.alloc _ = w6 at *; obtain ⟨X6, BW⟩ := Bo.nw hWn; clear hWn; replace X0 := X0.below BW; replace X4 := X4.below BW; replace hT := hT.below BW; replace p11 := p11.below BW; replace p6 := p6.below BW; replace HB := Hqb HB BW; clear BW; clear lX6; clear hT p11 p6; go_wp2
 go_ret
 exact ⟨rfl, HB.out⟩
theorem piHolds_c (D0 : Int) (s0 : Bool) (M0 E0 : Int) (w : World) (hT : Tab w) (u0 : LQ M0) (m0 : 0 ≤ M0) (x : Int) (hx : rk D0 s0 M0 E0 = x) (hf : fixB x = true) (hq : exb D0 s0 M0 E0 = true) (he : E0 < -1500) :
   Calls Tryd.prog 3 #[VQ D0 s0 M0 E0] w (PB w true) := by
 delta VQ
 obtain ⟨N, hN⟩ : ∃ N, (exq D0 s0 M0 E0).1 = N := ⟨_, rfl⟩; obtain ⟨G, hG⟩ : ∃ N, (exq D0 s0 M0 E0).2 = N := ⟨_, rfl⟩; have HX := Lib.hid hx; have HF := Lib.hid hf; have HQ := Lib.hid hq; have HN := Lib.hid hN; have HG := Lib.hid hG; clear hx hf hq hN hG
 go_enter Tryd.func3, Tryd.ntmps3
 go_upto_region 1 with (fail)
 generalize hW1 : w.alloc _ = w1 at *; obtain ⟨X0, HB⟩ := Bo.en1 hW1; replace hT := hT.below HB.out; clear hW1
 go_wp2_with fail
 refine (awake11 hT).mono ?_; rintro ee w2 ⟨rfl, B⟩; replace X0 := X0.below B; replace hT := hT.below B; replace HB := Hqb HB B; clear B; have xX0 := X0.cell
 go_wp2_with fail
 refine (cFix hT m0 u0 HX.out rfl HF.out).mono ?_; rintro ee w3 ⟨s11, A11, n11, c11, rfl, p11, k11, B⟩; clear xX0; replace X0 := X0.below B; replace hT := hT.below B; replace HB := Hqb HB B; clear B; have hsz11 := HB.out.size
 go_upto_region 3 with (fail)
 have lX4 := Nat.le_refl (World.heap w3).size; have nX4X0 := X0.lt; generalize hWn : w3.alloc _ = w4 at *; obtain ⟨X4, BW⟩ := Bo.nw hWn; clear hWn; replace X0 := X0.below BW; replace hT := hT.below BW; replace p11 := p11.below BW; replace HB := Hqb HB BW; clear BW; clear lX4; have xX0 := X0.cell
 go_wp2_with fail
 refine (nExact hT m0 u0 HQ.out HN.out HG.out).mono ?_; rintro ee w5 ⟨s6, A6, n6, c6, rfl, p6, k6, B⟩; clear xX0; replace X0 := X0.below B; replace X4 := X4.below B; replace hT := hT.below B; replace p11 := p11.below B; replace HB := Hqb HB B; clear B; have hszx := HB.out.size
 go_upto_region 4 with (fail)
 have lX6 := Nat.le_refl (World.heap w5).size; have nX6X0 := X0.lt; have nX6X4 := X4.lt; generalize hWn : w5.alloc _ = w6 at *; obtain ⟨X6, BW⟩ := Bo.nw hWn; clear hWn; replace X0 := X0.below BW; replace X4 := X4.below BW; replace hT := hT.below BW; replace p11 := p11.below BW; replace p6 := p6.below BW; replace HB := Hqb HB BW; clear BW; clear lX6; clear hT p11 p6
 have te : decide (E0 < -1500) = true := decide_eq_true he
 have xX0 := X0.cell; go_wp2
 go_ret
 exact ⟨rfl, HB.out⟩
theorem cmp_le12 {x y c : Int} (h : cmpI x y = c) (e : x ≤ y) : decide (c ≤ 0) = true := by
 rw [← h]
 exact decide_eq_true (by rcases cmpI_tri x y with ⟨a, b⟩ | ⟨a, b⟩ | ⟨a, b⟩ <;> rw [b] <;> omega)
theorem fix_between {x g : Int} (h : fixB x = true) (hg : fixI x = g) : vl (mk g (-192)) ≤ vr x ∧ vr x < vl (mk (g + 1) (-192)) := by
 obtain ⟨a, b⟩ := fix_holds h; have ft := fix_fits h; rw [hg] at a b ft; have v1 := (raw_fit (z := g) (e := -192) (n := 10) ft (by decide) (by decide) (by decide)).2
 have v2 := (raw_fit (z := g + 1) (e := -192) (n := 11) (by
   have : (4294967296 : Nat) ^ 10 + 1 ≤ 4294967296 ^ 11 := by decide
   omega) (by decide) (by decide) (by decide)).2
 have hk : (2 : Int) ^ KK = 2 ^ (-192 + (KK : Int)).toNat * SC := by
   rw [sc_pow, ← Int.pow_add]
   congr 1
 rw [v1, v2]; rw [hk, ← Int.mul_assoc] at a b; exact ⟨Int.le_of_mul_le_mul_right a (by decide), Int.lt_of_mul_lt_mul_right b (by decide)⟩
theorem piHolds_main (D0 : Int) (s0 : Bool) (M0 E0 : Int) (w : World) (hT : Tab w) (u0 : LQ M0) (m0 : 0 ≤ M0) (x g : Int) (hx : rk D0 s0 M0 E0 = x) (hf : fixB x = true) (hg : fixI x = g) (fits : g.natAbs < 4294967296 ^ 10) (hq : exb D0 s0 M0 E0 = true) (he : ¬ E0 < -1500)
   (N G : Int) (hN : (exq D0 s0 M0 E0).1 = N) (hG : (exq D0 s0 M0 E0).2 = G) (hv : vl (mk N G) = vr x) :
   Calls Tryd.prog 3 #[VQ D0 s0 M0 E0] w (PB w true) := by
 delta VQ
 obtain ⟨k1, k2⟩ := fix_between hf hg; obtain ⟨P1, hP1⟩ : ∃ N, (mk g (-192)).1 = N := ⟨_, rfl⟩; obtain ⟨Q1, hQ1⟩ : ∃ N, (mk g (-192)).2 = N := ⟨_, rfl⟩; obtain ⟨P2, hP2⟩ : ∃ N, (mk (g + 1) (-192)).1 = N := ⟨_, rfl⟩; obtain ⟨Q2, hQ2⟩ : ∃ N, (mk (g + 1) (-192)).2 = N := ⟨_, rfl⟩
 have n1 : mk P1 Q1 = mk g (-192) := by rw [← hP1, ← hQ1]; exact mk_nf g (-192)
 have n2 : mk P2 Q2 = mk (g + 1) (-192) := by rw [← hP2, ← hQ2]; exact mk_nf (g + 1) (-192)
 rw [← n1, ← hv] at k1; rw [← n2, ← hv] at k2; obtain ⟨σ, hσ⟩ : ∃ σ, cmpI (vl (mk P1 Q1)) (vl (mk N G)) = σ := ⟨_, rfl⟩; have tl := cmp_le12 hσ k1; have C1 := Lib.hid hσ
 have C2 : Hid (cmpI (vl (mk N G)) (vl (mk P2 Q2)) = -1) := Lib.hid (cmpI_lt k2)
 have te : decide (E0 < -1500) = false := decide_eq_false he
 have HX := Lib.hid hx; have HF := Lib.hid hf; have HQ := Lib.hid hq; have HN := Lib.hid hN; have HG := Lib.hid hG; have HGG := Lib.hid hg; have HFT := Lib.hid fits; have HP1 := Lib.hid hP1; have HQ1 := Lib.hid hQ1; have HP2 := Lib.hid hP2; have HQ2 := Lib.hid hQ2; clear hx hf hq hN hG hg fits hP1 hQ1 hP2 hQ2 n1 n2 k1 k2 hσ hv he
 go_enter Tryd.func3, Tryd.ntmps3
 go_upto_region 1 with (fail)
 generalize hW1 : w.alloc _ = w1 at *; obtain ⟨X0, HB⟩ := Bo.en1 hW1; replace hT := hT.below HB.out; clear hW1
 go_wp2_with fail
 refine (awake11 hT).mono ?_; rintro ee w2 ⟨rfl, B⟩; replace X0 := X0.below B; replace hT := hT.below B; replace HB := Hqb HB B; clear B; have xX0 := X0.cell
 go_wp2_with fail
 refine (cFix hT m0 u0 HX.out HGG.out HF.out).mono ?_; rintro ee w3 ⟨s11, A11, n11, c11, rfl, p11, k11, B⟩; clear xX0; replace X0 := X0.below B; replace hT := hT.below B; replace HB := Hqb HB B; clear B; have hsz11 := HB.out.size
 go_upto_region 3 with (fail)
 have lX4 := Nat.le_refl (World.heap w3).size; have nX4X0 := X0.lt; generalize hWn : w3.alloc _ = w4 at *; obtain ⟨X4, BW⟩ := Bo.nw hWn; clear hWn; replace X0 := X0.below BW; replace hT := hT.below BW; replace p11 := p11.below BW; replace HB := Hqb HB BW; clear BW; clear lX4; have xX0 := X0.cell
 go_wp2_with fail
 refine (nExact hT m0 u0 HQ.out HN.out HG.out).mono ?_; rintro ee w5 ⟨s6, A6, n6, c6, rfl, p6, k6, B⟩; clear xX0; replace X0 := X0.below B; replace X4 := X4.below B; replace hT := hT.below B; replace p11 := p11.below B; replace HB := Hqb HB B; clear B; have hszx := HB.out.size
 go_upto_region 4 with (fail)
 have lX6 := Nat.le_refl (World.heap w5).size; have nX6X0 := X0.lt; have nX6X4 := X4.lt; generalize hWn : w5.alloc _ = w6 at *; obtain ⟨X6, BW⟩ := Bo.nw hWn; clear hWn; replace X0 := X0.below BW; replace X4 := X4.below BW; replace hT := hT.below BW; replace p11 := p11.below BW; replace p6 := p6.below BW; replace HB := Hqb HB BW; clear BW; clear lX6; have few := p11.fits HFT.out; have xX0 := X0.cell
 have xX4 := X4.cell
 go_wp2_with fail
 refine (dMake hT p11.wr (by omega) HP1.out HQ1.out).mono ?_; rintro ee w7 ⟨s8, A8, n8, c8, rfl, p8, k8, B⟩; clear xX0 xX4; replace X0 := X0.below B; replace X4 := X4.below B; replace X6 := X6.below B; replace hT := hT.below B; replace p11 := p11.below B; replace p6 := p6.below B; replace HB := Hqb HB B; clear B; clear te; have hszy := HB.out.size
 go_upto_region 7 with (fail)
 have lX8 := Nat.le_refl (World.heap w7).size; have nX8X0 := X0.lt; have nX8X4 := X4.lt; have nX8X6 := X6.lt; generalize hWn : w7.alloc _ = w8 at *; obtain ⟨X8, BW⟩ := Bo.nw hWn; clear hWn; replace X0 := X0.below BW; replace X4 := X4.below BW; replace X6 := X6.below BW; replace hT := hT.below BW; replace p11 := p11.below BW; replace p6 := p6.below BW; replace p8 := p8.below BW; replace HB := Hqb HB BW
 clear BW; clear lX8; have ltX0 := X0.lt; have ltX4 := X4.lt; have ltX6 := X6.lt; have ltX8 := X8.lt; refine Jo.rk [0, 1, 2, 3, 4] [some 39, some 40, some 41, some 42, some 9, none] [[], [], [0, 1], [2], [], []] 6 1 [Jo.Fact.eq (.agg #[.bool s11, .slice A11 n11 c11]), Jo.Fact.wn (1) (2), Jo.Fact.wn (g + 1) (20), Jo.Fact.dy P2 Q2 20, Jo.Fact.bo w8.heap.size #[.bool false, .slice none 0 0, .int .i64 0] 32, Jo.Fact.any] (by kernel_rfl) (by kernel_rfl) (by decide) rfl ?_ ?_
 · refine Jo.jm rfl ?_ ?_
   · rintro wj hJ K hK; simp only [Jo.z] at hK ⊢; have xX4 := (X4.below hJ).cell; go_simp; exact hK.out _ _ rfl (br _ _)
   refine Jo.jm rfl ?_ ?_
   · rintro wj hJ K hK; simp only [Jo.z] at hK ⊢; go_simp; refine (wFrom 1 _ (by decide) (by decide)).mono ?_; rintro ee wk ⟨s20, A20, n20, c20, rfl, p20, k20, B⟩; exact hK.out _ _ ⟨s20, A20, n20, c20, rfl, p20, k20⟩ B
   refine Jo.jm rfl ?_ ?_
   · rintro wj hJ _ rfl _ ⟨s20, A20, n20, c20, rfl, p20, k20⟩ K hK; simp only [Jo.z] at hK ⊢; go_simp; refine (wAdd (p11.below hJ).wr p20.wr (by omega) (by omega) rfl).mono ?_; rintro ee wk ⟨s21, A21, n21, c21, rfl, p21, k21, B⟩; exact hK.out _ _ ⟨s21, A21, n21, c21, rfl, p21, by omega⟩ B
   refine Jo.jm rfl ?_ ?_
   · rintro wj hJ _ ⟨s21, A21, n21, c21, rfl, p21, k21⟩ K hK; simp only [Jo.z] at hK ⊢; go_simp; refine (dMake (hT.below hJ) p21.wr (by omega) HP2.out HQ2.out).mono ?_; rintro ee wk ⟨s9, A9, n9, c9, rfl, p9, k9, B⟩; exact hK.out _ _ ⟨s9, A9, n9, c9, rfl, p9, by omega⟩ B
   refine Jo.jm rfl ?_ ?_
   · rintro wj hJ K hK; simp only [Jo.z] at hK ⊢; go_simp; exact hK.out _ _ ⟨_, rfl, hJ.size, Bo.new _ _ _⟩ (bel1 _ _)
   exact Jo.Steps.nil
 rintro w9 hJ _ rfl _ ⟨s20, A20, n20, c20, rfl, p20, k20⟩ _ ⟨s21, A21, n21, c21, rfl, p21, k21⟩ _ ⟨s9, A9, n9, c9, rfl, p9, k9⟩ _ ⟨g9, rfl, hg9, X9⟩ -; simp only [Jo.z]; replace X0 := X0.below hJ; replace X4 := X4.below hJ; replace X6 := X6.below hJ; replace X8 := X8.below hJ; replace hT := hT.below hJ; replace p11 := p11.below hJ; replace p6 := p6.below hJ; replace p8 := p8.below hJ; replace HB := Hqb HB hJ
 have xX9 := X9.cell; have zX90 := X9.frozen
 refine Jo.jnext (i := 5) (o := ⟨none, _, _, _, _, _⟩) (by kernel_rfl) rfl (fun K hK => ?_)
 go_simp; refine hK.out _ _ ?_; clear hK K xX9 zX90; generalize hS : ((w9.setCell _ _).setCell _ _).setCell _ _ = wA at *; have SX := StN.of3 X9 hS; replace X0 := X0.stn SX (by omega); replace X4 := X4.stn SX (by omega); replace X6 := X6.stn SX (by omega); replace X8 := X8.stn SX (by omega); replace hT := hT.stn SX (by simp [no8]); replace p11 := p11.stn SX (by simp [no32]); replace p6 := p6.stn SX (by simp [no32])
 replace p8 := p8.stn SX (by simp [no32]); replace p9 := p9.stn SX (by simp [no32]); replace HB := Hqs HB SX (by omega); replace X9 := SX.box; clear SX hS; refine Jo.jdone (by kernel_rfl) ?_
 go_upto_region 8 with (fail)
 have xX8 := X8.cell; have xX6 := X6.cell
 go_wp2_with fail
 refine (dCmp hT p8.wr p6.wr (by omega) (by omega) C1.out).mono ?_; rintro ee wB ⟨rfl, B⟩; clear xX8 xX6; replace X0 := X0.below B; replace X4 := X4.below B; replace X6 := X6.below B; replace X8 := X8.below B; replace X9 := X9.below B; replace hT := hT.below B; replace p11 := p11.below B; replace p6 := p6.below B; replace p8 := p8.below B; replace p9 := p9.below B; replace HB := Hqb HB B
 clear B; have xX6 := X6.cell; have xX9 := X9.cell
 go_wp2_with fail
 refine (dCmp hT p6.wr p9.wr (by omega) (by omega) C2.out).mono ?_; rintro ee wC ⟨rfl, B⟩; clear xX6 xX9; replace X0 := X0.below B; replace X4 := X4.below B; replace X6 := X6.below B; replace X8 := X8.below B; replace X9 := X9.below B; replace hT := hT.below B; replace p11 := p11.below B; replace p6 := p6.below B; replace p8 := p8.below B; replace p9 := p9.below B; replace HB := Hqb HB B
 clear B; go_wp2
 go_ret
 exact ⟨by first | rfl | simp_all, HB.out⟩
theorem piHolds_walk (D0 : Int) (s0 : Bool) (M0 E0 : Int) (w : World) (hT : Tab w) (w0 : 0 ≤ M0) (u0 : LQ M0) :
   Calls Tryd.prog 3 #[VQ D0 s0 M0 E0] w fun e w' => e = .returned (.bool true) ∧ Below w.heap.size w w' := by
 delta VQ
 obtain ⟨x, hx⟩ : ∃ x, rk D0 s0 M0 E0 = x := ⟨_, rfl⟩
 cases hf : fixB x
 · exact piHolds_a D0 s0 M0 E0 w hT u0 w0 x hx hf _ rfl
 · cases hq : exb D0 s0 M0 E0
   · exact piHolds_b D0 s0 M0 E0 w hT u0 w0 x hx hf hq
   · by_cases he : E0 < -1500
     · exact piHolds_c D0 s0 M0 E0 w hT u0 w0 x hx hf hq he
     · have hm : MayQ D0 s0 M0 E0 := by
         have h := hq
         unfold exb at h
         rw [Bool.and_eq_true] at h; exact of_decide_eq_true h.1
       have q := rk_fq u0 hm; rw [hx] at q; have fx := fixB_fin hf; have v := (exq_vl q fx.1 fx.2).2
       have nf : mk (exq D0 s0 M0 E0).1 (exq D0 s0 M0 E0).2 = exq D0 s0 M0 E0 := by
         have e : Nf (exq D0 s0 M0 E0) := by
           unfold exq
           rw [if_pos hq]; exact mk_nf _ _
         exact e
       exact piHolds_main D0 s0 M0 E0 w hT u0 w0 x _ hx hf rfl (fix_fits hf) hq he _ _ rfl rfl (by rw [nf]; exact v)
end Go.Proofs.YtmmallhniijdfaaDoor

/-
  The walk of PiParts: for all arguments the call answers true, and nothing that was there has turned.
-/
import Derived.Test.YtmmallhniijdfaaDoorYAbc
namespace Go.Proofs.YtmmallhniijdfaaDoor
set_option maxHeartbeats 8000000
open Go.RowKit
set_option linter.unusedVariables false
set_option linter.unusedSimpArgs false
set_option maxRecDepth 100000
theorem piParts_no (D0 : Int) (s0 : Bool) (M0 E0 : Int) (w : World) (hT : Tab w) (u0 : LQ M0) (m0 : 0 ≤ M0) (x : Int) (hx : rk D0 s0 M0 E0 = x) (hf : fixB x = false) :
   Calls Tryd.prog 6 #[VQ D0 s0 M0 E0] w (PB w true) := by
 delta VQ
 have HX := Lib.hid hx; have HF := Lib.hid hf; clear hx hf
 go_enter Tryd.func6, Tryd.ntmps6
 go_upto_region 1 with (fail)
 generalize hW1 : w.alloc _ = w1 at *; obtain ⟨X0, HB⟩ := Bo.en1 hW1; replace hT := hT.below HB.out; clear hW1
 go_wp2_with fail
 refine (awake11 hT).mono ?_; rintro ee w2 ⟨rfl, B⟩; replace X0 := X0.below B; replace hT := hT.below B; replace HB := Hqb HB B; clear B; have xX0 := X0.cell
 go_wp2_with fail
 refine (cFix hT m0 u0 HX.out rfl HF.out).mono ?_; rintro ee w3 ⟨s11, A11, n11, c11, rfl, p11, k11, B⟩; clear xX0; replace X0 := X0.below B; replace hT := hT.below B; replace HB := Hqb HB B; clear B; have hsz11 := HB.out.size
 go_upto_region 3 with (fail)
 have lX4 := Nat.le_refl (World.heap w3).size; have nX4X0 := X0.lt; generalize hWn : w3.alloc _ = w4 at *; obtain ⟨X4, BW⟩ := Bo.nw hWn; clear hWn; replace X0 := X0.below BW; replace hT := hT.below BW; replace p11 := p11.below BW; replace HB := Hqb HB BW; clear BW; clear lX4; clear hT p11; go_wp2
 go_ret
 exact ⟨rfl, HB.out⟩
theorem piParts_yes (D0 : Int) (s0 : Bool) (M0 E0 : Int) (w : World) (hT : Tab w) (u0 : LQ M0) (m0 : 0 ≤ M0) (x g r t : Int) (hx : rk D0 s0 M0 E0 = x) (hf : fixB x = true) (hg : fixI x = g) (fits : g.natAbs < 4294967296 ^ 10) (hr : Rq false g SC r) (ht : Rq true (g + 1) SC t) (hh : hasI (mkI r t) x = true) :
   Calls Tryd.prog 6 #[VQ D0 s0 M0 E0] w (PB w true) := by
 delta VQ
 have HX := Lib.hid hx; have HF := Lib.hid hf; have HG := Lib.hid hg; have HR := Lib.hid hr; have HT0 := Lib.hid ht; have HH := Lib.hid hh; have HFT := Lib.hid fits; clear hx hf hg hr ht hh fits
 go_enter Tryd.func6, Tryd.ntmps6
 go_upto_region 1 with (fail)
 generalize hW1 : w.alloc _ = w1 at *; obtain ⟨X0, HB⟩ := Bo.en1 hW1; replace hT := hT.below HB.out; clear hW1
 go_wp2_with fail
 refine (awake11 hT).mono ?_; rintro ee w2 ⟨rfl, B⟩; replace X0 := X0.below B; replace hT := hT.below B; replace HB := Hqb HB B; clear B; have xX0 := X0.cell
 go_wp2_with fail
 refine (cFix hT m0 u0 HX.out HG.out HF.out).mono ?_; rintro ee w3 ⟨s11, A11, n11, c11, rfl, p11, k11, B⟩; clear xX0; replace X0 := X0.below B; replace hT := hT.below B; replace HB := Hqb HB B; clear B; have hsz11 := HB.out.size
 go_upto_region 3 with (fail)
 have lX4 := Nat.le_refl (World.heap w3).size; have nX4X0 := X0.lt; generalize hWn : w3.alloc _ = w4 at *; obtain ⟨X4, BW⟩ := Bo.nw hWn; clear hWn; replace X0 := X0.below BW; replace hT := hT.below BW; replace p11 := p11.below BW; replace HB := Hqb HB BW; clear BW; clear lX4; have few := p11.fits HFT.out
 go_upto_region 5 with (fail)
 refine Jo.rk [0, 1, 2, 3, 4, 5, 6, 7, 8, 9, 10] [some 15, some 16, some 17, some 18, some 19, some 20, some 21, some 22, some 23, some 24, some 2] [[], [0], [1], [1], [1], [1, 3, 4], [1, 2, 5], [1], [1, 6, 7], [1, 8], [9]] 11 0 [Jo.qb true, Jo.qb true, Jo.Fact.eq (.agg #[.bool s11, .slice A11 n11 c11]), Jo.Fact.eq (.agg #[.bool s11, .slice A11 n11 c11]), Jo.Fact.wn (1) (2), Jo.Fact.wn (g + 1) (20), Jo.Fact.iv (mkI r t), Jo.q4 D0 s0 M0 E0, Jo.qb true, Jo.qb true, Jo.qb true] (by kernel_rfl) (by kernel_rfl) (by decide) rfl ?_ ?_
 · iterate 4 (refine Jo.jm rfl ?_ ?_; rotate_left)
   refine Jo.jm rfl ?_ ?_
   · rintro wj hJ _ rfl K hK; simp only [Jo.z] at hK ⊢; go_simp; refine (wFrom 1 _ (by decide) (by decide)).mono ?_; rintro ee wk ⟨s20, A20, n20, c20, rfl, p20, k20, B⟩; exact hK.out _ _ ⟨s20, A20, n20, c20, rfl, p20, k20⟩ B
   refine Jo.jm rfl ?_ ?_
   · rintro wj hJ _ rfl _ rfl _ ⟨s20, A20, n20, c20, rfl, p20, k20⟩ K hK; simp only [Jo.z] at hK ⊢; go_simp; refine (wAdd (p11.below hJ).wr p20.wr (by omega) (by omega) rfl).mono ?_; rintro ee wk ⟨s21, A21, n21, c21, rfl, p21, k21, B⟩; exact hK.out _ _ ⟨s21, A21, n21, c21, rfl, p21, by omega⟩ B
   refine Jo.jm rfl ?_ ?_
   · rintro wj hJ _ rfl _ rfl _ ⟨s21, A21, n21, c21, rfl, p21, k21⟩ K hK; simp only [Jo.z] at hK ⊢; go_simp; refine (cPart (hT.below hJ) (p11.below hJ).wr p21.wr (by omega) (by omega) HR.out HT0.out rfl).mono ?_; rintro ee wk ⟨e22, K22, s22, M22, E22, K22b, s22b, M22b, E22b, rfl, v22, B⟩; exact hK.out _ _ ⟨e22, K22, s22, M22, E22, K22b, s22b, M22b, E22b, rfl, v22⟩ B
   refine Jo.jm rfl ?_ ?_; rotate_left
   refine Jo.jm rfl ?_ ?_
   · rintro wj hJ _ rfl _ ⟨e22, K22, s22, M22, E22, K22b, s22b, M22b, E22b, rfl, v22⟩ _ rfl K hK; simp only [Jo.z] at hK ⊢; go_simp; refine (kvHas v22.top.1 v22.top.2 u0 v22.rk HX.out HH.out).mono ?_; rintro ee wk ⟨rfl, B⟩; exact hK.out _ _ rfl B
   iterate 2 (refine Jo.jm rfl ?_ ?_; rotate_left)
   exact Jo.Steps.nil
   all_goals (rintro wj hJ; (repeat rintro _ rfl); intro K hK; simp only [Jo.z] at hK ⊢; have xX4 := (X4.below hJ).cell; have xX0 := (X0.below hJ).cell; go_simp; exact hK.out _ _ rfl (br _ _))
 rintro w5 hJ _ rfl _ rfl _ rfl _ rfl _ ⟨s20, A20, n20, c20, rfl, p20, k20⟩ _ ⟨s21, A21, n21, c21, rfl, p21, k21⟩ _ ⟨e22, K22, s22, M22, E22, K22b, s22b, M22b, E22b, rfl, v22⟩ _ rfl _ rfl _ rfl _ rfl -; simp only [Jo.z]; replace X0 := X0.below hJ; replace X4 := X4.below hJ; replace hT := hT.below hJ; replace p11 := p11.below hJ; replace HB := Hqb HB hJ; refine Jo.jdone (by kernel_rfl) ?_
 go_wp2
 go_ret
 exact ⟨rfl, HB.out⟩
theorem piParts_walk (D0 : Int) (s0 : Bool) (M0 E0 : Int) (w : World) (hT : Tab w) (w0 : 0 ≤ M0) (u0 : LQ M0) :
   Calls Tryd.prog 6 #[VQ D0 s0 M0 E0] w fun e w' => e = .returned (.bool true) ∧ Below w.heap.size w w' := by
 delta VQ
 obtain ⟨x, hx⟩ : ∃ x, rk D0 s0 M0 E0 = x := ⟨_, rfl⟩
 cases hf : fixB x
 · exact piParts_no D0 s0 M0 E0 w hT u0 w0 x hx hf
 · obtain ⟨r, hr⟩ := rq_ex false (fixI x) SC; obtain ⟨t, ht⟩ := rq_ex true (fixI x + 1) SC; exact piParts_yes D0 s0 M0 E0 w hT u0 w0 x _ r t hx hf rfl (fix_fits hf) hr ht (fix_part hf hr ht)
end Go.Proofs.YtmmallhniijdfaaDoor

/-
  The walk of PiFixes: for all arguments the call answers true, and nothing that was there has turned.
-/
import Derived.Test.YtmmallhniijdfaaGreatDoorYAbl
namespace Go.Proofs.YtmmallhniijdfaaGreatDoor
set_option maxHeartbeats 8000000
open Go.RowKit
set_option linter.unusedVariables false
set_option linter.unusedSimpArgs false
set_option maxRecDepth 100000
theorem piFixes_far1 (D0 : Int) (s0 : Bool) (M0 E0 : Int) (s1 : Bool) (a1 : Option Addr) (len1 cap1 : Nat) (s2 : Bool) (a2 : Option Addr) (len2 cap2 : Nat) (w : World) (hT : Tab w) (hf : 20 < len1) :
   Calls Tryz.prog 4 #[VQ D0 s0 M0 E0, .agg #[.bool s1, .slice a1 len1 cap1], .agg #[.bool s2, .slice a2 len2 cap2]] w (PB w true) := by
 delta VQ
 go_enter Tryz.func4, Tryz.ntmps4
 go_upto_region 1 with (fail)
 generalize hW1 : ((w.alloc _).alloc _).alloc _ = w1 at *; obtain ⟨X0, X1, X2, HB⟩ := Bo.en3 hW1; replace hT := hT.below HB.out; clear hW1
 go_wp2_with fail
 refine (awake11 hT).mono ?_; rintro ee w2 ⟨rfl, B⟩; replace X0 := X0.below B; replace X1 := X1.below B; replace X2 := X2.below B; replace hT := hT.below B; replace HB := Hqb HB B; clear B; clear hT; have xX1 := X1.cell; have xX2 := X2.cell; go_wp2
 go_ret
 exact ⟨rfl, HB.out⟩
theorem piFixes_far2 (D0 : Int) (s0 : Bool) (M0 E0 : Int) (s1 : Bool) (a1 : Option Addr) (len1 cap1 : Nat) (s2 : Bool) (a2 : Option Addr) (len2 cap2 : Nat) (w : World) (hT : Tab w) (hg : len1 ≤ 20) (hf : 20 < len2) :
   Calls Tryz.prog 4 #[VQ D0 s0 M0 E0, .agg #[.bool s1, .slice a1 len1 cap1], .agg #[.bool s2, .slice a2 len2 cap2]] w (PB w true) := by
 delta VQ
 have t1 : ¬ (20 : Int) < len1 := by omega
 go_enter Tryz.func4, Tryz.ntmps4
 go_upto_region 1 with (fail)
 generalize hW1 : ((w.alloc _).alloc _).alloc _ = w1 at *; obtain ⟨X0, X1, X2, HB⟩ := Bo.en3 hW1; replace hT := hT.below HB.out; clear hW1
 go_wp2_with fail
 refine (awake11 hT).mono ?_; rintro ee w2 ⟨rfl, B⟩; replace X0 := X0.below B; replace X1 := X1.below B; replace X2 := X2.below B; replace hT := hT.below B; replace HB := Hqb HB B; clear B; clear hT; have xX1 := X1.cell; have xX2 := X2.cell; go_wp2
 go_ret
 exact ⟨rfl, HB.out⟩
theorem piFixes_main (D0 : Int) (s0 : Bool) (M0 E0 : Int) (s1 : Bool) (a1 : Option Addr) (len1 cap1 : Nat) (s2 : Bool) (a2 : Option Addr) (len2 cap2 : Nat) (w : World) (hT : Tab w) (x g y1 y2 r u : Int) (z : Sp) (t : Bool) (m0 : 0 ≤ M0) (u0 : LQ M0) (hx : rk D0 s0 M0 E0 = x) (hf : fixB x = t) (hg : fixI x = g) (h1 : Wr w s1 a1 len1 cap1 y1) (h2 : Wr w s2 a2 len2 cap2 y2) (l1 : len1 ≤ 20) (l2 : len2 ≤ 20) (hr : Rq false y1 SC r) (hu : Rq true y2 SC u) (hz : mkI r u = z) :
   Calls Tryz.prog 4 #[VQ D0 s0 M0 E0, .agg #[.bool s1, .slice a1 len1 cap1], .agg #[.bool s2, .slice a2 len2 cap2]] w (PB w true) := by
 delta VQ
 have HX := Lib.hid hx; have HF := Lib.hid hf; have HG := Lib.hid hg; have HR := Lib.hid hr; have HU := Lib.hid hu; have HZ := Lib.hid hz
 have t1 : ¬ (20 : Int) < len1 := by omega
 have t2 : ¬ (20 : Int) < len2 := by omega
 clear hx hf hg hr hu hz
 go_enter Tryz.func4, Tryz.ntmps4
 go_upto_region 1 with (fail)
 generalize hW1 : ((w.alloc _).alloc _).alloc _ = w1 at *; obtain ⟨X0, X1, X2, HB⟩ := Bo.en3 hW1; replace hT := hT.below HB.out; replace h1 := h1.below HB.out; replace h2 := h2.below HB.out; clear hW1
 go_wp2_with fail
 refine (awake11 hT).mono ?_; rintro ee w2 ⟨rfl, B⟩; replace X0 := X0.below B; replace X1 := X1.below B; replace X2 := X2.below B; replace hT := hT.below B; replace h1 := h1.below B; replace h2 := h2.below B; replace HB := Hqb HB B; clear B; have xX0 := X0.cell; have xX1 := X1.cell; have xX2 := X2.cell
 go_wp2_with fail
 refine (cFix hT m0 u0 HX.out HG.out HF.out).mono ?_; rintro ee w3 ⟨s11, A11, n11, c11, rfl, p11, k11, B⟩; clear xX0 xX1 xX2; replace X0 := X0.below B; replace X1 := X1.below B; replace X2 := X2.below B; replace hT := hT.below B; replace h1 := h1.below B; replace h2 := h2.below B; replace HB := Hqb HB B; clear B; clear t1 t2; have hsz1 := HB.out.size
 go_upto_region 5 with (fail)
 have lX8 := Nat.le_refl (World.heap w3).size; have nX8X0 := X0.lt; have nX8X1 := X1.lt; have nX8X2 := X2.lt; generalize hWn : w3.alloc _ = w4 at *; obtain ⟨X8, BW⟩ := Bo.nw hWn; clear hWn; replace X0 := X0.below BW; replace X1 := X1.below BW; replace X2 := X2.below BW; replace hT := hT.below BW; replace h1 := h1.below BW; replace h2 := h2.below BW; replace p11 := p11.below BW; replace HB := Hqb HB BW
 clear BW; clear lX8; have xX0 := X0.cell
 go_wp2_with fail
 refine (jFix u0 HX.out HG.out HF.out).mono ?_; rintro ee w5 ⟨s12, A12, n12, c12, rfl, p12, k12, B⟩; clear xX0; replace X0 := X0.below B; replace X1 := X1.below B; replace X2 := X2.below B; replace X8 := X8.below B; replace hT := hT.below B; replace h1 := h1.below B; replace h2 := h2.below B; replace p11 := p11.below B; replace HB := Hqb HB B; clear B; have hsz2 := HB.out.size
 go_upto_region 6 with (fail)
 have lX10 := Nat.le_refl (World.heap w5).size; have nX10X0 := X0.lt; have nX10X1 := X1.lt; have nX10X2 := X2.lt; have nX10X8 := X8.lt; generalize hWn : w5.alloc _ = w6 at *; obtain ⟨X10, BW⟩ := Bo.nw hWn; clear hWn; replace X0 := X0.below BW; replace X1 := X1.below BW; replace X2 := X2.below BW; replace X8 := X8.below BW; replace hT := hT.below BW; replace h1 := h1.below BW; replace h2 := h2.below BW
 replace p11 := p11.below BW; replace p12 := p12.below BW; replace HB := Hqb HB BW; clear BW; clear lX10; have xX8 := X8.cell; have xX10 := X10.cell
 go_wp2_with fail
 refine (qAlike p11 p12).mono ?_; rintro ee w7 ⟨rfl, B⟩; clear xX8 xX10; replace X0 := X0.below B; replace X1 := X1.below B; replace X2 := X2.below B; replace X8 := X8.below B; replace X10 := X10.below B; replace hT := hT.below B; replace h1 := h1.below B; replace h2 := h2.below B; replace p11 := p11.below B; replace p12 := p12.below B; replace HB := Hqb HB B; clear B; clear p11 p12
 go_upto_region 7 with (fail)
 refine Jo.rk [0, 1, 2, 3, 4, 5, 6, 7, 8, 9, 10, 11, 12, 13, 14, 15] [some 42, some 43, some 44, some 45, some 46, some 47, some 48, some 49, some 50, some 51, some 52, some 53, some 54, some 55, some 56, some 6] [[], [0], [1], [1], [1, 2, 3], [1, 4], [5], [6], [6], [6, 7, 8], [6], [6], [6, 10, 11], [6, 9, 12], [6, 13], [14]] 16 0 [Jo.qb true, Jo.qb true, Jo.qb t, Jo.qb t, Jo.qb true, Jo.qb true, Jo.qb true, Jo.Fact.eq (.agg #[.bool s1, .slice a1 len1 cap1]), Jo.Fact.eq (.agg #[.bool s2, .slice a2 len2 cap2]), Jo.Fact.iv z, Jo.Fact.eq (.agg #[.bool s1, .slice a1 len1 cap1]), Jo.Fact.eq (.agg #[.bool s2, .slice a2 len2 cap2]), Jo.Fact.iv z, Jo.qb true, Jo.qb true, Jo.qb true] (by kernel_rfl) (by kernel_rfl) (by decide) rfl ?_ ?_
 · iterate 4 (refine Jo.jm rfl ?_ ?_; rotate_left)
   refine Jo.jm rfl ?_ ?_
   · rintro wj hJ _ rfl _ rfl _ rfl K hK; simp only [Jo.z] at hK ⊢; go_simp
     exact hK.out _ _ (by first | rfl | simp) (br _ _)
   iterate 4 (refine Jo.jm rfl ?_ ?_; rotate_left)
   refine Jo.jm rfl ?_ ?_
   · rintro wj hJ _ rfl _ rfl _ rfl K hK; simp only [Jo.z] at hK ⊢; go_simp; refine (cPart (hT.below hJ) (h1.below hJ) (h2.below hJ) l1 l2 HR.out HU.out HZ.out).mono ?_; rintro ee wk ⟨e20, K20, s20, M20, E20, K20b, s20b, M20b, E20b, rfl, v20, B⟩; exact hK.out _ _ ⟨e20, K20, s20, M20, E20, K20b, s20b, M20b, E20b, rfl, v20⟩ B
   iterate 2 (refine Jo.jm rfl ?_ ?_; rotate_left)
   refine Jo.jm rfl ?_ ?_
   · rintro wj hJ _ rfl _ rfl _ rfl K hK; simp only [Jo.z] at hK ⊢; go_simp; refine (jPart (h1.below hJ) (h2.below hJ) (by omega) (by omega) HR.out HU.out HZ.out).mono ?_; rintro ee wk ⟨e21, K21, s21, M21, E21, K21b, s21b, M21b, E21b, rfl, v21, B⟩; exact hK.out _ _ ⟨e21, K21, s21, M21, E21, K21b, s21b, M21b, E21b, rfl, v21⟩ B
   refine Jo.jm rfl ?_ ?_
   · rintro wj hJ _ rfl _ ⟨e20, K20, s20, M20, E20, K20b, s20b, M20b, E20b, rfl, v20⟩ _ ⟨e21, K21, s21, M21, E21, K21b, s21b, M21b, E21b, rfl, v21⟩ K hK; simp only [Jo.z] at hK ⊢; obtain ⟨rfl, rfl, rfl, rfl, rfl, rfl, rfl, rfl, rfl⟩ := v20.uniq v21; go_simp
     exact hK.out _ _ (by first | rfl | (show Value.bool _ = Value.bool _; simp)) (br _ _)
   iterate 2 (refine Jo.jm rfl ?_ ?_; rotate_left)
   exact Jo.Steps.nil
   all_goals (rintro wj hJ; (repeat rintro _ rfl); intro K hK; simp only [Jo.z] at hK ⊢; have xX1 := (X1.below hJ).cell; have xX2 := (X2.below hJ).cell; go_simp; exact hK.out _ _ rfl (br _ _))
 rintro w8 hJ _ rfl _ rfl _ rfl _ rfl _ rfl _ rfl _ rfl _ rfl _ rfl _ ⟨e20, K20, s20, M20, E20, K20b, s20b, M20b, E20b, rfl, v20⟩ _ rfl _ rfl _ ⟨e21, K21, s21, M21, E21, K21b, s21b, M21b, E21b, rfl, v21⟩ _ rfl _ rfl _ rfl -; simp only [Jo.z]; replace X0 := X0.below hJ; replace X1 := X1.below hJ; replace X2 := X2.below hJ; replace X8 := X8.below hJ; replace X10 := X10.below hJ; replace hT := hT.below hJ
 replace h1 := h1.below hJ; replace h2 := h2.below hJ; replace HB := Hqb HB hJ; refine Jo.jdone (by kernel_rfl) ?_; go_wp2
 go_ret
 exact ⟨rfl, HB.out⟩
theorem piFixes_walk (D0 : Int) (s0 : Bool) (M0 E0 : Int) (s1 : Bool) (a1 : Option Addr) (len1 cap1 : Nat) (y1 : List Int) (s2 : Bool) (a2 : Option Addr) (len2 cap2 : Nat) (y2 : List Int) (w : World) (hT : Tab w) (w0 : 0 ≤ M0) (u0 : LQ M0) (w1 : RowIn w a1 len1 cap1 y1) (w2 : RowIn w a2 len2 cap2 y2) :
   Calls Tryz.prog 4 #[VQ D0 s0 M0 E0, .agg #[.bool s1, .slice a1 len1 cap1], .agg #[.bool s2, .slice a2 len2 cap2]] w fun e w' => e = .returned (.bool true) ∧ Below w.heap.size w w' := by
 delta VQ
 by_cases l1 : len1 ≤ 20
 · by_cases l2 : len2 ≤ 20
   · obtain ⟨y1', r1⟩ := w1.rd (by omega); obtain ⟨y2', r2⟩ := w2.rd (by omega); obtain ⟨r, hr⟩ := rq_ex false (sg s1 y1') SC; obtain ⟨u, hu⟩ := rq_ex true (sg s2 y2') SC; exact piFixes_main D0 s0 M0 E0 s1 a1 len1 cap1 s2 a2 len2 cap2 w hT _ _ _ _ r u _ _ w0 u0 rfl rfl rfl (r1.wr s1) (r2.wr s2) l1 l2 hr hu rfl
   · exact piFixes_far2 D0 s0 M0 E0 s1 a1 len1 cap1 s2 a2 len2 cap2 w hT l1 (by omega)
 · exact piFixes_far1 D0 s0 M0 E0 s1 a1 len1 cap1 s2 a2 len2 cap2 w hT (by omega)
end Go.Proofs.YtmmallhniijdfaaGreatDoor

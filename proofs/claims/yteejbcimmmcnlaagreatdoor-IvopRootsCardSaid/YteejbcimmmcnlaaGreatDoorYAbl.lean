/-
  Contracts and words that the statement's proof rests on, several texts in one: Fs, Ig, Fc.
-/
import Derived.Test.YteejbcimmmcnlaaGreatDoorYAao
import Derived.Test.YteejbcimmmcnlaaGreatDoorYAbh
import Derived.Test.YteejbcimmmcnlaaGreatDoorYAbi
import Derived.Test.YteejbcimmmcnlaaGreatDoorYAbj
import Derived.Test.YteejbcimmmcnlaaGreatDoorYAbk
/-
  What an operation makes of the ends of two intervals; what ivop.Mul does.
-/
namespace Go.Proofs.YteejbcimmmcnlaaGreatDoor
open Go.RowKit
set_option linter.unusedVariables false
set_option linter.unusedSimpArgs false
set_option maxRecDepth 100000

def TabIf (b : Bool) (w : World) : Prop := b = true → Tab w
theorem TabIf.below {b : Bool} {w w' : World} (h : TabIf b w) (hb : Below w.heap.size w w') : TabIf b w' := fun e => (h e).below hb
/-- What is asked of an operation that is handed on: it makes F0 of two places. -/
def OpQ (fid : FuncId) (F0 : Bool → Int → Int → Int) (b : Bool) : Prop := (∀ (args : Array Value) (w : World), (callFunc fid args).run Tryz.prog w = .ok (.enter fid args) w) ∧ ∀ (w : World) (D : Int) (s : Bool) (M E D' : Int) (s' : Bool) (M' E' : Int) (up : Bool) (x y r : Int), TabIf b w → M < 18446744073709551616 → M' < 18446744073709551616 → rk D s M E = x → rk D' s' M' E' = y → F0 up x y = r → Calls Tryz.prog fid #[.agg #[.int .i64 D, .bool s, .int .u64 M, .int .i64 E], .agg #[.int .i64 D', .bool s', .int .u64 M', .int .i64 E'], .bool up] w (PN w r)
set_option maxHeartbeats 8000000 in
theorem fkFour {w : World} {fid : FuncId} {F0 : Bool → Int → Int → Int} {b up : Bool} {g1 g2 g3 : Nat} {K1 M1 E1 K1b M1b E1b K2 M2 E2 K2b M2b E2b : Int} {s1 s1b s2 s2b : Bool} {xa xb ya yb : Int} (hop : OpQ fid F0 b) (hI : TabIf b w) (X1 : Bo w g1 #[.func (.func fid) #[] #[]] 82) (X2 : Bo w g2 #[.bool false, .int .i64 K1, .bool s1, .int .u64 M1, .int .i64 E1, .int .i64 K1b, .bool s1b, .int .u64 M1b, .int .i64 E1b] 26) (X3 : Bo w g3 #[.bool false, .int .i64 K2, .bool s2, .int .u64 M2, .int .i64 E2, .int .i64 K2b, .bool s2b, .int .u64 M2b, .int .i64 E2b] 26)
    (a1 : Fq K1 s1 M1 E1 xa) (b1 : Fq K1b s1b M1b E1b xb) (a2 : Fq K2 s2 M2 E2 ya) (b2 : Fq K2b s2b M2b E2b yb) : Calls Tryz.prog 95 #[.bool up, .pointer (some ⟨g1, 0, none⟩), .pointer (some ⟨g2, 0, none⟩), .pointer (some ⟨g3, 0, none⟩)] w (fun e w' => ∃ A c, e = .returned (.slice A 4 c) ∧ Nl w' A 4 c (four F0 up xa xb ya yb) ∧ Below w.heap.size w w') := by
  obtain ⟨u1, h1⟩ : ∃ u, F0 up xa ya = u := ⟨_, rfl⟩; obtain ⟨u2, h2⟩ : ∃ u, F0 up xa yb = u := ⟨_, rfl⟩; obtain ⟨u3, h3⟩ : ∃ u, F0 up xb ya = u := ⟨_, rfl⟩; obtain ⟨u4, h4⟩ : ∃ u, F0 up xb yb = u := ⟨_, rfl⟩
  have HF : Hid (four F0 up xa xb ya yb = [u1, u2, u3, u4]) := Lib.hid (by unfold four; rw [h1, h2, h3, h4])
  have H1 := Lib.hid h1; have H2 := Lib.hid h2; have H3 := Lib.hid h3; have H4 := Lib.hid h4; have HOP := Lib.hid hop; have HB := Lib.hid (Below.refl w.heap.size w); clear h1 h2 h3 h4 hop
  go_enter Tryz.func95, Tryz.ntmps95
  go_upto_region 1 with (fail)
  refine Jo.rk [0, 1, 2, 3, 4, 5, 6, 7, 8, 9, 10, 11, 12, 13, 14, 15, 16, 17, 18, 19, 20, 21, 22, 23, 24, 25, 26, 27, 28] [some 6, some 7, some 8, some 9, some 10, some 11, some 12, some 13, some 14, some 15, some 16, some 17, some 18, some 19, some 20, some 21, some 22, some 23, some 24, some 25, some 26, some 27, some 28, some 29, some 30, some 31, some 32, some 33, some 34, some 5] [[], [], [1], [], [3], [], [0, 2, 4, 5], [], [], [8], [], [10], [], [7, 9, 11, 12], [], [], [15], [], [17], [], [14, 16, 18, 19], [], [], [22], [], [24], [], [21, 23, 25, 26], [6, 13, 20, 27], []] 30 1 [Jo.Fact.eq (.func (.func fid) #[] #[]), Jo.qp g2 1, Jo.q4 K1 s1 M1 E1, Jo.qp g3 1, Jo.q4 K2 s2 M2 E2, Jo.qb up, Jo.Fact.num u1, Jo.Fact.eq (.func (.func fid) #[] #[]), Jo.qp g2 1, Jo.q4 K1 s1 M1 E1, Jo.qp g3 5, Jo.q4 K2b s2b M2b E2b, Jo.qb up, Jo.Fact.num u2, Jo.Fact.eq (.func (.func fid) #[] #[]), Jo.qp g2 5, Jo.q4 K1b s1b M1b E1b, Jo.qp g3 1, Jo.q4 K2 s2 M2 E2, Jo.qb up, Jo.Fact.num u3, Jo.Fact.eq (.func (.func fid) #[] #[]), Jo.qp g2 5, Jo.q4 K1b s1b M1b E1b, Jo.qp g3 5, Jo.q4 K2b s2b M2b E2b, Jo.qb up, Jo.Fact.num u4, Jo.Fact.nl 4 [u1, u2, u3, u4], Jo.Fact.any] (by kernel_rfl) (by kernel_rfl) (by decide) rfl ?_ ?_
  · refine Jo.jm rfl ?_ ?_
    · rintro wj hJ K hK; simp only [Jo.z] at hK ⊢; have xX10 := (X1.below hJ).a 0 (.func (.func fid) #[] #[]) rfl; go_simp; exact hK.out _ _ rfl (br _ _)
    refine Jo.jm rfl ?_ ?_
    · rintro wj hJ K hK; simp only [Jo.z] at hK ⊢; go_simp; exact hK.out _ _ rfl (br _ _)
    refine Jo.jm rfl ?_ ?_
    · rintro wj hJ _ rfl K hK; simp only [Jo.z] at hK ⊢; obtain ⟨xX21, xX22, xX23, xX24⟩ := (X2.below hJ).w9; go_simp; exact hK.out _ _ rfl (br _ _)
    refine Jo.jm rfl ?_ ?_
    · rintro wj hJ K hK; simp only [Jo.z] at hK ⊢; go_simp; exact hK.out _ _ rfl (br _ _)
    refine Jo.jm rfl ?_ ?_
    · rintro wj hJ _ rfl K hK; simp only [Jo.z] at hK ⊢; obtain ⟨xX31, xX32, xX33, xX34⟩ := (X3.below hJ).w9; go_simp; exact hK.out _ _ rfl (br _ _)
    refine Jo.jm rfl ?_ ?_
    · rintro wj hJ K hK; simp only [Jo.z] at hK ⊢; go_simp; exact hK.out _ _ rfl (br _ _)
    refine Jo.jm rfl ?_ ?_
    · rintro wj hJ _ rfl _ rfl _ rfl _ rfl K hK; simp only [Jo.z] at hK ⊢; go_simp; rw [HOP.out.1]; simp only [Oper.upon]; refine (HOP.out.2 _ _ _ _ _ _ _ _ _ _ _ _ _ (hI.below hJ) a1.top a2.top a1.rk a2.rk H1.out).mono ?_; rintro ee wk ⟨K21, s21, M21, E21, rfl, q21, B⟩; exact hK.out _ _ ⟨K21, s21, M21, E21, rfl, q21⟩ B
    refine Jo.jm rfl ?_ ?_
    · rintro wj hJ K hK; simp only [Jo.z] at hK ⊢; have xX10 := (X1.below hJ).a 0 (.func (.func fid) #[] #[]) rfl; go_simp; exact hK.out _ _ rfl (br _ _)
    refine Jo.jm rfl ?_ ?_
    · rintro wj hJ K hK; simp only [Jo.z] at hK ⊢; go_simp; exact hK.out _ _ rfl (br _ _)
    refine Jo.jm rfl ?_ ?_
    · rintro wj hJ _ rfl K hK; simp only [Jo.z] at hK ⊢; obtain ⟨xX21, xX22, xX23, xX24⟩ := (X2.below hJ).w9; go_simp; exact hK.out _ _ rfl (br _ _)
    refine Jo.jm rfl ?_ ?_
    · rintro wj hJ K hK; simp only [Jo.z] at hK ⊢; go_simp; exact hK.out _ _ rfl (br _ _)
    refine Jo.jm rfl ?_ ?_
    · rintro wj hJ _ rfl K hK; simp only [Jo.z] at hK ⊢; obtain ⟨xX35, xX36, xX37, xX38⟩ := (X3.below hJ).v9; go_simp; exact hK.out _ _ rfl (br _ _)
    refine Jo.jm rfl ?_ ?_
    · rintro wj hJ K hK; simp only [Jo.z] at hK ⊢; go_simp; exact hK.out _ _ rfl (br _ _)
    refine Jo.jm rfl ?_ ?_
    · rintro wj hJ _ rfl _ rfl _ rfl _ rfl K hK; simp only [Jo.z] at hK ⊢; go_simp; rw [HOP.out.1]; simp only [Oper.upon]; refine (HOP.out.2 _ _ _ _ _ _ _ _ _ _ _ _ _ (hI.below hJ) a1.top b2.top a1.rk b2.rk H2.out).mono ?_; rintro ee wk ⟨K22, s22, M22, E22, rfl, q22, B⟩; exact hK.out _ _ ⟨K22, s22, M22, E22, rfl, q22⟩ B
    refine Jo.jm rfl ?_ ?_
    · rintro wj hJ K hK; simp only [Jo.z] at hK ⊢; have xX10 := (X1.below hJ).a 0 (.func (.func fid) #[] #[]) rfl; go_simp; exact hK.out _ _ rfl (br _ _)
    refine Jo.jm rfl ?_ ?_
    · rintro wj hJ K hK; simp only [Jo.z] at hK ⊢; go_simp; exact hK.out _ _ rfl (br _ _)
    refine Jo.jm rfl ?_ ?_
    · rintro wj hJ _ rfl K hK; simp only [Jo.z] at hK ⊢; obtain ⟨xX25, xX26, xX27, xX28⟩ := (X2.below hJ).v9; go_simp; exact hK.out _ _ rfl (br _ _)
    refine Jo.jm rfl ?_ ?_
    · rintro wj hJ K hK; simp only [Jo.z] at hK ⊢; go_simp; exact hK.out _ _ rfl (br _ _)
    refine Jo.jm rfl ?_ ?_
    · rintro wj hJ _ rfl K hK; simp only [Jo.z] at hK ⊢; obtain ⟨xX31, xX32, xX33, xX34⟩ := (X3.below hJ).w9; go_simp; exact hK.out _ _ rfl (br _ _)
    refine Jo.jm rfl ?_ ?_
    · rintro wj hJ K hK; simp only [Jo.z] at hK ⊢; go_simp; exact hK.out _ _ rfl (br _ _)
    refine Jo.jm rfl ?_ ?_
    · rintro wj hJ _ rfl _ rfl _ rfl _ rfl K hK; simp only [Jo.z] at hK ⊢; go_simp; rw [HOP.out.1]; simp only [Oper.upon]; refine (HOP.out.2 _ _ _ _ _ _ _ _ _ _ _ _ _ (hI.below hJ) b1.top a2.top b1.rk a2.rk H3.out).mono ?_; rintro ee wk ⟨K23, s23, M23, E23, rfl, q23, B⟩; exact hK.out _ _ ⟨K23, s23, M23, E23, rfl, q23⟩ B
    refine Jo.jm rfl ?_ ?_
    · rintro wj hJ K hK; simp only [Jo.z] at hK ⊢; have xX10 := (X1.below hJ).a 0 (.func (.func fid) #[] #[]) rfl; go_simp; exact hK.out _ _ rfl (br _ _)
    refine Jo.jm rfl ?_ ?_
    · rintro wj hJ K hK; simp only [Jo.z] at hK ⊢; go_simp; exact hK.out _ _ rfl (br _ _)
    refine Jo.jm rfl ?_ ?_
    · rintro wj hJ _ rfl K hK; simp only [Jo.z] at hK ⊢; obtain ⟨xX25, xX26, xX27, xX28⟩ := (X2.below hJ).v9; go_simp; exact hK.out _ _ rfl (br _ _)
    refine Jo.jm rfl ?_ ?_
    · rintro wj hJ K hK; simp only [Jo.z] at hK ⊢; go_simp; exact hK.out _ _ rfl (br _ _)
    refine Jo.jm rfl ?_ ?_
    · rintro wj hJ _ rfl K hK; simp only [Jo.z] at hK ⊢; obtain ⟨xX35, xX36, xX37, xX38⟩ := (X3.below hJ).v9; go_simp; exact hK.out _ _ rfl (br _ _)
    refine Jo.jm rfl ?_ ?_
    · rintro wj hJ K hK; simp only [Jo.z] at hK ⊢; go_simp; exact hK.out _ _ rfl (br _ _)
    refine Jo.jm rfl ?_ ?_
    · rintro wj hJ _ rfl _ rfl _ rfl _ rfl K hK; simp only [Jo.z] at hK ⊢; go_simp; rw [HOP.out.1]; simp only [Oper.upon]; refine (HOP.out.2 _ _ _ _ _ _ _ _ _ _ _ _ _ (hI.below hJ) b1.top b2.top b1.rk b2.rk H4.out).mono ?_; rintro ee wk ⟨K24, s24, M24, E24, rfl, q24, B⟩; exact hK.out _ _ ⟨K24, s24, M24, E24, rfl, q24⟩ B
    refine Jo.jm rfl ?_ ?_
    · rintro wj hJ _ ⟨K21, s21, M21, E21, rfl, q21⟩ _ ⟨K22, s22, M22, E22, rfl, q22⟩ _ ⟨K23, s23, M23, E23, rfl, q23⟩ _ ⟨K24, s24, M24, E24, rfl, q24⟩ K hK; simp only [Jo.z] at hK ⊢; go_simp; exact hK.out _ _ ⟨_, 4, rfl, Nl.of4 (Bo.new _ _ _) q21 q22 q23 q24⟩ (bel1 _ _)
    exact Jo.Steps.nil
  rintro w8 hJ _ rfl _ _ _ rfl _ _ _ rfl _ rfl _ ⟨K21, s21, M21, E21, rfl, q21⟩ _ rfl _ _ _ rfl _ _ _ rfl _ rfl _ ⟨K22, s22, M22, E22, rfl, q22⟩ _ rfl _ _ _ rfl _ _ _ rfl _ rfl _ ⟨K23, s23, M23, E23, rfl, q23⟩ _ rfl _ _ _ rfl _ _ _ rfl _ rfl _ ⟨K24, s24, M24, E24, rfl, q24⟩ _ ⟨A9, c9, rfl, h9⟩ -; simp only [Jo.z]; replace X1 := X1.below hJ; replace X2 := X2.below hJ; replace X3 := X3.below hJ; replace hI := hI.below hJ
  replace HB := Lib.hid (bt HB.out hJ)
  refine Jo.jnext (i := 29) (o := ⟨some 5, _, _, _, _, _⟩) (by kernel_rfl) rfl (fun K hK => ?_)
  go_simp; refine hK.out _ _ ?_; clear hK K; refine Jo.jdone (by kernel_rfl) ?_; go_wp2
  go_ret
  exact ⟨_, _, rfl, HF.out ▸ h9, HB.out⟩
set_option maxHeartbeats 8000000 in
theorem fkOf {w : World} {fid : FuncId} {F0 : Bool → Int → Int → Int} {b : Bool} {K1 M1 E1 K1b M1b E1b K2 M2 E2 K2b M2b E2b : Int} {s1 s1b s2 s2b : Bool} {xa xb ya yb : Int} {z : Sp} (hop : OpQ fid F0 b) (hI : TabIf b w) (v1 : Ci false K1 s1 M1 E1 K1b s1b M1b E1b (some (xa, xb))) (v2 : Ci false K2 s2 M2 E2 K2b s2b M2b E2b (some (ya, yb))) (hF : F0 false xa ya ≤ 19342822337206103650074625 ∧ -19342822337206103650074625 ≤ F0 true xa ya) (hr : cor F0 xa xb ya yb = z) :
    Calls Tryz.prog 53 #[.agg #[.bool false, .int .i64 K1, .bool s1, .int .u64 M1, .int .i64 E1, .int .i64 K1b, .bool s1b, .int .u64 M1b, .int .i64 E1b], .agg #[.bool false, .int .i64 K2, .bool s2, .int .u64 M2, .int .i64 E2, .int .i64 K2b, .bool s2b, .int .u64 M2b, .int .i64 E2b], .func (.func fid) #[] #[]] w (PV w z) := by
  have hmf : ∀ (fn : Fn) (first cap : Array Value) (w : World), (Instr.makeFunc fn first cap).run Tryz.prog w = .ok (.func fn first cap) w := fun _ _ _ _ => rfl
  obtain ⟨_, a1, b1, o1, o1l, o1h⟩ := v1; obtain ⟨_, a2, b2, o2, o2l, o2h⟩ := v2; rw [← four_cor hF.1 hF.2] at hr; obtain ⟨u, hu⟩ : ∃ u, mnp (four F0 false xa xb ya yb) = u := ⟨_, rfl⟩; obtain ⟨v, hv⟩ : ∃ v, mxp (four F0 true xa xb ya yb) = v := ⟨_, rfl⟩; rw [hu, hv] at hr; have HU := Lib.hid hu; have HV := Lib.hid hv; have HR := Lib.hid hr; have HOP := Lib.hid hop; clear hu hv hr hop hF o1 o1l o1h o2 o2l o2h
  go_enter Tryz.func53, Tryz.ntmps53
  go_upto_region 1 with (fail)
  generalize hW1 : (((w.alloc _).alloc _).alloc _).alloc _ = w1 at *; obtain ⟨X3, X4, X5, XR, HB⟩ := Bo.en4 hW1; replace hI := hI.below HB.out; clear hW1
  go_wp2_with fail
  refine (fkFour HOP.out hI X5 X3 X4 a1 b1 a2 b2).mono ?_; rintro ee w2 ⟨A1, c1, rfl, N1, B⟩; replace X3 := X3.below B; replace X4 := X4.below B; replace X5 := X5.below B; replace XR := XR.below B; replace hI := hI.below B; replace HB := Lib.hid (bt HB.out B); clear B
  go_wp2_with fail
  refine (nLeast N1 HU.out).mono ?_; rintro ee w3 ⟨K11, s11, M11, E11, rfl, q11, B⟩; replace X3 := X3.below B; replace X4 := X4.below B; replace X5 := X5.below B; replace XR := XR.below B; replace hI := hI.below B; replace N1 := N1.below B; replace HB := Lib.hid (bt HB.out B); clear B; clear N1
  go_wp2_with fail
  refine (fkFour HOP.out hI X5 X3 X4 a1 b1 a2 b2).mono ?_; rintro ee w4 ⟨A2, c2, rfl, N2, B⟩; replace X3 := X3.below B; replace X4 := X4.below B; replace X5 := X5.below B; replace XR := XR.below B; replace hI := hI.below B; replace HB := Lib.hid (bt HB.out B); clear B
  go_wp2_with fail
  refine (nMost N2 HV.out).mono ?_; rintro ee w5 ⟨K12, s12, M12, E12, rfl, q12, B⟩; replace X3 := X3.below B; replace X4 := X4.below B; replace X5 := X5.below B; replace XR := XR.below B; replace hI := hI.below B; replace N2 := N2.below B; replace HB := Lib.hid (bt HB.out B); clear B; clear N2
  go_wp2_with fail
  refine (kvMake q11.top q12.top q11.rk q12.rk HR.out).mono ?_; rintro ee w6 ⟨e13, K13, s13, M13, E13, K13b, s13b, M13b, E13b, rfl, v13, B⟩; replace X3 := X3.below B; replace X4 := X4.below B; replace X5 := X5.below B; replace XR := XR.below B; replace hI := hI.below B; replace HB := Lib.hid (bt HB.out B); clear B; clear hI; clear X5; obtain ⟨xXR0, xXR1, xXR2, xXR3, xXR4, xXR5, xXR6, xXR7, xXR8⟩ := XR.u9
  have zXR0 := XR.frozen; go_wp2; clear xXR0 zXR0 xXR1 xXR2 xXR3 xXR4 xXR5 xXR6 xXR7 xXR8; have SX := StN.mk9 XR (.bool e13) (.int .i64 K13) (.bool s13) (.int .u64 M13) (.int .i64 E13) (.int .i64 K13b) (.bool s13b) (.int .u64 M13b) (.int .i64 E13b); exact bodyPost_ret (by simp [results, Tryz.results53, go_sem, SX.box.cell]) rfl ⟨_, _, _, _, _, _, _, _, _, rfl, v13, (SX.below HB.out (by omega))⟩
theorem opq_mul : OpQ 54 mulp false := ⟨fun _ _ => by first | rfl | kernel_rfl | simp [callFunc, go_sem], fun _ _ _ _ _ _ _ _ _ _ _ _ _ _ hM hM' hx hy hr => aMul hM hM' hx hy hr⟩
set_option maxHeartbeats 4000000 in
theorem fkMul {w : World} {e : Bool} {D M E D' M' E' : Int} {s s' : Bool} {e2 : Bool} {G P Q G' P' Q' : Int} {g g' : Bool} {x y z : Sp} (hM : M < 18446744073709551616) (hM' : M' < 18446744073709551616) (hP : P < 18446744073709551616) (hP' : P' < 18446744073709551616) (hx : rkI e D s M E D' s' M' E' = x) (hy : rkI e2 G g P Q G' g' P' Q' = y) (hr : mulI x y = z) : Calls Tryz.prog 18 #[.agg #[.bool e, .int .i64 D, .bool s, .int .u64 M, .int .i64 E, .int .i64 D', .bool s', .int .u64 M', .int .i64 E'], .agg #[.bool e2, .int .i64 G, .bool g, .int .u64 P, .int .i64 Q, .int .i64 G', .bool g', .int .u64 P', .int .i64 Q']] w (PV w z) := by
  obtain ⟨p, hp⟩ : ∃ p, gone [x, y] = p := ⟨_, rfl⟩; have HP := Lib.hid hp; have HX := Lib.hid hx; have HY := Lib.hid hy; clear hx hy hp
  go_enter Tryz.func18, Tryz.ntmps18
  go_upto_region 1 with (fail)
  generalize hW1 : ((w.alloc _).alloc _).alloc _ = w1 at *; obtain ⟨X2, X3, XR, HB⟩ := Bo.en3 hW1; clear hW1; obtain ⟨xX20, xX21, xX22, xX23, xX24, xX25, xX26, xX27, xX28⟩ := X2.u9; obtain ⟨xX30, xX31, xX32, xX33, xX34, xX35, xX36, xX37, xX38⟩ := X3.u9
  go_wp2_with fail
  refine (fkEmpty (Il8.lit2 rfl ⟨hM, hM', HX.out⟩ ⟨hP, hP', HY.out⟩) HP.out).mono ?_; rintro ee w2 ⟨rfl, B⟩; replace B := bt (bel1 _ (.cells #[.bool e, .int .i64 D, .bool s, .int .u64 M, .int .i64 E, .int .i64 D', .bool s', .int .u64 M', .int .i64 E', .bool e2, .int .i64 G, .bool g, .int .u64 P, .int .i64 Q, .int .i64 G', .bool g', .int .u64 P', .int .i64 Q'] 26)) B; clear xX20 xX21 xX22 xX23 xX24 xX25 xX26 xX27 xX28 xX30 xX31 xX32 xX33 xX34 xX35 xX36 xX37 xX38
  replace X2 := X2.below B; replace X3 := X3.below B; replace XR := XR.below B; replace HB := Lib.hid (bt HB.out B); clear B
  rcases x with _ | ⟨xa, xb⟩
  · obtain rfl : true = p := HP.out
    obtain rfl : none = z := hr
    clear HP
    go_wp2_with fail
    refine (kvNoneE).mono ?_; rintro ee w3 ⟨rfl, B⟩; replace X2 := X2.below B; replace X3 := X3.below B; replace XR := XR.below B; replace HB := Lib.hid (bt HB.out B); clear B; obtain ⟨xXR0, xXR1, xXR2, xXR3, xXR4, xXR5, xXR6, xXR7, xXR8⟩ := XR.u9; have zXR0 := XR.frozen; go_wp2; clear xXR0 zXR0 xXR1 xXR2 xXR3 xXR4 xXR5 xXR6 xXR7 xXR8; have SX := StN.mk9 XR (.bool true) (.int .i64 0) (.bool false) (.int .u64 0) (.int .i64 0) (.int .i64 0) (.bool false) (.int .u64 0) (.int .i64 0)
    exact bodyPost_ret (by simp [results, Tryz.results18, go_sem, SX.box.cell]) rfl ⟨_, _, _, _, _, _, _, _, _, rfl, Ci.none, (SX.below HB.out (by omega))⟩
  · rcases y with _ | ⟨ya, yb⟩
    · obtain rfl : true = p := HP.out
      obtain rfl : none = z := hr
      clear HP
      go_wp2_with fail
      refine (kvNoneE).mono ?_; rintro ee w3 ⟨rfl, B⟩; replace X2 := X2.below B; replace X3 := X3.below B; replace XR := XR.below B; replace HB := Lib.hid (bt HB.out B); clear B; obtain ⟨xXR0, xXR1, xXR2, xXR3, xXR4, xXR5, xXR6, xXR7, xXR8⟩ := XR.u9; have zXR0 := XR.frozen; go_wp2; clear xXR0 zXR0 xXR1 xXR2 xXR3 xXR4 xXR5 xXR6 xXR7 xXR8; have SX := StN.mk9 XR (.bool true) (.int .i64 0) (.bool false) (.int .u64 0) (.int .i64 0) (.int .i64 0) (.bool false) (.int .u64 0) (.int .i64 0)
      exact bodyPost_ret (by simp [results, Tryz.results18, go_sem, SX.box.cell]) rfl ⟨_, _, _, _, _, _, _, _, _, rfl, Ci.none, (SX.below HB.out (by omega))⟩
    · obtain rfl : false = p := HP.out
      have w1' := ci_some hM hM' HX.out
      have w2' := ci_some hP hP' HY.out
      obtain ⟨rfl, a1, b1, o1, o1l, o1h⟩ := w1'; obtain ⟨rfl, a2, b2, o2, o2l, o2h⟩ := w2'
      have v1 : Ci false D s M E D' s' M' E' (some (xa, xb)) := ⟨rfl, a1, b1, o1, o1l, o1h⟩
      have v2 : Ci false G g P Q G' g' P' Q' (some (ya, yb)) := ⟨rfl, a2, b2, o2, o2l, o2h⟩
      clear HP HX HY
      have HR := Lib.hid (show cor mulp xa xb ya yb = z from hr)
      clear hr o1 o1l o1h o2 o2l o2h; obtain ⟨xX20, xX21, xX22, xX23, xX24, xX25, xX26, xX27, xX28⟩ := X2.u9; obtain ⟨xX30, xX31, xX32, xX33, xX34, xX35, xX36, xX37, xX38⟩ := X3.u9
      go_wp2_with fail
      refine (fkOf opq_mul (fun e => by cases e) v1 v2 ⟨(mulp_bd false).2, (mulp_bd true).1⟩ HR.out).mono ?_
      rintro ee w3 ⟨e13, K13, s13, M13, E13, K13b, s13b, M13b, E13b, rfl, v13, B⟩; clear xX20 xX21 xX22 xX23 xX24 xX25 xX26 xX27 xX28 xX30 xX31 xX32 xX33 xX34 xX35 xX36 xX37 xX38; replace X2 := X2.below B; replace X3 := X3.below B; replace XR := XR.below B; replace HB := Lib.hid (bt HB.out B); clear B; obtain ⟨xXR0, xXR1, xXR2, xXR3, xXR4, xXR5, xXR6, xXR7, xXR8⟩ := XR.u9; have zXR0 := XR.frozen; go_wp2
      clear xXR0 zXR0 xXR1 xXR2 xXR3 xXR4 xXR5 xXR6 xXR7 xXR8; have SX := StN.mk9 XR (.bool e13) (.int .i64 K13) (.bool s13) (.int .u64 M13) (.int .i64 E13) (.int .i64 K13b) (.bool s13b) (.int .u64 M13b) (.int .i64 E13b); exact bodyPost_ret (by simp [results, Tryz.results18, go_sem, SX.box.cell]) rfl ⟨_, _, _, _, _, _, _, _, _, rfl, v13, (SX.below HB.out (by omega))⟩
end Go.Proofs.YteejbcimmmcnlaaGreatDoor

/-
  What the document's Root of layer 7 does.
-/
namespace Go.Proofs.YteejbcimmmcnlaaGreatDoor
open Go.RowKit
set_option linter.unusedVariables false
set_option linter.unusedSimpArgs false
set_option maxRecDepth 100000

/-- The root's place, and whether there is one. -/
def Ro (up : Bool) (x r : Int) (t : Bool) : Prop := if x < 0 then r = 0 ∧ t = false else if x = 0 ∨ infp x = true then r = x ∧ t = true else Rt up (vr x * 2 ^ KK) r ∧ t = true
theorem ro_neg {up : Bool} {x r : Int} {t : Bool} (h : x < 0) : Ro up x r t ↔ (r = 0 ∧ t = false) := by
  unfold Ro
  rw [if_pos h]
theorem ro_it {up : Bool} {x r : Int} {t : Bool} (h : ¬ x < 0) (h2 : x = 0 ∨ infp x = true) : Ro up x r t ↔ (r = x ∧ t = true) := by
  unfold Ro
  rw [if_neg h, if_pos h2]
theorem ro_fin {up : Bool} {x r : Int} {t : Bool} (h : ¬ x < 0) (h2 : ¬ (x = 0 ∨ infp x = true)) : Ro up x r t ↔ (Rt up (vr x * 2 ^ KK) r ∧ t = true) := by
  unfold Ro
  rw [if_neg h, if_neg h2]
theorem tmod_two (e : Int) : Int.tmod e 2 = 0 ↔ e % 2 = 0 := by
  rw [← Int.dvd_iff_tmod_eq_zero, Int.dvd_iff_emod_eq_zero]
theorem stk_le {s d : Nat} {X k : Nat} (h : s * s + d = X) (hX : X < 2 ^ k) : stk s d < 2 ^ (k + 2) := by
  have h1 : s ≤ X := by
    rcases Nat.eq_zero_or_pos s with e | e
    · omega
    · have := Nat.le_mul_of_pos_right s e
      omega
  have h2 : stk s d ≤ 2 * s + 1 := by
    unfold stk
    split <;> omega
  have h3 : 2 ^ (k + 2) = 2 ^ k * 4 := by rw [Nat.pow_add]
  omega
theorem rt_big {α n : Nat} (h : 0 < α) (hn : 140 ≤ n) : 9223372036854775808 ≤ rt (α * 2 ^ n) := by
  rcases Nat.lt_or_ge (rt (α * 2 ^ n)) 9223372036854775808 with c | c
  · exfalso
    have h1 := (rt_spec (α * 2 ^ n)).2
    have h2 : (rt (α * 2 ^ n) + 1) * (rt (α * 2 ^ n) + 1) ≤ 2 ^ 63 * 2 ^ 63 := Nat.mul_le_mul (by omega) (by omega)
    have h3 : 1 * 2 ^ 140 ≤ α * 2 ^ n := Nat.mul_le_mul h (Nat.pow_le_pow_right (by decide) hn)
    omega
  · exact c
set_option maxHeartbeats 8000000 in
theorem jRoot {w : World} {D M E : Int} {s : Bool} {up t : Bool} {x r : Int} (hM : M < 18446744073709551616) (hx : rk D s M E = x) (hr : Ro up x r t) : Calls Tryz.prog 72 #[.agg #[.int .i64 D, .bool s, .int .u64 M, .int .i64 E], .bool up] w (PNB w r t) := by
  have HX := Lib.hid hx; clear hx
  go_enter Tryz.func72, Tryz.ntmps72
  go_upto_region 1 with (fail)
  generalize hW1 : (w.alloc _).alloc _ = w1 at *; obtain ⟨X2, XR, HB⟩ := Bo.en2 hW1; clear hW1; obtain ⟨xX20, xX21, xX22, xX23⟩ := X2.u4
  go_wp2_with fail
  refine (gFair hM HX.out).mono ?_; rintro ee w2 ⟨K1, s1, M1, E1, rfl, q1, B⟩; clear xX20 xX21 xX22 xX23; replace X2 := X2.below B; replace XR := XR.below B; replace HB := Lib.hid (bt HB.out B); clear B
  go_upto_region 2 with (fail)
  have lX6 := Nat.le_refl (World.heap w2).size; have nX6X2 := X2.lt; have nX6XR := XR.lt; generalize hWn : w2.alloc _ = w3 at *; obtain ⟨X6, BW⟩ := Bo.nw hWn; clear hWn; replace X2 := X2.below BW; replace XR := XR.below BW; replace HB := Lib.hid (bt HB.out BW); clear BW; clear lX6 HX hM; have i1 := fq_inf q1; have z1 := q1.zero_iff
  have kk1 : K1 = 2 ∨ K1 = 0 ∨ K1 = 1 := by rcases q1.cases with ⟨h, _⟩ | ⟨h, _⟩ | ⟨h, _⟩ <;> omega
  have hsx : K1 ≠ 0 → decide (x < 0) = s1 := fun h0 => by
    rcases q1.three with ⟨a, _⟩ | ⟨_, rfl, b⟩ | ⟨_, rfl, b⟩
    · exact absurd a h0
    · exact decide_eq_false (by omega)
    · exact decide_eq_true b
  rcases kk1 with rfl | rfl | rfl
  · by_cases hs : s1 = true
    · subst hs
      have hx0 : x < 0 := of_decide_eq_true (hsx (by decide))
      obtain ⟨rfl, rfl⟩ := (ro_neg hx0).1 hr; clear hr hx0 i1 z1 hsx q1; obtain ⟨xXR0, xXR1, xXR2, xXR3⟩ := XR.u4; have zXR0 := XR.frozen; obtain ⟨xX60, xX61, xX62, xX63⟩ := X6.u4; go_wp2; clear xXR0 zXR0 xXR1 xXR2 xXR3 xX60 xX61 xX62 xX63; have SX := StN.mk4 XR (.int .i64 0) (.bool false) (.int .u64 0) (.int .i64 0); exact bodyPost_ret (v := .tuple #[.agg #[.int .i64 0, .bool false, .int .u64 0, .int .i64 0], .bool false]) (by simp [results, Tryz.results72, go_sem, SX.box.cell]) rfl ⟨_, _, _, _, rfl, Fq.nought, (SX.below HB.out (by omega))⟩
    · have hs : s1 = false := by simpa using hs
      subst hs
      have hx0 : ¬ x < 0 := of_decide_eq_false (hsx (by decide))
      have hx1 : x = 0 ∨ infp x = true := .inr i1
      obtain ⟨rfl, rfl⟩ := (ro_it hx0 hx1).1 hr; clear hr hx0 hx1 i1 z1 hsx; obtain ⟨xXR0, xXR1, xXR2, xXR3⟩ := XR.u4; have zXR0 := XR.frozen; obtain ⟨xX60, xX61, xX62, xX63⟩ := X6.u4; go_wp2; clear xXR0 zXR0 xXR1 xXR2 xXR3 xX60 xX61 xX62 xX63; have SX := StN.mk4 XR (.int .i64 2) (.bool false) (.int .u64 M1) (.int .i64 E1); exact bodyPost_ret (v := .tuple #[.agg #[.int .i64 2, .bool false, .int .u64 M1, .int .i64 E1], .bool true]) (by simp [results, Tryz.results72, go_sem, SX.box.cell]) rfl ⟨_, _, _, _, rfl, q1, (SX.below HB.out (by omega))⟩
  · have hx0 : ¬ x < 0 := by have := z1.1 rfl; omega
    have hx1 : x = 0 ∨ infp x = true := .inl (z1.1 rfl)
    obtain ⟨rfl, rfl⟩ := (ro_it hx0 hx1).1 hr; clear hr hx0 hx1 i1 z1 hsx; obtain ⟨xXR0, xXR1, xXR2, xXR3⟩ := XR.u4; have zXR0 := XR.frozen; obtain ⟨xX60, xX61, xX62, xX63⟩ := X6.u4; go_wp2; clear xXR0 zXR0 xXR1 xXR2 xXR3 xX60 xX61 xX62 xX63; have SX := StN.mk4 XR (.int .i64 0) (.bool s1) (.int .u64 M1) (.int .i64 E1); exact bodyPost_ret (v := .tuple #[.agg #[.int .i64 0, .bool s1, .int .u64 M1, .int .i64 E1], .bool true]) (by simp [results, Tryz.results72, go_sem, SX.box.cell]) rfl ⟨_, _, _, _, rfl, q1, (SX.below HB.out (by omega))⟩
  · by_cases hs : s1 = true
    · subst hs
      have hx0 : x < 0 := of_decide_eq_true (hsx (by decide))
      obtain ⟨rfl, rfl⟩ := (ro_neg hx0).1 hr; clear hr hx0 i1 z1 hsx q1; obtain ⟨xXR0, xXR1, xXR2, xXR3⟩ := XR.u4; have zXR0 := XR.frozen; obtain ⟨xX60, xX61, xX62, xX63⟩ := X6.u4; go_wp2; clear xXR0 zXR0 xXR1 xXR2 xXR3 xX60 xX61 xX62 xX63; have SX := StN.mk4 XR (.int .i64 0) (.bool false) (.int .u64 0) (.int .i64 0); exact bodyPost_ret (v := .tuple #[.agg #[.int .i64 0, .bool false, .int .u64 0, .int .i64 0], .bool false]) (by simp [results, Tryz.results72, go_sem, SX.box.cell]) rfl ⟨_, _, _, _, rfl, Fq.nought, (SX.below HB.out (by omega))⟩
    · have hs : s1 = false := by simpa using hs
      subst hs
      have hx0 : ¬ x < 0 := of_decide_eq_false (hsx (by decide))
      have hx1 : ¬ (x = 0 ∨ infp x = true) := by
        rw [i1]; rintro (c | c)
        · exact absurd (z1.2 c) (by decide)
        · exact absurd c (by decide)
      obtain ⟨hr2, ht⟩ := (ro_fin hx0 hx1).1 hr; subst ht; obtain ⟨a1, a2, a3, a4, _⟩ := fq_vr q1; obtain ⟨α, v, u1, u2, u3, u4, u5, u6⟩ := exq_one (s := false) a1 a2; rw [wsg_f] at u1; obtain ⟨V, hV⟩ : ∃ V : Int, (v : Int) = V := ⟨_, rfl⟩; rw [hV] at u2
      have w1_ : 0 ≤ V ∧ V < 64 := by omega
      obtain ⟨e, he⟩ : ∃ e, V + E1 = e := ⟨_, rfl⟩; have HXA := Lib.hid u1; have HXB := Lib.hid u2; have HEA := Lib.hid (exb_one (s := false) a1)
      have HW1 : Hid (IntKind.i64.wrap (V + E1) = e) := Lib.hid (by rw [he]; exact IntWalk.i64_in _ (by omega))
      have m1 : 0 ≤ M1 := by omega
      have eb : -1100000 ≤ e ∧ e ≤ 1100000 := by omega
      have key : ∀ n : Nat, (n = 140 ∨ n = 141) → ∀ f : Int, 2 * f = e - n → ∀ S d : Nat, rt (α * 2 ^ n) = S → S * S + d = α * 2 ^ n → rnd up (mk ((stk S d : Nat) : Int) (f - 1)).1 (mk ((stk S d : Nat) : Int) (f - 1)).2 = r := by
        intro n hn f hf S d hS hd
        obtain ⟨κ, hκ⟩ : ∃ κ : Nat, κ = 500000 := ⟨_, rfl⟩; have hsp := rt_spec (α * 2 ^ n); rw [hS] at hsp
        have hX : α * 2 ^ n < 2 ^ 205 := by
          have l1 : α * 2 ^ n < 2 ^ 64 * 2 ^ n := Nat.mul_lt_mul_of_pos_right u5 (Nat.pow_pos (by decide))
          rw [← Nat.pow_add] at l1; exact Nat.lt_of_lt_of_le l1 (Nat.pow_le_pow_right (by decide) (by omega))
        have hst := Nat.lt_of_lt_of_le (stk_le hd hX) (Nat.pow_le_pow_right (show 0 < 2 by decide) (show 205 + 2 ≤ κ by omega))
        have hb : 9223372036854775808 ≤ S := by rw [← hS]; exact rt_big u4 (by omega)
        have hside := root_side (N := α) (e := e) up hd hsp.2 hb hf hκ hst (by omega) (by omega) (by omega) (by omega)
        have hfin := root_fin (up := up) q1 u3 u6 (by rw [show E1 + (v : Int) + 2 * (KK : Int) = e + 2 * (KK : Int) by omega]; exact hside)
        exact hfin.uniq hr2
      have HKEY := Lib.hid key; clear key hr hr2 hx0 hx1 i1 z1 hsx a1 a3 a4 u1 u2 u3 u5 u6 hV w1_ he q1; obtain ⟨xX60, xX61, xX62, xX63⟩ := X6.u4
      go_wp2_with fail
      refine (yExact0 m1 a2 HEA.out HXA.out HXB.out).mono ?_; rintro ee w4 ⟨sa, Aa, na, ca, rfl, pa, ka, B⟩; clear xX60 xX61 xX62 xX63; replace XR := XR.below B; replace X6 := X6.below B; replace HB := Lib.hid (bt HB.out B); clear B; obtain ⟨ra, hsa⟩ := wn_rd (s := false) (by rw [wsg_f]; exact pa) u4; subst hsa; clear pa
      go_upto_region 7 with (fail)
      have lX7 := Nat.le_refl (World.heap w4).size; have nX7XR := XR.lt; have nX7X6 := X6.lt; generalize hWn : w4.alloc _ = w5 at *; obtain ⟨X7, BW⟩ := Bo.nw hWn; clear hWn; replace XR := XR.below BW; replace X6 := X6.below BW; replace ra := ra.below BW; replace HB := Lib.hid (bt HB.out BW); clear BW; clear lX7; obtain ⟨xX60, xX61, xX62, xX63⟩ := X6.u4; obtain ⟨xX70, xX71, xX72⟩ := X7.u3; have hw1 := HW1.out
      go_upto_region 9 with (fail)
      clear hw1; clear xX60 xX61 xX62 xX63 xX70 xX71 xX72
      by_cases hpar : e % 2 = 0
      · obtain ⟨f, hf⟩ : ∃ f : Int, 2 * f = e - 140 := ⟨(e - 140) / 2, by omega⟩
        obtain ⟨S, hS⟩ : ∃ S, rt (α * 2 ^ 140) = S := ⟨_, rfl⟩; obtain ⟨d, hd⟩ : ∃ d, S * S + d = α * 2 ^ 140 := ⟨α * 2 ^ 140 - S * S, by have := (rt_spec (α * 2 ^ 140)).1; rw [hS] at this; omega⟩
        have hk := HKEY.out 140 (by decide) f (by omega) S d hS hd; obtain ⟨T, hT⟩ : ∃ T, stk S d = T := ⟨_, rfl⟩; rw [hT] at hk; obtain ⟨P, hP⟩ : ∃ P, mk (T : Int) (f - 1) = P := ⟨_, rfl⟩; rw [hP] at hk
        have hPn : mk P.1 P.2 = P := by rw [← hP]; exact mk_nf _ _
        have HRR := Lib.hid (show rnd up (mk P.1 P.2).1 (mk P.1 P.2).2 = r by rw [hPn]; exact hk)
        have HP1 : Hid ((mk (sg false T) (f - 1)).1 = P.1) := Lib.hid (by rw [sg_false, hP])
        have HP2 : Hid ((mk (sg false T) (f - 1)).2 = P.2) := Lib.hid (by rw [sg_false, hP])
        obtain ⟨X, hX⟩ : ∃ X, α * 2 ^ 140 = X := ⟨_, rfl⟩; rw [hX] at hS hd
        have HX2 : Hid (α * 2 ^ (140 : Int).toNat = X) := Lib.hid hX
        have HS := Lib.hid hS; obtain ⟨b, hb⟩ : ∃ b, decide (S * S = X) = b := ⟨_, rfl⟩; have HBB := Lib.hid hb
        have HCT : Hid (decide (d ≠ 0) = !b) := Lib.hid (by
          rw [← hb]
          by_cases c : d = 0
          · rw [decide_eq_true (show S * S = X by omega), c]
            rfl
          · rw [decide_eq_false (show ¬ S * S = X by omega), decide_eq_true c]
            rfl)
        have HT2 := Lib.hid hT
        have hrem : Int.tmod e 2 = 0 := by exact (tmod_two e).2 hpar
        have hrem2 : (Int.tmod e 2 == 0) = true := by
          rw [hrem]
          rfl
        have HW2 : Hid (IntKind.i64.wrap (e - 140) = e - 140) := Lib.hid (IntWalk.i64_in _ (by omega))
        have HQ : Hid (Int.tdiv (e - 140) 2 = f) := Lib.hid (by rw [← hf]; exact Int.mul_tdiv_cancel_left _ (by decide))
        have HW3 : Hid (IntKind.i64.wrap (f - 1) = f - 1) := Lib.hid (IntWalk.i64_in _ (by omega))
        have HW4 : Hid (IntKind.i64.wrap f = f) := Lib.hid (IntWalk.i64_in _ (by omega))
        clear HKEY hk hP hPn hX hS hd hb hT hf; obtain ⟨xX60, xX61, xX62, xX63⟩ := X6.u4; obtain ⟨xX70, xX71, xX72⟩ := X7.u3
        go_upto_region 11 with (fail)
        go_wp2_with fail
        refine (rShlN (z := 140) ra (by omega) (by decide) (by decide) HX2.out).mono ?_; rintro ee w6 ⟨A3, n3, c3, rfl, p3, k3, B⟩; clear xX60 xX61 xX62 xX63 xX70 xX71 xX72; replace XR := XR.below B; replace X6 := X6.below B; replace X7 := X7.below B; replace ra := ra.below B; replace HB := Lib.hid (bt HB.out B); clear B; clear ra
        have hn3 : n3 ≤ 100 := by
          have : (140 : Int).toNat / 32 = 4 := rfl
          omega
        go_wp2_with fail
        refine (rRoot p3.rd (by omega) HS.out HBB.out).mono ?_; rintro ee w7 ⟨A4, n4, c4, rfl, p4, k4, B⟩; replace XR := XR.below B; replace X6 := X6.below B; replace X7 := X7.below B; replace p3 := p3.below B; replace HB := Lib.hid (bt HB.out B); clear B; clear p3
        go_wp2_with fail
        refine (jSticky (d := d) (cut := !b) p4.rd (by omega) HCT.out HT2.out).mono ?_; rintro ee w8 ⟨A5, n5, c5, rfl, p5, k5, B⟩; replace XR := XR.below B; replace X6 := X6.below B; replace X7 := X7.below B; replace p4 := p4.below B; replace HB := Lib.hid (bt HB.out B); clear B; clear p4
        go_wp2_with fail
        refine (qMake false p5.rd).mono ?_; rintro ee w9 ⟨s6, A6, n6, c6, rfl, p6, k6, B⟩; replace XR := XR.below B; replace X6 := X6.below B; replace X7 := X7.below B; replace p5 := p5.below B; replace HB := Lib.hid (bt HB.out B); clear B; clear p5; have hw2 := HW2.out; have hq := HQ.out; have hw3 := HW3.out; have hw4 := HW4.out
        go_wp2_with fail
        refine (q3Make p6.wr (by omega) HP1.out HP2.out).mono ?_; rintro ee wA ⟨s8, A8, n8, c8, rfl, p8, k8, B⟩; replace XR := XR.below B; replace X6 := X6.below B; replace X7 := X7.below B; replace p6 := p6.below B; replace HB := Lib.hid (bt HB.out B); clear B; clear p6 hw2 hq hw3 hw4
        go_wp2_with fail
        refine (yRound p8.wr (by omega) rfl rfl HRR.out).mono ?_; rintro ee wB ⟨K9, s9, M9, E9, rfl, q9, B⟩; replace XR := XR.below B; replace X6 := X6.below B; replace X7 := X7.below B; replace p8 := p8.below B; replace HB := Lib.hid (bt HB.out B); clear B; obtain ⟨xXR0, xXR1, xXR2, xXR3⟩ := XR.u4; have zXR0 := XR.frozen; go_wp2; clear xXR0 zXR0 xXR1 xXR2 xXR3; have SX := StN.mk4 XR (.int .i64 K9) (.bool s9) (.int .u64 M9) (.int .i64 E9)
        exact bodyPost_ret (v := .tuple #[.agg #[.int .i64 K9, .bool s9, .int .u64 M9, .int .i64 E9], .bool true]) (by simp [results, Tryz.results72, go_sem, SX.box.cell]) rfl ⟨_, _, _, _, rfl, q9, (SX.below HB.out (by omega))⟩
      · obtain ⟨f, hf⟩ : ∃ f : Int, 2 * f = e - 141 := ⟨(e - 141) / 2, by omega⟩
        obtain ⟨S, hS⟩ : ∃ S, rt (α * 2 ^ 141) = S := ⟨_, rfl⟩; obtain ⟨d, hd⟩ : ∃ d, S * S + d = α * 2 ^ 141 := ⟨α * 2 ^ 141 - S * S, by have := (rt_spec (α * 2 ^ 141)).1; rw [hS] at this; omega⟩
        have hk := HKEY.out 141 (by decide) f (by omega) S d hS hd; obtain ⟨T, hT⟩ : ∃ T, stk S d = T := ⟨_, rfl⟩; rw [hT] at hk; obtain ⟨P, hP⟩ : ∃ P, mk (T : Int) (f - 1) = P := ⟨_, rfl⟩; rw [hP] at hk
        have hPn : mk P.1 P.2 = P := by rw [← hP]; exact mk_nf _ _
        have HRR := Lib.hid (show rnd up (mk P.1 P.2).1 (mk P.1 P.2).2 = r by rw [hPn]; exact hk)
        have HP1 : Hid ((mk (sg false T) (f - 1)).1 = P.1) := Lib.hid (by rw [sg_false, hP])
        have HP2 : Hid ((mk (sg false T) (f - 1)).2 = P.2) := Lib.hid (by rw [sg_false, hP])
        obtain ⟨X, hX⟩ : ∃ X, α * 2 ^ 141 = X := ⟨_, rfl⟩; rw [hX] at hS hd
        have HX2 : Hid (α * 2 ^ (141 : Int).toNat = X) := Lib.hid hX
        have HS := Lib.hid hS; obtain ⟨b, hb⟩ : ∃ b, decide (S * S = X) = b := ⟨_, rfl⟩; have HBB := Lib.hid hb
        have HCT : Hid (decide (d ≠ 0) = !b) := Lib.hid (by
          rw [← hb]
          by_cases c : d = 0
          · rw [decide_eq_true (show S * S = X by omega), c]
            rfl
          · rw [decide_eq_false (show ¬ S * S = X by omega), decide_eq_true c]
            rfl)
        have HT2 := Lib.hid hT
        have hrem : Int.tmod e 2 = Int.tmod e 2 := by rfl
        have hrem2 : (Int.tmod e 2 == 0) = false := by
          have : Int.tmod e 2 ≠ 0 := fun c => hpar ((tmod_two e).1 c)
          simpa using this
        have HW2 : Hid (IntKind.i64.wrap (e - 141) = e - 141) := Lib.hid (IntWalk.i64_in _ (by omega))
        have HQ : Hid (Int.tdiv (e - 141) 2 = f) := Lib.hid (by rw [← hf]; exact Int.mul_tdiv_cancel_left _ (by decide))
        have HW3 : Hid (IntKind.i64.wrap (f - 1) = f - 1) := Lib.hid (IntWalk.i64_in _ (by omega))
        have HW4 : Hid (IntKind.i64.wrap f = f) := Lib.hid (IntWalk.i64_in _ (by omega))
        clear HKEY hk hP hPn hX hS hd hb hT hf hrem; obtain ⟨xX60, xX61, xX62, xX63⟩ := X6.u4; obtain ⟨xX70, xX71, xX72⟩ := X7.u3
        go_upto_region 11 with (fail)
        go_wp2_with fail
        refine (rShlN (z := 141) ra (by omega) (by decide) (by decide) HX2.out).mono ?_; rintro ee w6 ⟨A3, n3, c3, rfl, p3, k3, B⟩; clear xX60 xX61 xX62 xX63 xX70 xX71 xX72; replace XR := XR.below B; replace X6 := X6.below B; replace X7 := X7.below B; replace ra := ra.below B; replace HB := Lib.hid (bt HB.out B); clear B; clear ra
        have hn3 : n3 ≤ 100 := by
          have : (141 : Int).toNat / 32 = 4 := rfl
          omega
        go_wp2_with fail
        refine (rRoot p3.rd (by omega) HS.out HBB.out).mono ?_; rintro ee w7 ⟨A4, n4, c4, rfl, p4, k4, B⟩; replace XR := XR.below B; replace X6 := X6.below B; replace X7 := X7.below B; replace p3 := p3.below B; replace HB := Lib.hid (bt HB.out B); clear B; clear p3
        go_wp2_with fail
        refine (jSticky (d := d) (cut := !b) p4.rd (by omega) HCT.out HT2.out).mono ?_; rintro ee w8 ⟨A5, n5, c5, rfl, p5, k5, B⟩; replace XR := XR.below B; replace X6 := X6.below B; replace X7 := X7.below B; replace p4 := p4.below B; replace HB := Lib.hid (bt HB.out B); clear B; clear p4
        go_wp2_with fail
        refine (qMake false p5.rd).mono ?_; rintro ee w9 ⟨s6, A6, n6, c6, rfl, p6, k6, B⟩; replace XR := XR.below B; replace X6 := X6.below B; replace X7 := X7.below B; replace p5 := p5.below B; replace HB := Lib.hid (bt HB.out B); clear B; clear p5; have hw2 := HW2.out; have hq := HQ.out; have hw3 := HW3.out; have hw4 := HW4.out
        go_wp2_with fail
        refine (q3Make p6.wr (by omega) HP1.out HP2.out).mono ?_; rintro ee wA ⟨s8, A8, n8, c8, rfl, p8, k8, B⟩; replace XR := XR.below B; replace X6 := X6.below B; replace X7 := X7.below B; replace p6 := p6.below B; replace HB := Lib.hid (bt HB.out B); clear B; clear p6 hw2 hq hw3 hw4
        go_wp2_with fail
        refine (yRound p8.wr (by omega) rfl rfl HRR.out).mono ?_; rintro ee wB ⟨K9, s9, M9, E9, rfl, q9, B⟩; replace XR := XR.below B; replace X6 := X6.below B; replace X7 := X7.below B; replace p8 := p8.below B; replace HB := Lib.hid (bt HB.out B); clear B; obtain ⟨xXR0, xXR1, xXR2, xXR3⟩ := XR.u4; have zXR0 := XR.frozen; go_wp2; clear xXR0 zXR0 xXR1 xXR2 xXR3; have SX := StN.mk4 XR (.int .i64 K9) (.bool s9) (.int .u64 M9) (.int .i64 E9)
        exact bodyPost_ret (v := .tuple #[.agg #[.int .i64 K9, .bool s9, .int .u64 M9, .int .i64 E9], .bool true]) (by simp [results, Tryz.results72, go_sem, SX.box.cell]) rfl ⟨_, _, _, _, rfl, q9, (SX.below HB.out (by omega))⟩
end Go.Proofs.YteejbcimmmcnlaaGreatDoor

/-
  How far from nought, squares and roots of intervals, by the places of their ends. Plain arithmetic; no Go text.
-/
namespace Go.Proofs.YteejbcimmmcnlaaGreatDoor
open Go.RowKit
set_option linter.unusedVariables false

def absI (x : Sp) : Sp := match x with
  | none => none
  | some (a, b) => if 0 ≤ a then some (a, b) else if b ≤ 0 then negI (some (a, b)) else mkI 0 (max b (-a))
def sqrI (x : Sp) : Sp := match absI x with
  | none => none
  | some (a, b) => mkI (mulp false a a) (mulp true b b)
def rootI (r : Bool → Int → Int) (x : Sp) : Sp := match meetI x (some (0, 19342822337206103650074625)) with
  | none => none
  | some (a, b) => mkI (r false a) (r true b)
/-- The roots' places as a function. -/
def RF (r : Bool → Int → Int) : Prop := ∀ up x, 0 ≤ x → Ro up x (r up x) true
theorem rt_ex9 (up : Bool) {X : Int} (hX : 0 < X) : ∃ r, Rt up X r := by
  obtain ⟨n, hn⟩ : ∃ n : Nat, (n : Int) = 19342822337206103650074625 := ⟨19342822337206103650074625, rfl⟩
  obtain ⟨k, hk, a, b⟩ := last_yes (fun k => (k : Int) ≤ 19342822337206103650074624 ∧ vr (k : Int) * vr (k : Int) ≤ X) ⟨by decide, by rw [show vr ((0 : Nat) : Int) = 0 from rfl]; omega⟩ n (by omega)
  have b' : (k : Int) < 19342822337206103650074624 → X < vr ((k : Int) + 1) * vr ((k : Int) + 1) := fun c => by
    have d : ¬ vr ((k + 1 : Nat) : Int) * vr ((k + 1 : Nat) : Int) ≤ X := fun d => b ⟨by omega, d⟩
    rw [show ((k + 1 : Nat) : Int) = (k : Int) + 1 by omega] at d
    omega
  cases up
  · exact ⟨k, rt_f.2 ⟨by omega, a.1, a.2, b'⟩⟩
  · by_cases e : vr (k : Int) * vr (k : Int) = X
    · have k0 : 0 < (k : Int) := by
        rcases Int.lt_or_le 0 (k : Int) with q | q
        · exact q
        · exfalso
          rw [show (k : Int) = 0 by omega, show vr 0 = 0 from rfl] at e
          omega
      have s := sq_lt (vr_nn (x := (k : Int) - 1) (by omega)) (vr_lt (show (k : Int) - 1 < k by omega))
      exact ⟨k, rt_t.2 ⟨k0, by omega, fun _ => by omega, by omega⟩⟩
    · refine ⟨(k : Int) + 1, rt_t.2 ⟨by omega, by omega, fun c => Int.le_of_lt (b' (by omega)), ?_⟩⟩
      rw [show (k : Int) + 1 - 1 = k by omega]
      omega
theorem ro_ex9 (up : Bool) (x : Int) (h : 0 ≤ x) : ∃ r, Ro up x r true := by
  by_cases c2 : x = 0 ∨ infp x = true
  · exact ⟨x, (ro_it (by omega) c2).2 ⟨rfl, rfl⟩⟩
  · obtain ⟨r, hr⟩ := rt_ex9 up (Int.mul_pos (vr_pos (show 0 < x by omega)) (p2pos KK))
    exact ⟨r, (ro_fin (by omega) c2).2 ⟨hr, rfl⟩⟩
theorem rf_ex : ∃ r, RF r := by
  have h : ∀ p : Bool × Int, ∃ r, 0 ≤ p.2 → Ro p.1 p.2 r true := fun p => by
    by_cases c : 0 ≤ p.2
    · obtain ⟨r, hr⟩ := ro_ex9 p.1 p.2 c
      exact ⟨r, fun _ => hr⟩
    · exact ⟨0, fun e => absurd e c⟩
  exact ⟨fun up x => Classical.choose (h (up, x)), fun up x => Classical.choose_spec (h (up, x))⟩
theorem Rt.mono9 {up : Bool} {X Y r t : Int} (h : Rt up X r) (k : Rt up Y t) (hXY : X ≤ Y) : r ≤ t := by
  rcases Int.lt_or_le t r with c | c
  · exfalso
    cases up
    · obtain ⟨h1, h2, h3, h4⟩ := rt_f.1 h; obtain ⟨k1, k2, k3, k4⟩ := rt_f.1 k; have a := k4 (by omega); have b := vr_sq (r := t + 1) (t := r) (by omega) (by omega)
      omega
    · obtain ⟨h1, h2, h3, h4⟩ := rt_t.1 h; obtain ⟨k1, k2, k3, k4⟩ := rt_t.1 k; have a := k3 (by omega); have b := vr_sq (r := t) (t := r - 1) (by omega) (by omega)
      omega
  · exact c
theorem infp_top : infp 19342822337206103650074625 = true := by decide
section
variable {r : Bool → Int → Int}
theorem RF.zero (hr : RF r) (up : Bool) : r up 0 = 0 := ((ro_it (by decide) (.inl rfl)).1 (hr up 0 (by decide))).1
theorem RF.top (hr : RF r) (up : Bool) : r up 19342822337206103650074625 = 19342822337206103650074625 := ((ro_it (by decide) (.inr infp_top)).1 (hr up _ (by decide))).1
theorem RF.fin (hr : RF r) (up : Bool) {x : Int} (h0 : 0 < x) (h1 : x < 19342822337206103650074625) : Rt up (vr x * 2 ^ KK) (r up x) :=
  ((ro_fin (by omega) (by rw [infp_fin (by omega) h1]; simp; omega)).1 (hr up x (by omega))).1
theorem RF.in (hr : RF r) (up : Bool) {x : Int} (h0 : 0 ≤ x) (h1 : x ≤ 19342822337206103650074625) : 0 ≤ r up x ∧ r up x ≤ 19342822337206103650074625 := by
  by_cases c : x = 0
  · subst c; rw [hr.zero]
    decide
  · by_cases d : x = 19342822337206103650074625
    · subst d; rw [hr.top]
      decide
    · have := hr.fin up (x := x) (by omega) (by omega)
      cases up
      · have := rt_f.1 this
        omega
      · have := rt_t.1 this
        omega
theorem RF.mono (hr : RF r) (up : Bool) {x y : Int} (h0 : 0 ≤ x) (h : x ≤ y) (h1 : y ≤ 19342822337206103650074625) : r up x ≤ r up y := by
  have X := hr.in up h0 (by omega)
  have Y := hr.in up (show 0 ≤ y by omega) h1
  by_cases c : x = 0
  · subst c; rw [hr.zero]
    omega
  · by_cases d : y = 19342822337206103650074625
    · subst d; rw [hr.top]
      omega
    · exact (hr.fin up (by omega) (by omega)).mono9 (hr.fin up (by omega) (by omega)) (Int.mul_le_mul_of_nonneg_right (vr_le h) (Int.le_of_lt (p2pos KK)))
end
/-- How far from nought: the ends. -/
theorem abs_eq {a b : Int} (h : SpOk (some (a, b))) : absI (some (a, b)) = some (max 0 (max a (-b)), max b (-a)) ∧ SpOk (some (max 0 (max a (-b)), max b (-a))) := by
  obtain ⟨h1, h2, h3, h4, h5⟩ := h
  constructor
  · show (if _ then _ else _) = _
    by_cases c : 0 ≤ a
    · rw [if_pos c, show max 0 (max a (-b)) = a by omega, show max b (-a) = b by omega]
    · rw [if_neg c]
      by_cases d : b ≤ 0
      · rw [if_pos d, negI_some ⟨h1, h2, h3, h4, h5⟩, show max 0 (max a (-b)) = -b by omega, show max b (-a) = -a by omega]
      · rw [if_neg d, mkI_some (by omega) (by omega) (by omega), show max 0 (max a (-b)) = 0 by omega]
  · exact ⟨by omega, by omega, by omega, by omega, by omega⟩
theorem sqr_eq {a b : Int} (h : SpOk (some (a, b))) : sqrI (some (a, b)) = mkI (mulp false (max 0 (max a (-b))) (max 0 (max a (-b)))) (mulp true (max b (-a)) (max b (-a))) := by
  unfold sqrI
  rw [(abs_eq h).1]
section
variable {r : Bool → Int → Int}
end
end Go.Proofs.YteejbcimmmcnlaaGreatDoor

/-
 Contracts that the proof rests on.
-/
import Derived.Test.YtnbliijpjcmbjaaGreatDoorYPbi
namespace Go.Proofs.YtnbliijpjcmbjaaGreatDoor
set_option maxHeartbeats 8000000
open Go.RowKit
set_option linter.unusedVariables false
set_option linter.unusedSimpArgs false
set_option maxRecDepth 100000
def TabIf (b : Bool) (w : World) : Prop := b = true → Tab w
theorem TabIf.below {b : Bool} {w w' : World} (h : TabIf b w) (hb : Below w.heap.size w w') : TabIf b w' := fun e => (h e).below hb
def OpQ (fid : FuncId) (F0 : Bool → Int → Int → Int) (b : Bool) : Prop := (∀ (args : Array Value) (w : World), (callFunc fid args).run Tryz.prog w = .ok (.enter fid args) w) ∧ ∀ (w : World) (D : Int) (s : Bool) (M E D' : Int) (s' : Bool) (M' E' : Int) (up : Bool) (x y r : Int), TabIf b w → M < 18446744073709551616 → M' < 18446744073709551616 → rk D s M E = x → rk D' s' M' E' = y → F0 up x y = r → Calls Tryz.prog fid #[.agg #[.int .i64 D, .bool s, .int .u64 M, .int .i64 E], .agg #[.int .i64 D', .bool s', .int .u64 M', .int .i64 E'], .bool up] w (PN w r)
theorem fkFour {w : World} {fid : FuncId} {F0 : Bool → Int → Int → Int} {b up : Bool} {g1 g2 g3 : Nat} {K1 M1 E1 K1b M1b E1b K2 M2 E2 K2b M2b E2b : Int} {s1 s1b s2 s2b : Bool} {xa xb ya yb : Int} (hop : OpQ fid F0 b) (hI : TabIf b w) (X1 : Bo w g1 #[.func (.func fid) #[] #[]] 68) (X2 : Bo w g2 #[.bool false, .int .i64 K1, .bool s1, .int .u64 M1, .int .i64 E1, .int .i64 K1b, .bool s1b, .int .u64 M1b, .int .i64 E1b] 26) (X3 : Bo w g3 #[.bool false, .int .i64 K2, .bool s2, .int .u64 M2, .int .i64 E2, .int .i64 K2b, .bool s2b, .int .u64 M2b, .int .i64 E2b] 26)
   (a1 : Fq K1 s1 M1 E1 xa) (b1 : Fq K1b s1b M1b E1b xb) (a2 : Fq K2 s2 M2 E2 ya) (b2 : Fq K2b s2b M2b E2b yb) : Calls Tryz.prog 89 #[.bool up, .pointer (some ⟨g1, 0, none⟩), .pointer (some ⟨g2, 0, none⟩), .pointer (some ⟨g3, 0, none⟩)] w (fun e w' => ∃ A c, e = .returned (.slice A 4 c) ∧ Nl w' A 4 c (four F0 up xa xb ya yb) ∧ Below w.heap.size w w') := by
 obtain ⟨u1, h1⟩ : ∃ u, F0 up xa ya = u := ⟨_, rfl⟩; obtain ⟨u2, h2⟩ : ∃ u, F0 up xa yb = u := ⟨_, rfl⟩; obtain ⟨u3, h3⟩ : ∃ u, F0 up xb ya = u := ⟨_, rfl⟩; obtain ⟨u4, h4⟩ : ∃ u, F0 up xb yb = u := ⟨_, rfl⟩
 have HF : Hid (four F0 up xa xb ya yb = [u1, u2, u3, u4]) := Lib.hid (by unfold four; rw [h1, h2, h3, h4])
 have H1 := Lib.hid h1; have H2 := Lib.hid h2; have H3 := Lib.hid h3; have H4 := Lib.hid h4; have HOP := Lib.hid hop; have HB := Lib.hid (Below.refl w.heap.size w); clear h1 h2 h3 h4 hop
 go_enter Tryz.func89, Tryz.ntmps89
 go_upto_region 1 with (fail)
 refine Jo.rk [0, 1, 2, 3, 4, 5, 6, 7, 8, 9, 10, 11, 12, 13, 14, 15, 16, 17, 18, 19, 20, 21, 22, 23, 24, 25, 26, 27, 28] [some 6, some 7, some 8, some 9, some 10, some 11, some 12, some 13, some 14, some 15, some 16, some 17, some 18, some 19, some 20, some 21, some 22, some 23, some 24, some 25, some 26, some 27, some 28, some 29, some 30, some 31, some 32, some 33, some 34, some 5] [[], [], [1], [], [3], [], [0, 2, 4, 5], [], [], [8], [], [10], [], [7, 9, 11, 12], [], [], [15], [], [17], [], [14, 16, 18, 19], [], [], [22], [], [24], [], [21, 23, 25, 26], [6, 13, 20, 27], []] 30 1 [Jo.Fact.eq (.func (.func fid) #[] #[]), Jo.qp g2 1, Jo.q4 K1 s1 M1 E1, Jo.qp g3 1, Jo.q4 K2 s2 M2 E2, Jo.qb up, Jo.Fact.num u1, Jo.Fact.eq (.func (.func fid) #[] #[]), Jo.qp g2 1, Jo.q4 K1 s1 M1 E1, Jo.qp g3 5, Jo.q4 K2b s2b M2b E2b, Jo.qb up, Jo.Fact.num u2, Jo.Fact.eq (.func (.func fid) #[] #[]), Jo.qp g2 5, Jo.q4 K1b s1b M1b E1b, Jo.qp g3 1, Jo.q4 K2 s2 M2 E2, Jo.qb up, Jo.Fact.num u3, Jo.Fact.eq (.func (.func fid) #[] #[]), Jo.qp g2 5, Jo.q4 K1b s1b M1b E1b, Jo.qp g3 5, Jo.q4 K2b s2b M2b E2b, Jo.qb up, Jo.Fact.num u4, Jo.Fact.nl 4 [u1, u2, u3, u4], Jo.Fact.any] (by kernel_rfl) (by kernel_rfl) (by decide) rfl ?_ ?_
 · refine Jo.jm rfl ?_ ?_
   · rintro wj hJ K hK; simp only [Jo.z] at hK ⊢; have xX10 := (X1.below hJ).a 0 (.func (.func fid) #[] #[]) rfl; go_simp; exact hK.out _ _ rfl (br _ _)
   iterate 5 (refine Jo.jm rfl ?_ ?_; rotate_left)
   refine Jo.jm rfl ?_ ?_
   · rintro wj hJ _ rfl _ rfl _ rfl _ rfl K hK; simp only [Jo.z] at hK ⊢; go_simp; rw [HOP.out.1]; simp only [Oper.upon]; refine (HOP.out.2 _ _ _ _ _ _ _ _ _ _ _ _ _ (hI.below hJ) a1.top a2.top a1.rk a2.rk H1.out).mono ?_; rintro ee wk ⟨K21, s21, M21, E21, rfl, q21, B⟩; exact hK.out _ _ ⟨K21, s21, M21, E21, rfl, q21⟩ B
   refine Jo.jm rfl ?_ ?_
   · rintro wj hJ K hK; simp only [Jo.z] at hK ⊢; have xX10 := (X1.below hJ).a 0 (.func (.func fid) #[] #[]) rfl; go_simp; exact hK.out _ _ rfl (br _ _)
   iterate 5 (refine Jo.jm rfl ?_ ?_; rotate_left)
   refine Jo.jm rfl ?_ ?_
   · rintro wj hJ _ rfl _ rfl _ rfl _ rfl K hK; simp only [Jo.z] at hK ⊢; go_simp; rw [HOP.out.1]; simp only [Oper.upon]; refine (HOP.out.2 _ _ _ _ _ _ _ _ _ _ _ _ _ (hI.below hJ) a1.top b2.top a1.rk b2.rk H2.out).mono ?_; rintro ee wk ⟨K22, s22, M22, E22, rfl, q22, B⟩; exact hK.out _ _ ⟨K22, s22, M22, E22, rfl, q22⟩ B
   refine Jo.jm rfl ?_ ?_
   · rintro wj hJ K hK; simp only [Jo.z] at hK ⊢; have xX10 := (X1.below hJ).a 0 (.func (.func fid) #[] #[]) rfl; go_simp; exact hK.out _ _ rfl (br _ _)
   iterate 5 (refine Jo.jm rfl ?_ ?_; rotate_left)
   refine Jo.jm rfl ?_ ?_
   · rintro wj hJ _ rfl _ rfl _ rfl _ rfl K hK; simp only [Jo.z] at hK ⊢; go_simp; rw [HOP.out.1]; simp only [Oper.upon]; refine (HOP.out.2 _ _ _ _ _ _ _ _ _ _ _ _ _ (hI.below hJ) b1.top a2.top b1.rk a2.rk H3.out).mono ?_; rintro ee wk ⟨K23, s23, M23, E23, rfl, q23, B⟩; exact hK.out _ _ ⟨K23, s23, M23, E23, rfl, q23⟩ B
   refine Jo.jm rfl ?_ ?_
   · rintro wj hJ K hK; simp only [Jo.z] at hK ⊢; have xX10 := (X1.below hJ).a 0 (.func (.func fid) #[] #[]) rfl; go_simp; exact hK.out _ _ rfl (br _ _)
   iterate 5 (refine Jo.jm rfl ?_ ?_; rotate_left)
   refine Jo.jm rfl ?_ ?_
   · rintro wj hJ _ rfl _ rfl _ rfl _ rfl K hK; simp only [Jo.z] at hK ⊢; go_simp; rw [HOP.out.1]; simp only [Oper.upon]; refine (HOP.out.2 _ _ _ _ _ _ _ _ _ _ _ _ _ (hI.below hJ) b1.top b2.top b1.rk b2.rk H4.out).mono ?_; rintro ee wk ⟨K24, s24, M24, E24, rfl, q24, B⟩; exact hK.out _ _ ⟨K24, s24, M24, E24, rfl, q24⟩ B
   refine Jo.jm rfl ?_ ?_
   · rintro wj hJ _ ⟨K21, s21, M21, E21, rfl, q21⟩ _ ⟨K22, s22, M22, E22, rfl, q22⟩ _ ⟨K23, s23, M23, E23, rfl, q23⟩ _ ⟨K24, s24, M24, E24, rfl, q24⟩ K hK; simp only [Jo.z] at hK ⊢; go_simp; exact hK.out _ _ ⟨_, 4, rfl, Nl.of4 (Bo.new _ _ _) q21 q22 q23 q24⟩ (bel1 _ _)
   exact Jo.Steps.nil
   all_goals (rintro wj hJ; (repeat rintro _ rfl); intro K hK; simp only [Jo.z] at hK ⊢; have xX2 := (X2.below hJ).cell; have xX3 := (X3.below hJ).cell; go_simp; exact hK.out _ _ rfl (br _ _))
 rintro w8 hJ _ rfl _ _ _ rfl _ _ _ rfl _ rfl _ ⟨K21, s21, M21, E21, rfl, q21⟩ _ rfl _ _ _ rfl _ _ _ rfl _ rfl _ ⟨K22, s22, M22, E22, rfl, q22⟩ _ rfl _ _ _ rfl _ _ _ rfl _ rfl _ ⟨K23, s23, M23, E23, rfl, q23⟩ _ rfl _ _ _ rfl _ _ _ rfl _ rfl _ ⟨K24, s24, M24, E24, rfl, q24⟩ _ ⟨A9, c9, rfl, h9⟩ -; simp only [Jo.z]; replace X1 := X1.below hJ; replace X2 := X2.below hJ; replace X3 := X3.below hJ; replace hI := hI.below hJ
 replace HB := Hqb HB hJ
 refine Jo.jnext (i := 29) (o := ⟨some 5, _, _, _, _, _⟩) (by kernel_rfl) rfl (fun K hK => ?_)
 go_simp; refine hK.out _ _ ?_; clear hK K; refine Jo.jdone (by kernel_rfl) ?_; go_wp2
 go_ret
 exact ⟨_, _, rfl, HF.out ▸ h9, HB.out⟩
theorem fkOf {w : World} {fid : FuncId} {F0 : Bool → Int → Int → Int} {b : Bool} {K1 M1 E1 K1b M1b E1b K2 M2 E2 K2b M2b E2b : Int} {s1 s1b s2 s2b : Bool} {xa xb ya yb : Int} {z : Sp} (hop : OpQ fid F0 b) (hI : TabIf b w) (v1 : Ci false K1 s1 M1 E1 K1b s1b M1b E1b (some (xa, xb))) (v2 : Ci false K2 s2 M2 E2 K2b s2b M2b E2b (some (ya, yb))) (hF : F0 false xa ya ≤ 19342822337206103650074625 ∧ -19342822337206103650074625 ≤ F0 true xa ya) (hr : cor F0 xa xb ya yb = z) :
   Calls Tryz.prog 62 #[VI false K1 s1 M1 E1 K1b s1b M1b E1b, VI false K2 s2 M2 E2 K2b s2b M2b E2b, .func (.func fid) #[] #[]] w (PV w z) := by
 delta VI
 have hmf : ∀ (fn : Fn) (first cap : Array Value) (w : World), (Instr.makeFunc fn first cap).run Tryz.prog w = .ok (.func fn first cap) w := fun _ _ _ _ => rfl
 obtain ⟨_, a1, b1, o1, o1l, o1h⟩ := v1; obtain ⟨_, a2, b2, o2, o2l, o2h⟩ := v2; rw [← four_cor hF.1 hF.2] at hr; obtain ⟨u, hu⟩ : ∃ u, mnp (four F0 false xa xb ya yb) = u := ⟨_, rfl⟩; obtain ⟨v, hv⟩ : ∃ v, mxp (four F0 true xa xb ya yb) = v := ⟨_, rfl⟩; rw [hu, hv] at hr; have HU := Lib.hid hu; have HV := Lib.hid hv; have HR := Lib.hid hr; have HOP := Lib.hid hop; clear hu hv hr hop hF o1 o1l o1h o2 o2l o2h
 go_enter Tryz.func62, Tryz.ntmps62
 go_upto_region 1 with (fail)
 generalize hW1 : (((w.alloc _).alloc _).alloc _).alloc _ = w1 at *; obtain ⟨X3, X4, X5, XR, HB⟩ := Bo.en4 hW1; replace hI := hI.below HB.out; clear hW1
 go_wp2_with fail
 refine (fkFour HOP.out hI X5 X3 X4 a1 b1 a2 b2).mono ?_; rintro ee w2 ⟨A1, c1, rfl, N1, B⟩; replace X3 := X3.below B; replace X4 := X4.below B; replace X5 := X5.below B; replace XR := XR.below B; replace hI := hI.below B; replace HB := Hqb HB B; clear B
 go_wp2_with fail
 refine (nLeast N1 HU.out).mono ?_; rintro ee w3 ⟨K11, s11, M11, E11, rfl, q11, B⟩; replace X3 := X3.below B; replace X4 := X4.below B; replace X5 := X5.below B; replace XR := XR.below B; replace hI := hI.below B; replace N1 := N1.below B; replace HB := Hqb HB B; clear B; clear N1
 go_wp2_with fail
 refine (fkFour HOP.out hI X5 X3 X4 a1 b1 a2 b2).mono ?_; rintro ee w4 ⟨A2, c2, rfl, N2, B⟩; replace X3 := X3.below B; replace X4 := X4.below B; replace X5 := X5.below B; replace XR := XR.below B; replace hI := hI.below B; replace HB := Hqb HB B; clear B
 go_wp2_with fail
 refine (nMost N2 HV.out).mono ?_; rintro ee w5 ⟨K12, s12, M12, E12, rfl, q12, B⟩; replace X3 := X3.below B; replace X4 := X4.below B; replace X5 := X5.below B; replace XR := XR.below B; replace hI := hI.below B; replace N2 := N2.below B; replace HB := Hqb HB B; clear B; clear N2
 go_wp2_with fail
 refine (kvMake q11.top q12.top q11.rk q12.rk HR.out).mono ?_; rintro ee w6 ⟨e13, K13, s13, M13, E13, K13b, s13b, M13b, E13b, rfl, v13, B⟩; replace X3 := X3.below B; replace X4 := X4.below B; replace X5 := X5.below B; replace XR := XR.below B; replace hI := hI.below B; replace HB := Hqb HB B; clear B; clear hI; clear X5; have xXR := XR.cell
 have zXR0 := XR.frozen; go_wp2; clear xXR zXR0; have SX := StN.mk9 XR (.bool e13) (.int .i64 K13) (.bool s13) (.int .u64 M13) (.int .i64 E13) (.int .i64 K13b) (.bool s13b) (.int .u64 M13b) (.int .i64 E13b); exact bodyPost_ret (by simp [results, Tryz.results62, go_sem, SX.box.cell]) rfl ⟨_, _, _, _, _, _, _, _, _, rfl, v13, (SX.below HB.out (by omega))⟩
theorem opq_mul : OpQ 63 mulp false := ⟨fun _ _ => by first | rfl | kernel_rfl | simp [callFunc, go_sem], fun _ _ _ _ _ _ _ _ _ _ _ _ _ _ hM hM' hx hy hr => aMul hM hM' hx hy hr⟩
theorem fkMul {w : World} {e : Bool} {D M E D' M' E' : Int} {s s' : Bool} {e2 : Bool} {G P Q G' P' Q' : Int} {g g' : Bool} {x y z : Sp} (hM : LQ M) (hM' : LQ M') (hP : LQ P) (hP' : LQ P') (hx : rkI e D s M E D' s' M' E' = x) (hy : rkI e2 G g P Q G' g' P' Q' = y) (hr : mulI x y = z) : Calls Tryz.prog 31 #[VI e D s M E D' s' M' E', VI e2 G g P Q G' g' P' Q'] w (PV w z) := by
 delta VI
 obtain ⟨p, hp⟩ : ∃ p, gone [x, y] = p := ⟨_, rfl⟩; have HP := Lib.hid hp; have HX := Lib.hid hx; have HY := Lib.hid hy; clear hx hy hp
 go_enter Tryz.func31, Tryz.ntmps31
 go_upto_region 1 with (fail)
 generalize hW1 : ((w.alloc _).alloc _).alloc _ = w1 at *; obtain ⟨X2, X3, XR, HB⟩ := Bo.en3 hW1; clear hW1; have xX2 := X2.cell; have xX3 := X3.cell
 go_wp2_with fail
 refine (fkEmpty (Il8.lit2 rfl ⟨hM, hM', HX.out⟩ ⟨hP, hP', HY.out⟩) HP.out).mono ?_; rintro ee w2 ⟨rfl, B⟩; replace B := bt (bel1 _ (.cells #[.bool e, .int .i64 D, .bool s, .int .u64 M, .int .i64 E, .int .i64 D', .bool s', .int .u64 M', .int .i64 E', .bool e2, .int .i64 G, .bool g, .int .u64 P, .int .i64 Q, .int .i64 G', .bool g', .int .u64 P', .int .i64 Q'] 26)) B; clear xX2 xX3
 replace X2 := X2.below B; replace X3 := X3.below B; replace XR := XR.below B; replace HB := Hqb HB B; clear B
 rcases x with _ | ⟨xa, xb⟩
 · obtain rfl : true = p := HP.out
   obtain rfl : none = z := hr
   clear HP
   go_wp2_with fail
   refine (kvNoneE).mono ?_; rintro ee w3 ⟨rfl, B⟩; replace X2 := X2.below B; replace X3 := X3.below B; replace XR := XR.below B; replace HB := Hqb HB B; clear B; have xXR := XR.cell; have zXR0 := XR.frozen; go_wp2; clear xXR zXR0; have SX := StN.mk9 XR (.bool true) (.int .i64 0) (.bool false) (.int .u64 0) (.int .i64 0) (.int .i64 0) (.bool false) (.int .u64 0) (.int .i64 0)
   exact bodyPost_ret (by simp [results, Tryz.results31, go_sem, SX.box.cell]) rfl ⟨_, _, _, _, _, _, _, _, _, rfl, Ci.none, (SX.below HB.out (by omega))⟩
 · rcases y with _ | ⟨ya, yb⟩
   · obtain rfl : true = p := HP.out
     obtain rfl : none = z := hr
     clear HP
     go_wp2_with fail
     refine (kvNoneE).mono ?_; rintro ee w3 ⟨rfl, B⟩; replace X2 := X2.below B; replace X3 := X3.below B; replace XR := XR.below B; replace HB := Hqb HB B; clear B; have xXR := XR.cell; have zXR0 := XR.frozen; go_wp2; clear xXR zXR0; have SX := StN.mk9 XR (.bool true) (.int .i64 0) (.bool false) (.int .u64 0) (.int .i64 0) (.int .i64 0) (.bool false) (.int .u64 0) (.int .i64 0)
     exact bodyPost_ret (by simp [results, Tryz.results31, go_sem, SX.box.cell]) rfl ⟨_, _, _, _, _, _, _, _, _, rfl, Ci.none, (SX.below HB.out (by omega))⟩
   · obtain rfl : false = p := HP.out
     have w1' := ci_some hM hM' HX.out
     have w2' := ci_some hP hP' HY.out
     obtain ⟨rfl, a1, b1, o1, o1l, o1h⟩ := w1'; obtain ⟨rfl, a2, b2, o2, o2l, o2h⟩ := w2'
     have v1 : Ci false D s M E D' s' M' E' (some (xa, xb)) := ⟨rfl, a1, b1, o1, o1l, o1h⟩
     have v2 : Ci false G g P Q G' g' P' Q' (some (ya, yb)) := ⟨rfl, a2, b2, o2, o2l, o2h⟩
     clear HP HX HY
     have HR := Lib.hid (show cor mulp xa xb ya yb = z from hr)
     clear hr o1 o1l o1h o2 o2l o2h; have xX2 := X2.cell; have xX3 := X3.cell
     go_wp2_with fail
     refine (fkOf opq_mul (fun e => by cases e) v1 v2 ⟨(mulp_bd false).2, (mulp_bd true).1⟩ HR.out).mono ?_
     rintro ee w3 ⟨e13, K13, s13, M13, E13, K13b, s13b, M13b, E13b, rfl, v13, B⟩; clear xX2 xX3; replace X2 := X2.below B; replace X3 := X3.below B; replace XR := XR.below B; replace HB := Hqb HB B; clear B; have xXR := XR.cell; have zXR0 := XR.frozen; go_wp2
     clear xXR zXR0; have SX := StN.mk9 XR (.bool e13) (.int .i64 K13) (.bool s13) (.int .u64 M13) (.int .i64 E13) (.int .i64 K13b) (.bool s13b) (.int .u64 M13b) (.int .i64 E13b); exact bodyPost_ret (by simp [results, Tryz.results31, go_sem, SX.box.cell]) rfl ⟨_, _, _, _, _, _, _, _, _, rfl, v13, (SX.below HB.out (by omega))⟩
theorem stk_iff {q d d' : Nat} (h : d = 0 ↔ d' = 0) : stk q d = stk q d' := by
 unfold stk
 by_cases c : d = 0
 · rw [if_pos c, if_pos (h.1 c)]
 · rw [if_neg c, if_neg (fun e => c (h.2 e))]
theorem stk_two (q d : Nat) : stk q d ≤ 2 * q + 1 := by
 unfold stk
 split <;> omega
theorem le_of_blen {a k : Nat} (h0 : 0 < a) (h : k < blen a) : 2 ^ k ≤ a := by
 have h1 := blen_le (n := a) (by omega); exact Nat.le_trans (Nat.pow_le_pow_right (by decide) (by omega)) h1
theorem part_up {α β k : Nat} {e : Int} (hα : 0 < α) (hβ : 0 < β) (hk : (blen β : Int) - (blen α : Int) + 64 = (k : Int)) (ha : blen α ≤ 112000) (hb : blen β ≤ 112000) (e1 : -2200000 ≤ e) (e2 : e ≤ 2200000) (σ up : Bool) :
   Sid up (sgi σ ((α : Int) * 2 ^ (e + KK).toNat)) (β : Int) (rnd up (mk (sgi σ ((stk (α * 2 ^ k / β) (α * 2 ^ k % β) : Nat) : Int)) (e - k - 1)).1 (mk (sgi σ ((stk (α * 2 ^ k / β) (α * 2 ^ k % β) : Nat) : Int)) (e - k - 1)).2) := by
 obtain ⟨κ, hκ⟩ : ∃ κ : Nat, κ = 500000 := ⟨_, rfl⟩
 have la : 0 < blen α := by
   rcases Nat.eq_zero_or_pos (blen α) with c | c
   · have := blen_lt α
     rw [c] at this
     omega
   · exact c
 have hq : 9223372036854775808 ≤ α * 2 ^ k / β := by
   rw [Nat.le_div_iff_mul_le hβ]; have l1 := blen_lt β
   have l2 : 2 ^ 63 * β ≤ 2 ^ 63 * 2 ^ blen β := Nat.mul_le_mul_left _ (Nat.le_of_lt l1)
   have l3 := le_of_blen (k := blen α - 1) hα (by omega)
   have l4 : 2 ^ (blen α - 1) * 2 ^ k ≤ α * 2 ^ k := Nat.mul_le_mul_right _ l3
   rw [← Nat.pow_add] at l2 l4
   rw [show blen α - 1 + k = 63 + blen β by omega] at l4
   omega
 have hs : stk (α * 2 ^ k / β) (α * 2 ^ k % β) < 2 ^ κ := by
   have q1 : α * 2 ^ k / β ≤ α * 2 ^ k := Nat.div_le_self _ _
   have q2 : α * 2 ^ k < 2 ^ blen α * 2 ^ k := Nat.mul_lt_mul_of_pos_right (blen_lt α) (Nat.pow_pos (by decide))
   rw [← Nat.pow_add] at q2; have q3 := stk_two (α * 2 ^ k / β) (α * 2 ^ k % β)
   have q4 : 2 ^ (blen α + k + 1) ≤ 2 ^ κ := Nat.pow_le_pow_right (by decide) (by omega)
   rw [Nat.pow_succ] at q4
   omega
 rw [rnd_sgi]
 exact sid_sgi (quo_side (up != σ) hβ (fun _ => hq) hκ hs (by omega) (by omega))
theorem left_iff {α β k : Nat} : α % (β * 2 ^ k) = 0 ↔ α / 2 ^ k * 2 ^ k = α ∧ α / 2 ^ k % β = 0 := by
 have hp : 0 < 2 ^ k := Nat.pow_pos (by decide)
 constructor
 · intro h
   obtain ⟨t, ht⟩ := Nat.dvd_of_mod_eq_zero h
   have e : α / 2 ^ k = β * t := by
     rw [ht, Nat.mul_right_comm, Nat.mul_div_cancel _ hp]
   rw [e]; refine ⟨?_, Nat.mul_mod_right _ _⟩; rw [ht, Nat.mul_right_comm]
 · rintro ⟨a, b⟩; obtain ⟨t, ht⟩ := Nat.dvd_of_mod_eq_zero b; rw [← a, ht, Nat.mul_right_comm]; exact Nat.mul_mod_right _ _
theorem part_dn {α β k d : Nat} {e : Int} (hα : 0 < α) (hβ : 0 < β) (hk : (blen β : Int) - (blen α : Int) + 64 = -(k : Int)) (ha : blen α ≤ 112000) (e1 : -2200000 ≤ e) (e2 : e ≤ 2200000) (hd : d = 0 ↔ (α / 2 ^ k * 2 ^ k = α ∧ α / 2 ^ k % β = 0)) (σ up : Bool) :
   Sid up (sgi σ ((α : Int) * 2 ^ (e + KK).toNat)) (β : Int) (rnd up (mk (sgi σ ((stk (α / 2 ^ k / β) d : Nat) : Int)) (e + k - 1)).1 (mk (sgi σ ((stk (α / 2 ^ k / β) d : Nat) : Int)) (e + k - 1)).2) := by
 have hKK := KK_eq; obtain ⟨κ, hκ⟩ : ∃ κ : Nat, κ = 500000 := ⟨_, rfl⟩
 have hp : 0 < 2 ^ k := Nat.pow_pos (by decide)
 have hD : 0 < β * 2 ^ k := Nat.mul_pos hβ hp
 have es : stk (α / 2 ^ k / β) d = stk (α / (β * 2 ^ k)) (α % (β * 2 ^ k)) := by
   rw [Nat.div_div_eq_div_mul, Nat.mul_comm (2 ^ k) β]; exact stk_iff (hd.trans left_iff.symm)
 rw [es]
 have hq : 9223372036854775808 ≤ α / (β * 2 ^ k) := by
   rw [Nat.le_div_iff_mul_le hD]; have l1 := blen_lt β
   have l2 : 2 ^ 63 * (β * 2 ^ k) ≤ 2 ^ 63 * (2 ^ blen β * 2 ^ k) := Nat.mul_le_mul_left _ (Nat.mul_le_mul_right _ (Nat.le_of_lt l1))
   have l3 := le_of_blen (k := blen α - 1) hα (by omega); rw [← Nat.pow_add, ← Nat.pow_add] at l2
   rw [show blen α - 1 = 63 + (blen β + k) by omega] at l3
   omega
 have hs : stk (α / (β * 2 ^ k)) (α % (β * 2 ^ k)) < 2 ^ κ := by
   have q1 : α / (β * 2 ^ k) ≤ α := Nat.div_le_self _ _
   have q2 := blen_lt α; have q3 := stk_two (α / (β * 2 ^ k)) (α % (β * 2 ^ k))
   have q4 : 2 ^ (blen α + 1) ≤ 2 ^ κ := Nat.pow_le_pow_right (by decide) (by omega)
   rw [Nat.pow_succ] at q4
   omega
 have h := quo_side (α := α) (β := β * 2 ^ k) (e := e + k) (n := 0) (up != σ) hD (fun _ => by rw [Nat.pow_zero, Nat.mul_one]; exact hq) hκ (by rw [Nat.pow_zero, Nat.mul_one]; exact hs) (by omega) (by omega)
 rw [Nat.pow_zero, Nat.mul_one, show e + (k : Int) - ((0 : Nat) : Int) - 1 = e + k - 1 by omega] at h
 rw [rnd_sgi]; refine sid_sgi (h.cross (by omega) (by omega) ?_)
 have e3 : (e + (k : Int) + (KK : Int)).toNat = (e + (KK : Int)).toNat + k := by omega
 rw [e3, Int.pow_add]
 push_cast
 generalize (2 : Int) ^ (e + (KK : Int)).toNat = U; generalize (2 : Int) ^ k = V; rw [Int.mul_assoc, Int.mul_assoc, Int.mul_assoc, Int.mul_comm V (β : Int)]
theorem part_root {N n S : Nat} {e f : Int} (h0 : 9223372036854775808 ≤ N) (h1 : N < 18446744073709551616) (hn : n = 64 ∨ n = 65) (hf : 2 * f = e - n) (hS : rt (N * 2 ^ n) = S) (e1 : -2200000 ≤ e) (e2 : e ≤ 2200000) (up : Bool) :
   Rt up ((N : Int) * 2 ^ (e + 2 * KK).toNat) (rnd up (mk ((stk S (N * 2 ^ n - S * S) : Nat) : Int) (f - 1)).1 (mk ((stk S (N * 2 ^ n - S * S) : Nat) : Int) (f - 1)).2) := by
 obtain ⟨κ, hκ⟩ : ∃ κ : Nat, κ = 500000 := ⟨_, rfl⟩; have hsp := rt_spec (N * 2 ^ n); rw [hS] at hsp
 have lo_ : 2 ^ 126 ≤ N * 2 ^ n := by
   have : 2 ^ 63 * 2 ^ 64 ≤ N * 2 ^ n := Nat.mul_le_mul h0 (Nat.pow_le_pow_right (by decide) (by omega))
   omega
 have hi_ : N * 2 ^ n < 2 ^ 129 := by
   have : N * 2 ^ n < 2 ^ 64 * 2 ^ n := Nat.mul_lt_mul_of_pos_right h1 (Nat.pow_pos (by decide))
   rw [← Nat.pow_add] at this; exact Nat.lt_of_lt_of_le this (Nat.pow_le_pow_right (by decide) (by omega))
 have hb : 9223372036854775808 ≤ S := by
   rcases Nat.lt_or_ge S 9223372036854775808 with c | c
   · exfalso
     have h2 : (S + 1) * (S + 1) ≤ 2 ^ 63 * 2 ^ 63 := Nat.mul_le_mul (by omega) (by omega)
     omega
   · exact c
 have hSX : S ≤ S * S := Nat.le_mul_of_pos_right S (by omega)
 have hst : stk S (N * 2 ^ n - S * S) < 2 ^ κ := by
   have q3 := stk_two S (N * 2 ^ n - S * S)
   have q4 : 2 ^ 131 ≤ 2 ^ κ := Nat.pow_le_pow_right (by decide) (by omega)
   omega
 exact root_side (N := N) (e := e) up (by omega) hsp.2 hb hf hκ hst (by omega) (by omega) (by omega) (by omega)
def Pk (w : World) (A : Option Addr) (n c : Nat) (t : Bool) (x : Int) (P : Bool → Bool → Int → Prop) : Prop :=
 ∃ q d : Nat, Nm w A n c q ∧ n ≤ 20000 ∧ decide (d = 0) = t ∧ -3000000 ≤ x ∧ x ≤ 3000000 ∧ ∀ σ up, P σ up (rnd up (mk (sgi σ ((stk q d : Nat) : Int)) (x - 1)).1 (mk (sgi σ ((stk q d : Nat) : Int)) (x - 1)).2)
theorem Pk.below {w w' : World} {A : Option Addr} {n c : Nat} {t : Bool} {x : Int} {P : Bool → Bool → Int → Prop} (h : Pk w A n c t x P) (b : Below w.heap.size w w') : Pk w' A n c t x P := by
 obtain ⟨q, d, h1, h2⟩ := h; exact ⟨q, d, h1.below b, h2⟩
def PP7 (w : World) (P : Bool → Bool → Int → Prop) (e : Ending) (w' : World) : Prop := ∃ A n c t x, e = .returned (.agg #[.slice A n c, .bool t, .int .i64 x]) ∧ Pk w' A n c t x P ∧ Below w.heap.size w w'
def Jo.Fact.pk (P : Bool → Bool → Int → Prop) : Jo.Fact := ⟨fun v w => ∃ A n c t x, v = .agg #[.slice A n c, .bool t, .int .i64 x] ∧ Pk w A n c t x P, fun v w w' h b => by
 obtain ⟨A, n, c, t, x, e, p⟩ := h; exact ⟨A, n, c, t, x, e, p.below b⟩⟩
def PQ7 (w : World) (Q : Nat) (t : Bool) (x : Int) (e : Ending) (w' : World) : Prop := ∃ A n c, e = .returned (.agg #[.slice A n c, .bool t, .int .i64 x]) ∧ Nm w' A n c Q ∧ n ≤ 20000 ∧ Below w.heap.size w w'
def MV (α : Nat) (z : Int) (T : Nat) (t : Bool) : Prop := ∀ (w : World) (A : Option Addr) (n c : Nat), Rd w A n c α → n ≤ 8000 → Calls Tryz.prog 160 #[.slice A n c, .int .i64 z] w (P1B w 15000 T t)
theorem qdivided_e {w : World} {A B : Option Addr} {n c m d α β T Q R : Nat} {La Lb z e x : Int} (ha : Rd w A n c α) (hb : Rd w B m d β) (hn : n ≤ 8000) (hβ : β ≠ 0) (hla : ((blen α : Nat) : Int) = La) (hlb : ((blen β : Nat) : Int) = Lb) (hz : Lb - La + 64 = z) (z1 : -200000 ≤ z) (z2 : z ≤ 200000) (hx : e - z = x) (x1 : -3000000 ≤ x) (x2 : x ≤ 2097152)
   (hm : MV α z T true) (hQ : T / β = Q) (hR : T % β = R) (h0 : R = 0) : Calls Tryz.prog 134 #[.slice A n c, .slice B m d, .int .i64 e] w (PQ7 w Q true x) := by
 have HM := Lib.hid hm; have HLA := Lib.hid hla; have HLB := Lib.hid hlb; have HQ := Lib.hid hQ; have HRR := Lib.hid hR; have H0 := Lib.hid h0; have HB0 := Lib.hid hβ
 have e0 : Lb - La = z - 64 := by omega
 have HW1 : Hid (IntKind.i64.wrap (Lb - La) = z - 64) := Lib.hid (by rw [e0]; exact IntWalk.i64_in _ (by omega))
 have HW2 : Hid (wrap64 z = z) := Lib.hid (IntWalk.wrap64_in _ (by omega))
 have HW4 : Hid (wrap64 x = x) := Lib.hid (IntWalk.wrap64_in _ (by omega))
 have HW3 : Hid (IntKind.i64.wrap (e - z) = x) := Lib.hid (by rw [hx]; exact IntWalk.i64_in _ (by omega))
 have hz3 : z ≤ 2097152 := by omega
 have HMZ : Hid (min z 2097152 = z) := Lib.hid (by omega)
 have HMX : Hid (min x 2097152 = x) := Lib.hid (by omega)
 clear hm hla hlb hz e0 hx hQ hR h0 hβ z1 z2 x1
 go_enter Tryz.func134, Tryz.ntmps134
 go_upto_region 1 with (fail)
 generalize hW1 : w.alloc _ = w1 at *; obtain ⟨XR, HB⟩ := Bo.en1 hW1; replace ha := ha.below HB.out; replace hb := hb.below HB.out; clear hW1
 go_wp2_with fail
 refine (vLenE hb HLB.out).mono ?_; rintro ee w2 ⟨rfl, B⟩; replace XR := XR.below B; replace ha := ha.below B; replace hb := hb.below B; replace HB := Hqb HB B; clear B
 go_wp2_with fail
 refine (vLenE ha HLA.out).mono ?_; rintro ee w3 ⟨rfl, B⟩; replace XR := XR.below B; replace ha := ha.below B; replace hb := hb.below B; replace HB := Hqb HB B; clear B; have hw1 := HW1.out; have hw2 := HW2.out; have hmz := HMZ.out
 go_wp2_with fail
 refine (HM.out _ _ _ _ ha hn).mono ?_; rintro ee w4 ⟨A4, n4, c4, rfl, p4, k4, B⟩; replace XR := XR.below B; replace ha := ha.below B; replace hb := hb.below B; replace HB := Hqb HB B; clear B; clear hw1 hw2 hmz
 go_wp2_with fail
 refine (vDivE p4.rd hb (by omega) HB0.out HQ.out HRR.out).mono ?_; rintro ee w5 ⟨A5, n5, c5, B5, m5, d5, rfl, p5, r5, k5, l5, B⟩; replace XR := XR.below B; replace hb := hb.below B; replace p4 := p4.below B; replace HB := Hqb HB B; clear B; clear hb p4
 obtain rfl : m5 = 0 := by have := r5.pos; have := H0.out; omega
 clear r5 H0; have hw3 := HW3.out; have hmx := HMX.out; have xXR := XR.cell; have zXR0 := XR.frozen; go_wp2; clear xXR zXR0; have SX := StN.mk3 XR (.slice A5 n5 c5) (.bool true) (.int .i64 x); replace p5 := p5.stn SX (by simp [no32]); exact bodyPost_ret (v := .agg #[.slice A5 n5 c5, .bool true, .int .i64 x]) (by simp [results, Tryz.results134, go_sem, SX.box.cell]) rfl ⟨A5, n5, c5, rfl, p5, by omega, (SX.below HB.out (by omega))⟩
theorem qdivided_l {w : World} {A B : Option Addr} {n c m d α β T Q R : Nat} {La Lb z e x : Int} (ha : Rd w A n c α) (hb : Rd w B m d β) (hn : n ≤ 8000) (hβ : β ≠ 0) (hla : ((blen α : Nat) : Int) = La) (hlb : ((blen β : Nat) : Int) = Lb) (hz : Lb - La + 64 = z) (z1 : -200000 ≤ z) (z2 : z ≤ 200000) (hx : e - z = x) (x1 : -3000000 ≤ x) (x2 : x ≤ 2097152)
   (hm : MV α z T true) (hQ : T / β = Q) (hR : T % β = R) (h0 : R ≠ 0) : Calls Tryz.prog 134 #[.slice A n c, .slice B m d, .int .i64 e] w (PQ7 w Q false x) := by
 have HM := Lib.hid hm; have HLA := Lib.hid hla; have HLB := Lib.hid hlb; have HQ := Lib.hid hQ; have HRR := Lib.hid hR; have H0 := Lib.hid h0; have HB0 := Lib.hid hβ
 have e0 : Lb - La = z - 64 := by omega
 have HW1 : Hid (IntKind.i64.wrap (Lb - La) = z - 64) := Lib.hid (by rw [e0]; exact IntWalk.i64_in _ (by omega))
 have HW2 : Hid (wrap64 z = z) := Lib.hid (IntWalk.wrap64_in _ (by omega))
 have HW4 : Hid (wrap64 x = x) := Lib.hid (IntWalk.wrap64_in _ (by omega))
 have HW3 : Hid (IntKind.i64.wrap (e - z) = x) := Lib.hid (by rw [hx]; exact IntWalk.i64_in _ (by omega))
 have hz3 : z ≤ 2097152 := by omega
 have HMZ : Hid (min z 2097152 = z) := Lib.hid (by omega)
 have HMX : Hid (min x 2097152 = x) := Lib.hid (by omega)
 clear hm hla hlb hz e0 hx hQ hR h0 hβ z1 z2 x1
 go_enter Tryz.func134, Tryz.ntmps134
 go_upto_region 1 with (fail)
 generalize hW1 : w.alloc _ = w1 at *; obtain ⟨XR, HB⟩ := Bo.en1 hW1; replace ha := ha.below HB.out; replace hb := hb.below HB.out; clear hW1
 go_wp2_with fail
 refine (vLenE hb HLB.out).mono ?_; rintro ee w2 ⟨rfl, B⟩; replace XR := XR.below B; replace ha := ha.below B; replace hb := hb.below B; replace HB := Hqb HB B; clear B
 go_wp2_with fail
 refine (vLenE ha HLA.out).mono ?_; rintro ee w3 ⟨rfl, B⟩; replace XR := XR.below B; replace ha := ha.below B; replace hb := hb.below B; replace HB := Hqb HB B; clear B; have hw1 := HW1.out; have hw2 := HW2.out; have hmz := HMZ.out
 go_wp2_with fail
 refine (HM.out _ _ _ _ ha hn).mono ?_; rintro ee w4 ⟨A4, n4, c4, rfl, p4, k4, B⟩; replace XR := XR.below B; replace ha := ha.below B; replace hb := hb.below B; replace HB := Hqb HB B; clear B; clear hw1 hw2 hmz
 go_wp2_with fail
 refine (vDivE p4.rd hb (by omega) HB0.out HQ.out HRR.out).mono ?_; rintro ee w5 ⟨A5, n5, c5, B5, m5, d5, rfl, p5, r5, k5, l5, B⟩; replace XR := XR.below B; replace hb := hb.below B; replace p4 := p4.below B; replace HB := Hqb HB B; clear B; clear hb p4
 have hne : ((m5 : Int) == 0) = false := by
   have := r5.pos
   have := H0.out
   have : (m5 : Int) ≠ 0 := by omega
   simpa using this
 have hne2 : ¬ m5 = 0 := by have := r5.pos; have := H0.out; omega
 clear r5 H0; have hw3 := HW3.out; have hmx := HMX.out; have xXR := XR.cell; have zXR0 := XR.frozen; go_wp2; clear xXR zXR0; have SX := StN.mk3 XR (.slice A5 n5 c5) (.bool false) (.int .i64 x); replace p5 := p5.stn SX (by simp [no32]); exact bodyPost_ret (v := .agg #[.slice A5 n5 c5, .bool false, .int .i64 x]) (by simp [results, Tryz.results134, go_sem, SX.box.cell]) rfl ⟨A5, n5, c5, rfl, p5, by omega, (SX.below HB.out (by omega))⟩
theorem qdivided_n {w : World} {A B : Option Addr} {n c m d α β T Q R : Nat} {La Lb z e x : Int} (ha : Rd w A n c α) (hb : Rd w B m d β) (hn : n ≤ 8000) (hβ : β ≠ 0) (hla : ((blen α : Nat) : Int) = La) (hlb : ((blen β : Nat) : Int) = Lb) (hz : Lb - La + 64 = z) (z1 : -200000 ≤ z) (z2 : z ≤ 200000) (hx : e - z = x) (x1 : -3000000 ≤ x) (x2 : x ≤ 2097152)
   (hm : MV α z T false) (hQ : T / β = Q) (hR : T % β = R) (h0 : True) : Calls Tryz.prog 134 #[.slice A n c, .slice B m d, .int .i64 e] w (PQ7 w Q false x) := by
 have HM := Lib.hid hm; have HLA := Lib.hid hla; have HLB := Lib.hid hlb; have HQ := Lib.hid hQ; have HRR := Lib.hid hR; have H0 := Lib.hid h0; have HB0 := Lib.hid hβ
 have e0 : Lb - La = z - 64 := by omega
 have HW1 : Hid (IntKind.i64.wrap (Lb - La) = z - 64) := Lib.hid (by rw [e0]; exact IntWalk.i64_in _ (by omega))
 have HW2 : Hid (wrap64 z = z) := Lib.hid (IntWalk.wrap64_in _ (by omega))
 have HW4 : Hid (wrap64 x = x) := Lib.hid (IntWalk.wrap64_in _ (by omega))
 have HW3 : Hid (IntKind.i64.wrap (e - z) = x) := Lib.hid (by rw [hx]; exact IntWalk.i64_in _ (by omega))
 have hz3 : z ≤ 2097152 := by omega
 have HMZ : Hid (min z 2097152 = z) := Lib.hid (by omega)
 have HMX : Hid (min x 2097152 = x) := Lib.hid (by omega)
 clear hm hla hlb hz e0 hx hQ hR h0 hβ z1 z2 x1
 go_enter Tryz.func134, Tryz.ntmps134
 go_upto_region 1 with (fail)
 generalize hW1 : w.alloc _ = w1 at *; obtain ⟨XR, HB⟩ := Bo.en1 hW1; replace ha := ha.below HB.out; replace hb := hb.below HB.out; clear hW1
 go_wp2_with fail
 refine (vLenE hb HLB.out).mono ?_; rintro ee w2 ⟨rfl, B⟩; replace XR := XR.below B; replace ha := ha.below B; replace hb := hb.below B; replace HB := Hqb HB B; clear B
 go_wp2_with fail
 refine (vLenE ha HLA.out).mono ?_; rintro ee w3 ⟨rfl, B⟩; replace XR := XR.below B; replace ha := ha.below B; replace hb := hb.below B; replace HB := Hqb HB B; clear B; have hw1 := HW1.out; have hw2 := HW2.out; have hmz := HMZ.out
 go_wp2_with fail
 refine (HM.out _ _ _ _ ha hn).mono ?_; rintro ee w4 ⟨A4, n4, c4, rfl, p4, k4, B⟩; replace XR := XR.below B; replace ha := ha.below B; replace hb := hb.below B; replace HB := Hqb HB B; clear B; clear hw1 hw2 hmz
 go_wp2_with fail
 refine (vDivE p4.rd hb (by omega) HB0.out HQ.out HRR.out).mono ?_; rintro ee w5 ⟨A5, n5, c5, B5, m5, d5, rfl, p5, r5, k5, l5, B⟩; replace XR := XR.below B; replace hb := hb.below B; replace p4 := p4.below B; replace HB := Hqb HB B; clear B; clear hb p4; clear r5 H0; have hw3 := HW3.out; have hmx := HMX.out; have xXR := XR.cell; have zXR0 := XR.frozen; go_wp2; clear xXR zXR0
 have SX := StN.mk3 XR (.slice A5 n5 c5) (.bool false) (.int .i64 x); replace p5 := p5.stn SX (by simp [no32]); exact bodyPost_ret (v := .agg #[.slice A5 n5 c5, .bool false, .int .i64 x]) (by simp [results, Tryz.results134, go_sem, SX.box.cell]) rfl ⟨A5, n5, c5, rfl, p5, by omega, (SX.below HB.out (by omega))⟩
theorem moved_up {α k : Nat} (hk : k ≤ 200000) : MV α (k : Int) (α * 2 ^ k) true := fun w A n c h hn => qmoved_up h hn hk rfl
theorem moved_dn {α k : Nat} {z : Int} (h0 : 0 < k) (hk : k ≤ 200000) (hz : -z = (k : Int)) : MV α z (α / 2 ^ k) (decide (α / 2 ^ k * 2 ^ k = α)) := fun w A n c h hn => by
 refine qmoved_dn h hn hk h0 hz rfl rfl rfl ?_
 by_cases c : α / 2 ^ k * 2 ^ k = α
 · rw [decide_eq_true c, c, cmpI_self]
   rfl
 · rw [decide_eq_false c]
   have : ¬ cmpI ((α / 2 ^ k * 2 ^ k : Nat) : Int) (α : Int) = 0 := fun e => c (by have := cmpI_zero.1 e; omega)
   simpa using this
theorem qDivided {w : World} {A B : Option Addr} {n c m d α β : Nat} {e : Int} {P : Bool → Bool → Int → Prop} (ha : Rd w A n c α) (hb : Rd w B m d β) (hn : n ≤ 3500) (hm : m ≤ 3500) (hα : 0 < α) (hβ : 0 < β) (e1 : -2200000 ≤ e) (e2 : e ≤ 2200000) (e3 : e - ((blen β : Int) - (blen α : Int) + 64) ≤ 2097152)
   (hP : ∀ σ up r, Sid up (sgi σ ((α : Int) * 2 ^ (e + (KK : Int)).toNat)) (β : Int) r → P σ up r) : Calls Tryz.prog 134 #[.slice A n c, .slice B m d, .int .i64 e] w (PP7 w P) := by
 have hba := ha.blen_le; have hbb := hb.blen_le; obtain ⟨z, hz⟩ : ∃ z : Int, (blen β : Int) - (blen α : Int) + 64 = z := ⟨_, rfl⟩; rw [hz] at e3
 have hn0 : β ≠ 0 := by omega
 have fin : ∀ {Q D : Nat} {t t' : Bool}, t' = t → decide (D = 0) = t → (∀ σ up, Sid up (sgi σ ((α : Int) * 2 ^ (e + (KK : Int)).toNat)) (β : Int) (rnd up (mk (sgi σ ((stk Q D : Nat) : Int)) (e - z - 1)).1 (mk (sgi σ ((stk Q D : Nat) : Int)) (e - z - 1)).2)) → ∀ ee w', PQ7 w Q t' (e - z) ee w' → PP7 w P ee w' := by
   rintro Q D t t' rfl ht hs ee w' ⟨A', n', c', he, hnm, hk, hb'⟩
   exact ⟨A', n', c', t', e - z, he, ⟨Q, D, hnm, hk, ht, by omega, by omega, fun σ up => hP σ up _ (hs σ up)⟩, hb'⟩
 rcases Int.lt_or_le z 0 with c0 | c0
 · obtain ⟨k, hk⟩ : ∃ k : Nat, z = -(k : Int) := ⟨z.natAbs, by omega⟩
   have mv := moved_dn (α := α) (k := k) (z := z) (by omega) (by omega) (by omega)
   have hs := fun {D} (hd : D = 0 ↔ (α / 2 ^ k * 2 ^ k = α ∧ α / 2 ^ k % β = 0)) (σ up : Bool) => part_dn (e := e) (d := D) hα hβ (by omega) (by omega) e1 e2 hd σ up
   have ez : e + (k : Int) - 1 = e - z - 1 := by omega
   rw [ez] at hs
   by_cases h1 : α / 2 ^ k * 2 ^ k = α
   · rw [decide_eq_true h1] at mv
     by_cases h2 : α / 2 ^ k % β = 0
     · exact (qdivided_e ha hb (by omega) hn0 rfl rfl hz (by omega) (by omega) rfl (by omega) e3 mv rfl rfl h2).mono (fin (D := 0) rfl rfl (hs ⟨fun _ => ⟨h1, h2⟩, fun _ => rfl⟩))
     · exact (qdivided_l ha hb (by omega) hn0 rfl rfl hz (by omega) (by omega) rfl (by omega) e3 mv rfl rfl h2).mono (fin (D := 1) rfl rfl (hs ⟨fun h => absurd h (by decide), fun h => absurd h.2 h2⟩))
   · rw [decide_eq_false h1] at mv
     exact (qdivided_n ha hb (by omega) hn0 rfl rfl hz (by omega) (by omega) rfl (by omega) e3 mv rfl rfl trivial).mono (fin (D := 1) rfl rfl (hs ⟨fun h => absurd h (by decide), fun h => absurd h.1 h1⟩))
 · obtain ⟨k, rfl⟩ : ∃ k : Nat, z = (k : Int) := ⟨z.toNat, by omega⟩
   have mv := moved_up (α := α) (k := k) (by omega); have hs := part_up (e := e) hα hβ hz (by omega) (by omega) e1 e2
   by_cases h2 : α * 2 ^ k % β = 0
   · exact (qdivided_e ha hb (by omega) hn0 rfl rfl hz (by omega) (by omega) rfl (by omega) e3 mv rfl rfl h2).mono (fin rfl (decide_eq_true h2) hs)
   · exact (qdivided_l ha hb (by omega) hn0 rfl rfl hz (by omega) (by omega) rfl (by omega) e3 mv rfl rfl h2).mono (fin rfl (decide_eq_false h2) hs)
theorem and_one (e : Int) : bits .and .i64 e 1 = e % 2 := by
 have h1 : (BitVec.ofInt IntKind.i64.bits e &&& BitVec.ofInt IntKind.i64.bits 1).toNat = (e % 18446744073709551616).toNat % 2 := by
   rw [BitVec.toNat_and, BitVec.toNat_ofInt, BitVec.toNat_ofInt, show (1 % ((2 ^ IntKind.i64.bits : Nat) : Int)).toNat = 1 by decide, Nat.and_one_is_mod]
   rfl
 show IntKind.i64.wrap ((BitVec.ofInt IntKind.i64.bits e &&& BitVec.ofInt IntKind.i64.bits 1).toNat : Int) = e % 2
 rw [h1, IntWalk.i64_in _ (by omega)]
 omega
theorem qroot_w {w : World} {A : Option Addr} {n c N k X S : Nat} {e b f : Int} {t : Bool} (ha : Rd w A n c N) (hn : n ≤ 8000) (hb : e % 2 = b) (hk : 64 + b = (k : Int)) (hX : N * 2 ^ k = X) (hS : rt X = S) (ht : decide (S * S = X) = t) (hf : 2 * f = e - k) (e1 : -2200000 ≤ e) (e2 : e ≤ 2200000) : Calls Tryz.prog 111 #[.slice A n c, .int .i64 e] w (PQ7 w S t f) := by
 have HX := Lib.hid hX; have HS := Lib.hid hS; have HT := Lib.hid ht
 have hb2 : 0 ≤ b ∧ b ≤ 1 := by omega
 have HW0 : Hid (bits .and .i64 e 1 = b) := Lib.hid (by rw [and_one]; exact hb)
 have HW1 : Hid (wrap64 (64 + b) = (k : Int)) := Lib.hid (by rw [hk]; exact IntWalk.wrap64_in _ (by omega))
 have HW2 : Hid (IntKind.i64.wrap (e - (k : Int)) = 2 * f) := Lib.hid (by rw [← hf]; exact IntWalk.i64_in _ (by omega))
 have HW5 : Hid (wrap64 f = f) := Lib.hid (IntWalk.wrap64_in _ (by omega))
 have HW3 : Hid (Int.tdiv (2 * f) 2 = f) := Lib.hid (by rw [Int.mul_comm]; exact Int.mul_tdiv_cancel _ (by decide))
 have HW4 : Hid (IntKind.i64.wrap f = f) := Lib.hid (IntWalk.i64_in _ (by omega))
 have hk2 : k ≤ 65 := by omega
 clear hX hS ht hb hk hf e1 e2 hb2
 go_enter Tryz.func111, Tryz.ntmps111
 go_upto_region 1 with (fail)
 generalize hW1 : w.alloc _ = w1 at *; obtain ⟨XR, HB⟩ := Bo.en1 hW1; replace ha := ha.below HB.out; clear hW1; have hw0 := HW0.out; have hw1 := HW1.out
 go_wp2_with fail
 refine (vShlE ha (by omega) (by omega) HX.out).mono ?_; rintro ee w4 ⟨A4, n4, c4, rfl, p4, k4, B⟩; replace XR := XR.below B; replace ha := ha.below B; replace HB := Hqb HB B; clear B
 go_wp2_with fail
 refine (vRootE p4.rd (by omega) HS.out HT.out).mono ?_; rintro ee w5 ⟨A5, n5, c5, rfl, p5, k5, B⟩; replace XR := XR.below B; replace p4 := p4.below B; replace HB := Hqb HB B; clear B; clear p4; have hw2 := HW2.out; have hw3 := HW3.out; have hw4 := HW4.out; have hw5 := HW5.out; have xXR := XR.cell; have zXR0 := XR.frozen; go_wp2; clear xXR zXR0; have SX := StN.mk3 XR (.slice A5 n5 c5) (.bool t) (.int .i64 f)
 replace p5 := p5.stn SX (by simp [no32]); exact bodyPost_ret (v := .agg #[.slice A5 n5 c5, .bool t, .int .i64 f]) (by simp [results, Tryz.results111, go_sem, SX.box.cell]) rfl ⟨A5, n5, c5, rfl, p5, by omega, (SX.below HB.out (by omega))⟩
theorem qRoot0 {w : World} {A : Option Addr} {n c N : Nat} {e : Int} {P : Bool → Bool → Int → Prop} (ha : Rd w A n c N) (hn : n ≤ 8000) (h0 : 9223372036854775808 ≤ N) (h1 : N < 18446744073709551616) (e1 : -2200000 ≤ e) (e2 : e ≤ 2200000)
   (hP : ∀ up r, Rt up ((N : Int) * 2 ^ (e + 2 * (KK : Int)).toNat) r → P false up r) (hQ : ∀ up r, P true up r) : Calls Tryz.prog 111 #[.slice A n c, .int .i64 e] w (PP7 w P) := by
 obtain ⟨k, hk⟩ : ∃ k : Nat, 64 + e % 2 = (k : Int) := ⟨(64 + e % 2).toNat, by omega⟩
 obtain ⟨f, hf⟩ : ∃ f : Int, 2 * f = e - k := ⟨(e - k) / 2, by omega⟩
 refine (qroot_w ha hn rfl hk rfl rfl rfl hf e1 e2).mono ?_; rintro ee w' ⟨A', n', c', he, hnm, hk', hb'⟩; have hsp := rt_spec (N * 2 ^ k)
 have hd : decide (N * 2 ^ k - rt (N * 2 ^ k) * rt (N * 2 ^ k) = 0) = decide (rt (N * 2 ^ k) * rt (N * 2 ^ k) = N * 2 ^ k) := by
   have := hsp.1
   by_cases c : rt (N * 2 ^ k) * rt (N * 2 ^ k) = N * 2 ^ k
   · rw [decide_eq_true c, c, Nat.sub_self]
     rfl
   · rw [decide_eq_false c]; exact decide_eq_false (by omega)
 refine ⟨A', n', c', _, f, he, ⟨_, _, hnm, hk', hd, by omega, by omega, fun σ up => ?_⟩, hb'⟩
 cases σ
 · rw [wsg_f]; exact hP up _ (part_root h0 h1 (by omega) hf rfl e1 e2 up)
 · exact hQ up _
theorem stk_zero7 (q : Nat) : stk q 0 = q * 2 ^ 1 := by
 unfold stk
 rw [if_pos rfl]
 omega
theorem stk_one7 {q r : Nat} (h : r ≠ 0) : stk q r = q * 2 ^ 1 + 1 := by
 unfold stk
 rw [if_neg h]
 omega
theorem sg_sgi7 (s : Bool) (a : Nat) : sg s a = sgi s (a : Int) := by
 cases s
 · rw [sg_false, wsg_f]
 · rw [sg_true, wsg_t]
theorem lit_one7 (W : World) : Rd (W.alloc (.cells #[.int .u32 1] 104)) (some ⟨W.heap.size, 0, none⟩) 1 1 1 :=
 ⟨_, [1], (Own.new W [1]).all (Lim.cons (by decide) Lim.nil) (by simp) (Nat.le_refl _), by decide⟩
theorem qround_e {w : World} {A : Option Addr} {n c q a0 a : Nat} {x r : Int} {σ up : Bool} (hT : Tab w) (h : Nm w A n c q) (hn : n ≤ 20000) (h0 : q * 2 ^ 1 = a0) (h1 : a0 = a) (x1 : -3000000 ≤ x) (x2 : x ≤ 3000000) (hr : rnd up (mk (sg σ a) (x - 1)).1 (mk (sg σ a) (x - 1)).2 = r) : Calls Tryz.prog 113 #[.agg #[.slice A n c, .bool true, .int .i64 x], .bool σ, .bool up] w (PN w r) := by
 have HA := Lib.hid h0; have H1 := Lib.hid h1; have HR := Lib.hid hr
 have HW : Hid (IntKind.i64.wrap (x - 1) = x - 1) := Lib.hid (IntWalk.i64_in _ (by omega))
 clear h0 h1 hr x1 x2
 go_enter Tryz.func113, Tryz.ntmps113
 go_upto_region 1 with (fail)
 generalize hW1 : (w.alloc _).alloc _ = w1 at *; obtain ⟨X3, XR, HB⟩ := Bo.en2 hW1; replace hT := hT.below HB.out; replace h := h.below HB.out; clear hW1; have xX3 := X3.cell
 go_wp2_with fail
 refine (vShlE (s := 1) h.rd (by omega) (by decide) HA.out).mono ?_; rintro ee w2 ⟨A2, n2, c2, rfl, p2, k2, B⟩; clear xX3; replace X3 := X3.below B; replace XR := XR.below B; replace hT := hT.below B; replace h := h.below B; replace HB := Hqb HB B; clear B; clear h
 obtain rfl := H1.out
 have xX3 := X3.cell
 go_upto_region 4 with (fail)
 clear xX3; refine Jo.rk [0, 1, 2, 3, 4, 5, 6, 7, 8] [some 17, some 18, some 19, some 20, some 21, some 22, some 23, some 24, some 25, none] [[], [], [0, 1], [], [3], [4], [2, 5], [], [6, 7], []] 10 1 [Jo.qb σ, Jo.Fact.eq (.slice A2 n2 c2), Jo.Fact.wn (sg σ a0) 30000, Jo.qp w.heap.size 2, Jo.qi x, Jo.Fact.eq (.int .i64 (x - 1)), Jo.Fact.dy (sg σ a0) (x - 1) 30000, Jo.qb up, Jo.Fact.num r, Jo.Fact.any] (by kernel_rfl) (by kernel_rfl) (by decide) rfl ?_ ?_
 · iterate 2 (refine Jo.jm rfl ?_ ?_; rotate_left)
   refine Jo.jm rfl ?_ ?_
   · rintro wj hJ _ rfl _ rfl K hK; simp only [Jo.z] at hK ⊢; go_simp; refine (wMake σ (p2.below hJ).rd).mono ?_; rintro ee wk ⟨s7, A7, n7, c7, rfl, p7, k7, B⟩; exact hK.out _ _ ⟨s7, A7, n7, c7, rfl, p7, by omega⟩ B
   refine Jo.jm rfl ?_ ?_; rotate_left
   refine Jo.jm rfl ?_ ?_
   · rintro wj hJ _ rfl K hK; simp only [Jo.z] at hK ⊢; have xX32 := (X3.below hJ).a 2 (.int .i64 x) rfl; go_simp; exact hK.out _ _ rfl (br _ _)
   refine Jo.jm rfl ?_ ?_
   · rintro wj hJ _ rfl K hK; simp only [Jo.z] at hK ⊢; have hw := HW.out; go_simp
     exact hK.out _ _ (by first | rfl | (show Value.int _ _ = Value.int _ _; rw [hw])) (br _ _)
   refine Jo.jm rfl ?_ ?_
   · rintro wj hJ _ ⟨s7, A7, n7, c7, rfl, p7, k7⟩ _ rfl K hK; simp only [Jo.z] at hK ⊢; go_simp; exact hK.out _ _ ⟨s7, A7, n7, c7, rfl, p7, k7⟩ (br _ _)
   refine Jo.jm rfl ?_ ?_; rotate_left
   refine Jo.jm rfl ?_ ?_
   · rintro wj hJ _ ⟨s8, A8, n8, c8, rfl, p8, k8⟩ _ rfl K hK; simp only [Jo.z] at hK ⊢; go_simp; refine (nRound (hT.below hJ) p8.wr (by omega) rfl rfl HR.out).mono ?_; rintro ee wk ⟨K9, s9, M9, E9, rfl, q9, B⟩; exact hK.out _ _ ⟨K9, s9, M9, E9, rfl, q9⟩ B
   exact Jo.Steps.nil
   all_goals (rintro wj hJ; (repeat rintro _ rfl); intro K hK; simp only [Jo.z] at hK ⊢; go_simp; exact hK.out _ _ rfl (br _ _))
 rintro w8 hJ _ rfl _ rfl _ ⟨_, _, _, _, rfl, _⟩ _ _ _ rfl _ rfl _ ⟨_, _, _, _, rfl, _⟩ _ rfl _ ⟨K9, s9, M9, E9, rfl, q9⟩ -; simp only [Jo.z]; replace X3 := X3.below hJ; replace XR := XR.below hJ; replace hT := hT.below hJ; replace p2 := p2.below hJ; replace HB := Hqb HB hJ; have xXR := XR.cell; have zXR0 := XR.frozen
 refine Jo.jnext (i := 9) (o := ⟨none, _, _, _, _, _⟩) (by kernel_rfl) rfl (fun K hK => ?_)
 go_simp; refine hK.out _ _ ?_; clear hK K xXR zXR0; have SX := StN.mk4 XR (.int .i64 K9) (.bool s9) (.int .u64 M9) (.int .i64 E9); refine Jo.jdone (by kernel_rfl) ?_; go_wp2; exact bodyPost_ret (by simp [results, Tryz.results113, go_sem, SX.box.cell]) rfl ⟨_, _, _, _, rfl, q9, (SX.below HB.out (by omega))⟩
theorem qround_l {w : World} {A : Option Addr} {n c q a0 a : Nat} {x r : Int} {σ up : Bool} (hT : Tab w) (h : Nm w A n c q) (hn : n ≤ 20000) (h0 : q * 2 ^ 1 = a0) (h1 : a0 + 1 = a) (x1 : -3000000 ≤ x) (x2 : x ≤ 3000000) (hr : rnd up (mk (sg σ a) (x - 1)).1 (mk (sg σ a) (x - 1)).2 = r) : Calls Tryz.prog 113 #[.agg #[.slice A n c, .bool false, .int .i64 x], .bool σ, .bool up] w (PN w r) := by
 have HA := Lib.hid h0; have H1 := Lib.hid h1; have HR := Lib.hid hr
 have HW : Hid (IntKind.i64.wrap (x - 1) = x - 1) := Lib.hid (IntWalk.i64_in _ (by omega))
 clear h0 h1 hr x1 x2
 go_enter Tryz.func113, Tryz.ntmps113
 go_upto_region 1 with (fail)
 generalize hW1 : (w.alloc _).alloc _ = w1 at *; obtain ⟨X3, XR, HB⟩ := Bo.en2 hW1; replace hT := hT.below HB.out; replace h := h.below HB.out; clear hW1; have xX3 := X3.cell
 go_wp2_with fail
 refine (vShlE (s := 1) h.rd (by omega) (by decide) HA.out).mono ?_; rintro ee w2 ⟨A2, n2, c2, rfl, p2, k2, B⟩; clear xX3; replace X3 := X3.below B; replace XR := XR.below B; replace hT := hT.below B; replace h := h.below B; replace HB := Hqb HB B; clear B; clear h; have xX3 := X3.cell
 go_wp2_with fail
 refine (vAddE (p2.below (bel1 _ _)).rd (lit_one7 w2) (by omega) (by decide) H1.out).mono ?_; rintro ee w4 ⟨A4, n4, c4, rfl, p4, k4, B⟩; clear xX3; replace B := bt (bel1 _ _) B; replace X3 := X3.below B; replace XR := XR.below B; replace hT := hT.below B; replace p2 := p2.below B; replace HB := Hqb HB B; clear B; clear p2; have xX3 := X3.cell
 go_upto_region 4 with (fail)
 clear xX3; refine Jo.rk [0, 1, 2, 3, 4, 5, 6, 7, 8] [some 17, some 18, some 19, some 20, some 21, some 22, some 23, some 24, some 25, none] [[], [], [0, 1], [], [3], [4], [2, 5], [], [6, 7], []] 10 1 [Jo.qb σ, Jo.Fact.eq (.slice A4 n4 c4), Jo.Fact.wn (sg σ a) 30000, Jo.qp w.heap.size 2, Jo.qi x, Jo.Fact.eq (.int .i64 (x - 1)), Jo.Fact.dy (sg σ a) (x - 1) 30000, Jo.qb up, Jo.Fact.num r, Jo.Fact.any] (by kernel_rfl) (by kernel_rfl) (by decide) rfl ?_ ?_
 · iterate 2 (refine Jo.jm rfl ?_ ?_; rotate_left)
   refine Jo.jm rfl ?_ ?_
   · rintro wj hJ _ rfl _ rfl K hK; simp only [Jo.z] at hK ⊢; go_simp; refine (wMake σ (p4.below hJ).rd).mono ?_; rintro ee wk ⟨s7, A7, n7, c7, rfl, p7, k7, B⟩; exact hK.out _ _ ⟨s7, A7, n7, c7, rfl, p7, by omega⟩ B
   refine Jo.jm rfl ?_ ?_; rotate_left
   refine Jo.jm rfl ?_ ?_
   · rintro wj hJ _ rfl K hK; simp only [Jo.z] at hK ⊢; have xX32 := (X3.below hJ).a 2 (.int .i64 x) rfl; go_simp; exact hK.out _ _ rfl (br _ _)
   refine Jo.jm rfl ?_ ?_
   · rintro wj hJ _ rfl K hK; simp only [Jo.z] at hK ⊢; have hw := HW.out; go_simp
     exact hK.out _ _ (by first | rfl | (show Value.int _ _ = Value.int _ _; rw [hw])) (br _ _)
   refine Jo.jm rfl ?_ ?_
   · rintro wj hJ _ ⟨s7, A7, n7, c7, rfl, p7, k7⟩ _ rfl K hK; simp only [Jo.z] at hK ⊢; go_simp; exact hK.out _ _ ⟨s7, A7, n7, c7, rfl, p7, k7⟩ (br _ _)
   refine Jo.jm rfl ?_ ?_; rotate_left
   refine Jo.jm rfl ?_ ?_
   · rintro wj hJ _ ⟨s8, A8, n8, c8, rfl, p8, k8⟩ _ rfl K hK; simp only [Jo.z] at hK ⊢; go_simp; refine (nRound (hT.below hJ) p8.wr (by omega) rfl rfl HR.out).mono ?_; rintro ee wk ⟨K9, s9, M9, E9, rfl, q9, B⟩; exact hK.out _ _ ⟨K9, s9, M9, E9, rfl, q9⟩ B
   exact Jo.Steps.nil
   all_goals (rintro wj hJ; (repeat rintro _ rfl); intro K hK; simp only [Jo.z] at hK ⊢; go_simp; exact hK.out _ _ rfl (br _ _))
 rintro w8 hJ _ rfl _ rfl _ ⟨_, _, _, _, rfl, _⟩ _ _ _ rfl _ rfl _ ⟨_, _, _, _, rfl, _⟩ _ rfl _ ⟨K9, s9, M9, E9, rfl, q9⟩ -; simp only [Jo.z]; replace X3 := X3.below hJ; replace XR := XR.below hJ; replace hT := hT.below hJ; replace p4 := p4.below hJ; replace HB := Hqb HB hJ; have xXR := XR.cell; have zXR0 := XR.frozen
 refine Jo.jnext (i := 9) (o := ⟨none, _, _, _, _, _⟩) (by kernel_rfl) rfl (fun K hK => ?_)
 go_simp; refine hK.out _ _ ?_; clear hK K xXR zXR0; have SX := StN.mk4 XR (.int .i64 K9) (.bool s9) (.int .u64 M9) (.int .i64 E9); refine Jo.jdone (by kernel_rfl) ?_; go_wp2; exact bodyPost_ret (by simp [results, Tryz.results113, go_sem, SX.box.cell]) rfl ⟨_, _, _, _, rfl, q9, (SX.below HB.out (by omega))⟩
theorem qRound {w : World} {A : Option Addr} {n c : Nat} {t σ up : Bool} {x r : Int} {P : Bool → Bool → Int → Prop} (hT : Tab w) (h : Pk w A n c t x P) (hr : ∀ r', P σ up r' → r' = r) : Calls Tryz.prog 113 #[.agg #[.slice A n c, .bool t, .int .i64 x], .bool σ, .bool up] w (PN w r) := by
 obtain ⟨q, d, hnm, hk, ht, x1, x2, hp⟩ := h; have e := hr _ (hp σ up); rw [← sg_sgi7] at e
 by_cases h0 : d = 0
 · subst h0
   obtain rfl : true = t := ht
   rw [stk_zero7] at e; exact qround_e hT hnm hk rfl rfl x1 x2 e
 · obtain rfl : false = t := by rw [← ht]; exact (decide_eq_false h0).symm
   rw [stk_one7 h0] at e; exact qround_l hT hnm hk rfl rfl x1 x2 e
def Ro (up : Bool) (x r : Int) (t : Bool) : Prop := if x < 0 then r = 0 ∧ t = false else if x = 0 ∨ infp x = true then r = x ∧ t = true else Rt up (vr x * 2 ^ KK) r ∧ t = true
theorem ro_neg {up : Bool} {x r : Int} {t : Bool} (h : x < 0) : Ro up x r t ↔ (r = 0 ∧ t = false) := by
 unfold Ro
 rw [if_pos h]
theorem ro_it {up : Bool} {x r : Int} {t : Bool} (h : ¬ x < 0) (h2 : x = 0 ∨ infp x = true) : Ro up x r t ↔ (r = x ∧ t = true) := by
 unfold Ro
 rw [if_neg h, if_pos h2]
theorem ro_fin {up : Bool} {x r : Int} {t : Bool} (h : ¬ x < 0) (h2 : ¬ (x = 0 ∨ infp x = true)) : Ro up x r t ↔ (Rt up (vr x * 2 ^ KK) r ∧ t = true) := by
 unfold Ro
 rw [if_neg h, if_neg h2]
end Go.Proofs.YtnbliijpjcmbjaaGreatDoor

/-
 Contracts that the proof rests on.
-/
import Derived.Test.YtnbliijpjcmbjaaGreatDoorYCbd
namespace Go.Proofs.YtnbliijpjcmbjaaGreatDoor
set_option maxHeartbeats 4000000
open Go.RowKit
set_option linter.unusedVariables false
set_option linter.unusedSimpArgs false
set_option maxRecDepth 100000
theorem Nl.lit2 {W : World} {g : Nat} {D1 D2 M1 M2 E1 E2 r1 r2 : Int} {s1 s2 : Bool} (hg : W.heap.size = g) (h1 : LQ M1) (h2 : LQ M2) (k1 : rk D1 s1 M1 E1 = r1) (k2 : rk D2 s2 M2 E2 = r2) :
   Nl (W.alloc (.cells #[.int .i64 D1, .bool s1, .int .u64 M1, .int .i64 E1, .int .i64 D2, .bool s2, .int .u64 M2, .int .i64 E2] 24)) (some ⟨g, 0, none⟩) 2 2 [r1, r2] := by
 subst hg; have hh := heap_alloc_new W (.cells #[.int .i64 D1, .bool s1, .int .u64 M1, .int .i64 E1, .int .i64 D2, .bool s2, .int .u64 M2, .int .i64 E2] 24)
 refine ⟨rfl, Nat.le_refl _, by decide, fun _ => ⟨_, 0, rfl, fun k hk => ?_⟩⟩
 rcases (by omega : k = 0 ∨ k = 1) with rfl | rfl
 · exact ⟨D1, s1, M1, E1, by rw [cell_of_row _ _ _ _ _ _ hh]; rfl, by rw [cell_of_row _ _ _ _ _ _ hh]; rfl, by rw [cell_of_row _ _ _ _ _ _ hh]; rfl, by rw [cell_of_row _ _ _ _ _ _ hh]; rfl, h1, k1⟩
 · exact ⟨D2, s2, M2, E2, by rw [cell_of_row _ _ _ _ _ _ hh]; rfl, by rw [cell_of_row _ _ _ _ _ _ hh]; rfl, by rw [cell_of_row _ _ _ _ _ _ hh]; rfl, by rw [cell_of_row _ _ _ _ _ _ hh]; rfl, h2, k2⟩
theorem mnp_two {a b : Int} (ha : a ≤ 19342822337206103650074625) : mnp [a, b] = min a b := by
 have := TP_eq
 show min (min TP a) b = _
 omega
theorem mxp_two {a b : Int} (ha : -19342822337206103650074625 ≤ a) : mxp [a, b] = max a b := by
 have := TP_eq
 show max (max (-TP) a) b = _
 omega
theorem jvTwo {w : World} {e : Bool} {D M E D' M' E' : Int} {s s' : Bool} {e2 : Bool} {G P Q G' P' Q' : Int} {g g' : Bool} {x y z : Sp} (hM : LQ M) (hM' : LQ M') (hP : LQ P) (hP' : LQ P') (hx : rkI e D s M E D' s' M' E' = x) (hy : rkI e2 G g P Q G' g' P' Q' = y) (hr : meetI x y = z) : Calls Tryz.prog 38 #[VI e D s M E D' s' M' E', VI e2 G g P Q G' g' P' Q'] w (PV w z) := by
 delta VI
 have HX := Lib.hid hx; have HY := Lib.hid hy; clear hx hy
 go_enter Tryz.func38, Tryz.ntmps38
 go_upto_region 1 with (fail)
 generalize hW1 : ((w.alloc _).alloc _).alloc _ = w1 at *; obtain ⟨X2, X3, XR, HB⟩ := Bo.en3 hW1; clear hW1; have xX2 := X2.cell
 go_wp2_with fail
 refine (jvFair hM hM' HX.out).mono ?_; rintro ee w2 ⟨e1, K1, s1, M1, E1, K1b, s1b, M1b, E1b, rfl, v1, B⟩; clear xX2; replace X2 := X2.below B; replace X3 := X3.below B; replace XR := XR.below B; replace HB := Hqb HB B; clear B
 go_upto_region 2 with (fail)
 have lX5 := Nat.le_refl (World.heap w2).size; have nX5X2 := X2.lt; have nX5X3 := X3.lt; have nX5XR := XR.lt; generalize hWn : w2.alloc _ = w3 at *; obtain ⟨X5, BW⟩ := Bo.nw hWn; clear hWn; replace X2 := X2.below BW; replace X3 := X3.below BW; replace XR := XR.below BW; replace HB := Hqb HB BW; clear BW; clear lX5; have xX3 := X3.cell
 go_wp2_with fail
 refine (jvFair hP hP' HY.out).mono ?_; rintro ee w4 ⟨e2, K2, s2, M2, E2, K2b, s2b, M2b, E2b, rfl, v2, B⟩; clear xX3; replace X2 := X2.below B; replace X3 := X3.below B; replace XR := XR.below B; replace X5 := X5.below B; replace HB := Hqb HB B; clear B
 go_upto_region 3 with (fail)
 have lX6 := Nat.le_refl (World.heap w4).size; have nX6X2 := X2.lt; have nX6X3 := X3.lt; have nX6XR := XR.lt; have nX6X5 := X5.lt; generalize hWn : w4.alloc _ = w5 at *; obtain ⟨X6, BW⟩ := Bo.nw hWn; clear hWn; replace X2 := X2.below BW; replace X3 := X3.below BW; replace XR := XR.below BW; replace X5 := X5.below BW; replace HB := Hqb HB BW; clear BW; clear lX6; clear HX HY hM hM' hP hP'
 rcases x with _ | ⟨xa, xb⟩
 · obtain ⟨rfl, y1, y1b⟩ := v1
   obtain rfl : none = z := hr
   have xX5 := X5.cell; have xX6 := X6.cell
   go_wp2_with fail
   refine (jvNoneE).mono ?_; rintro ee w7 ⟨rfl, B⟩; clear xX5 xX6; replace XR := XR.below B; replace X5 := X5.below B; replace X6 := X6.below B; replace HB := Hqb HB B; clear B; have xXR := XR.cell; have zXR0 := XR.frozen; go_wp2; clear xXR zXR0
   have SX := StN.mk9 XR (.bool true) (.int .i64 0) (.bool false) (.int .u64 0) (.int .i64 0) (.int .i64 0) (.bool false) (.int .u64 0) (.int .i64 0); exact bodyPost_ret (by simp [results, Tryz.results38, go_sem, SX.box.cell]) rfl ⟨_, _, _, _, _, _, _, _, _, rfl, Ci.none, (SX.below HB.out (by omega))⟩
 · obtain ⟨rfl, a1, b1, o1, o1l, o1h⟩ := v1
   rcases y with _ | ⟨ya, yb⟩
   · obtain ⟨rfl, y2, y2b⟩ := v2; clear o1 o1l o1h
     obtain rfl : none = z := hr
     have xX5 := X5.cell; have xX6 := X6.cell
     go_wp2_with fail
     refine (jvNoneE).mono ?_; rintro ee w7 ⟨rfl, B⟩; clear xX5 xX6; replace XR := XR.below B; replace X5 := X5.below B; replace X6 := X6.below B; replace HB := Hqb HB B; clear B; have xXR := XR.cell; have zXR0 := XR.frozen; go_wp2; clear xXR zXR0
     have SX := StN.mk9 XR (.bool true) (.int .i64 0) (.bool false) (.int .u64 0) (.int .i64 0) (.int .i64 0) (.bool false) (.int .u64 0) (.int .i64 0); exact bodyPost_ret (by simp [results, Tryz.results38, go_sem, SX.box.cell]) rfl ⟨_, _, _, _, _, _, _, _, _, rfl, Ci.none, (SX.below HB.out (by omega))⟩
   · obtain ⟨rfl, a2, b2, o2, o2l, o2h⟩ := v2
     have hu : mxp [xa, ya] = max xa ya := mxp_two a1.bd.1
     have hl : mnp [xb, yb] = min xb yb := mnp_two b1.bd.2
     obtain ⟨u, hu2⟩ : ∃ u, max xa ya = u := ⟨_, rfl⟩; obtain ⟨l, hl2⟩ : ∃ l, min xb yb = l := ⟨_, rfl⟩
     have hr2 : mkI u l = z := by rw [← hu2, ← hl2]; exact hr
     rw [hu2] at hu; rw [hl2] at hl; have HU := Lib.hid hu; have HL := Lib.hid hl; have HR := Lib.hid hr2; clear hu hl hu2 hl2 hr hr2 o1 o1l o1h o2 o2l o2h; have xX5 := X5.cell; have xX6 := X6.cell
     go_upto_region 5 with (fail)
     clear xX5 xX6; refine Jo.rk [0, 1, 2, 3, 4, 5, 6, 7, 8, 9, 10, 11, 12] [some 18, some 19, some 20, some 21, some 22, some 23, some 24, some 25, some 26, some 27, some 28, some 29, some 30, none] [[], [0], [], [2], [1, 3], [4], [], [6], [], [8], [7, 9], [10], [5, 11], []] 14 1 [Jo.qp w2.heap.size 1, Jo.q4 K1 s1 M1 E1, Jo.qp w4.heap.size 1, Jo.q4 K2 s2 M2 E2, Jo.Fact.nl 2 [xa, ya], Jo.Fact.num u, Jo.qp w2.heap.size 5, Jo.q4 K1b s1b M1b E1b, Jo.qp w4.heap.size 5, Jo.q4 K2b s2b M2b E2b, Jo.Fact.nl 2 [xb, yb], Jo.Fact.num l, Jo.Fact.iv z, Jo.Fact.any] (by kernel_rfl) (by kernel_rfl) (by decide) rfl ?_ ?_
     · iterate 4 (refine Jo.jm rfl ?_ ?_; rotate_left)
       refine Jo.jm rfl ?_ ?_
       · rintro wj hJ _ rfl _ rfl K hK; simp only [Jo.z] at hK ⊢; go_simp; exact hK.out _ _ ⟨_, 2, rfl, Nl.lit2 rfl a1.top a2.top a1.rk a2.rk⟩ (bel1 _ _)
       refine Jo.jm rfl ?_ ?_
       · rintro wj hJ _ ⟨A4, c4, rfl, h4⟩ K hK; simp only [Jo.z] at hK ⊢; go_simp; refine (yMost h4 HU.out).mono ?_; rintro ee wk ⟨K3, s3, M3, E3, rfl, q3, B⟩; exact hK.out _ _ ⟨K3, s3, M3, E3, rfl, q3⟩ B
       iterate 4 (refine Jo.jm rfl ?_ ?_; rotate_left)
       refine Jo.jm rfl ?_ ?_
       · rintro wj hJ _ rfl _ rfl K hK; simp only [Jo.z] at hK ⊢; go_simp; exact hK.out _ _ ⟨_, 2, rfl, Nl.lit2 rfl b1.top b2.top b1.rk b2.rk⟩ (bel1 _ _)
       refine Jo.jm rfl ?_ ?_
       · rintro wj hJ _ ⟨A5, c5, rfl, h5⟩ K hK; simp only [Jo.z] at hK ⊢; go_simp; refine (yLeast h5 HL.out).mono ?_; rintro ee wk ⟨K4, s4, M4, E4, rfl, q4, B⟩; exact hK.out _ _ ⟨K4, s4, M4, E4, rfl, q4⟩ B
       refine Jo.jm rfl ?_ ?_
       · rintro wj hJ _ ⟨K3, s3, M3, E3, rfl, q3⟩ _ ⟨K4, s4, M4, E4, rfl, q4⟩ K hK; simp only [Jo.z] at hK ⊢; go_simp; refine (jvMake q3.top q4.top q3.rk q4.rk HR.out).mono ?_; rintro ee wk ⟨e5, K5, s5, M5, E5, K5b, s5b, M5b, E5b, rfl, v5, B⟩; exact hK.out _ _ ⟨e5, K5, s5, M5, E5, K5b, s5b, M5b, E5b, rfl, v5⟩ B
       exact Jo.Steps.nil
       all_goals (rintro wj hJ; (repeat rintro _ rfl); intro K hK; simp only [Jo.z] at hK ⊢; have xX5 := (X5.below hJ).cell; have xX6 := (X6.below hJ).cell; go_simp; exact hK.out _ _ rfl (br _ _))
     rintro w8 hJ _ _ _ rfl _ _ _ rfl _ ⟨A4, c4, rfl, _⟩ _ ⟨K3, s3, M3, E3, rfl, q3⟩ _ _ _ rfl _ _ _ rfl _ ⟨A5, c5, rfl, _⟩ _ ⟨K4, s4, M4, E4, rfl, q4⟩ _ ⟨e5, K5, s5, M5, E5, K5b, s5b, M5b, E5b, rfl, v5⟩ -; simp only [Jo.z]; replace XR := XR.below hJ; replace X5 := X5.below hJ; replace X6 := X6.below hJ; replace HB := Hqb HB hJ; have xXR := XR.cell
     have zXR0 := XR.frozen
     refine Jo.jnext (i := 13) (o := ⟨none, _, _, _, _, _⟩) (by kernel_rfl) rfl (fun K hK => ?_)
     go_simp; refine hK.out _ _ ?_; clear hK K xXR zXR0; have SX := StN.mk9 XR (.bool e5) (.int .i64 K5) (.bool s5) (.int .u64 M5) (.int .i64 E5) (.int .i64 K5b) (.bool s5b) (.int .u64 M5b) (.int .i64 E5b); refine Jo.jdone (by kernel_rfl) ?_; go_wp2; exact bodyPost_ret (by simp [results, Tryz.results38, go_sem, SX.box.cell]) rfl ⟨_, _, _, _, _, _, _, _, _, rfl, v5, (SX.below HB.out (by omega))⟩
theorem jvBoth {w : World} {e : Bool} {D M E D' M' E' : Int} {s s' : Bool} {e2 : Bool} {G P Q G' P' Q' : Int} {g g' : Bool} {x y z : Sp} (hM : LQ M) (hM' : LQ M') (hP : LQ P) (hP' : LQ P') (hx : rkI e D s M E D' s' M' E' = x) (hy : rkI e2 G g P Q G' g' P' Q' = y) (hr : hullI x y = z) : Calls Tryz.prog 52 #[VI e D s M E D' s' M' E', VI e2 G g P Q G' g' P' Q'] w (PV w z) := by
 delta VI
 have HX := Lib.hid hx; have HY := Lib.hid hy; clear hx hy
 go_enter Tryz.func52, Tryz.ntmps52
 go_upto_region 1 with (fail)
 generalize hW1 : ((w.alloc _).alloc _).alloc _ = w1 at *; obtain ⟨X2, X3, XR, HB⟩ := Bo.en3 hW1; clear hW1; have xX2 := X2.cell
 go_wp2_with fail
 refine (jvFair hM hM' HX.out).mono ?_; rintro ee w2 ⟨e1, K1, s1, M1, E1, K1b, s1b, M1b, E1b, rfl, v1, B⟩; clear xX2; replace X2 := X2.below B; replace X3 := X3.below B; replace XR := XR.below B; replace HB := Hqb HB B; clear B
 go_upto_region 2 with (fail)
 have lX5 := Nat.le_refl (World.heap w2).size; have nX5X2 := X2.lt; have nX5X3 := X3.lt; have nX5XR := XR.lt; generalize hWn : w2.alloc _ = w3 at *; obtain ⟨X5, BW⟩ := Bo.nw hWn; clear hWn; replace X2 := X2.below BW; replace X3 := X3.below BW; replace XR := XR.below BW; replace HB := Hqb HB BW; clear BW; clear lX5; have xX3 := X3.cell
 go_wp2_with fail
 refine (jvFair hP hP' HY.out).mono ?_; rintro ee w4 ⟨e2, K2, s2, M2, E2, K2b, s2b, M2b, E2b, rfl, v2, B⟩; clear xX3; replace X2 := X2.below B; replace X3 := X3.below B; replace XR := XR.below B; replace X5 := X5.below B; replace HB := Hqb HB B; clear B
 go_upto_region 3 with (fail)
 have lX6 := Nat.le_refl (World.heap w4).size; have nX6X2 := X2.lt; have nX6X3 := X3.lt; have nX6XR := XR.lt; have nX6X5 := X5.lt; generalize hWn : w4.alloc _ = w5 at *; obtain ⟨X6, BW⟩ := Bo.nw hWn; clear hWn; replace X2 := X2.below BW; replace X3 := X3.below BW; replace XR := XR.below BW; replace X5 := X5.below BW; replace HB := Hqb HB BW; clear BW; clear lX6; clear HX HY hM hM' hP hP'
 rcases x with _ | ⟨xa, xb⟩
 · obtain ⟨rfl, y1, y1b⟩ := v1
   obtain rfl : y = z := hr
   have xXR := XR.cell; have zXR0 := XR.frozen; have xX5 := X5.cell; have xX6 := X6.cell; go_wp2; clear xXR zXR0 xX5 xX6; have SX := StN.mk9 XR (.bool e2) (.int .i64 K2) (.bool s2) (.int .u64 M2) (.int .i64 E2) (.int .i64 K2b) (.bool s2b) (.int .u64 M2b) (.int .i64 E2b)
   exact bodyPost_ret (by simp [results, Tryz.results52, go_sem, SX.box.cell]) rfl ⟨_, _, _, _, _, _, _, _, _, rfl, v2, (SX.below HB.out (by omega))⟩
 · obtain ⟨rfl, a1, b1, o1, o1l, o1h⟩ := v1
   rcases y with _ | ⟨ya, yb⟩
   · obtain ⟨rfl, y2, y2b⟩ := v2
     obtain rfl : some (xa, xb) = z := hr
     have xXR := XR.cell; have zXR0 := XR.frozen; have xX5 := X5.cell; have xX6 := X6.cell; go_wp2; clear xXR zXR0 xX5 xX6; have SX := StN.mk9 XR (.bool false) (.int .i64 K1) (.bool s1) (.int .u64 M1) (.int .i64 E1) (.int .i64 K1b) (.bool s1b) (.int .u64 M1b) (.int .i64 E1b)
     exact bodyPost_ret (v := .agg #[.bool false, .int .i64 K1, .bool s1, .int .u64 M1, .int .i64 E1, .int .i64 K1b, .bool s1b, .int .u64 M1b, .int .i64 E1b]) (by simp [results, Tryz.results52, go_sem, SX.box.cell]) rfl ⟨_, _, _, _, _, _, _, _, _, rfl, ⟨rfl, a1, b1, o1, o1l, o1h⟩, (SX.below HB.out (by omega))⟩
   · obtain ⟨rfl, a2, b2, o2, o2l, o2h⟩ := v2
     have hu : mnp [xa, ya] = min xa ya := mnp_two a1.bd.2
     have hl : mxp [xb, yb] = max xb yb := mxp_two b1.bd.1
     obtain ⟨u, hu2⟩ : ∃ u, min xa ya = u := ⟨_, rfl⟩; obtain ⟨l, hl2⟩ : ∃ l, max xb yb = l := ⟨_, rfl⟩
     have hr2 : mkI u l = z := by rw [← hu2, ← hl2]; exact hr
     rw [hu2] at hu; rw [hl2] at hl; have HU := Lib.hid hu; have HL := Lib.hid hl; have HR := Lib.hid hr2; clear hu hl hu2 hl2 hr hr2 o1 o1l o1h o2 o2l o2h; have xX5 := X5.cell; have xX6 := X6.cell
     go_upto_region 7 with (fail)
     clear xX5 xX6; refine Jo.rk [0, 1, 2, 3, 4, 5, 6, 7, 8, 9, 10, 11, 12] [some 17, some 18, some 19, some 20, some 21, some 22, some 23, some 24, some 25, some 26, some 27, some 28, some 29, none] [[], [0], [], [2], [1, 3], [4], [], [6], [], [8], [7, 9], [10], [5, 11], []] 14 1 [Jo.qp w2.heap.size 1, Jo.q4 K1 s1 M1 E1, Jo.qp w4.heap.size 1, Jo.q4 K2 s2 M2 E2, Jo.Fact.nl 2 [xa, ya], Jo.Fact.num u, Jo.qp w2.heap.size 5, Jo.q4 K1b s1b M1b E1b, Jo.qp w4.heap.size 5, Jo.q4 K2b s2b M2b E2b, Jo.Fact.nl 2 [xb, yb], Jo.Fact.num l, Jo.Fact.iv z, Jo.Fact.any] (by kernel_rfl) (by kernel_rfl) (by decide) rfl ?_ ?_
     · iterate 4 (refine Jo.jm rfl ?_ ?_; rotate_left)
       refine Jo.jm rfl ?_ ?_
       · rintro wj hJ _ rfl _ rfl K hK; simp only [Jo.z] at hK ⊢; go_simp; exact hK.out _ _ ⟨_, 2, rfl, Nl.lit2 rfl a1.top a2.top a1.rk a2.rk⟩ (bel1 _ _)
       refine Jo.jm rfl ?_ ?_
       · rintro wj hJ _ ⟨A4, c4, rfl, h4⟩ K hK; simp only [Jo.z] at hK ⊢; go_simp; refine (yLeast h4 HU.out).mono ?_; rintro ee wk ⟨K3, s3, M3, E3, rfl, q3, B⟩; exact hK.out _ _ ⟨K3, s3, M3, E3, rfl, q3⟩ B
       iterate 4 (refine Jo.jm rfl ?_ ?_; rotate_left)
       refine Jo.jm rfl ?_ ?_
       · rintro wj hJ _ rfl _ rfl K hK; simp only [Jo.z] at hK ⊢; go_simp; exact hK.out _ _ ⟨_, 2, rfl, Nl.lit2 rfl b1.top b2.top b1.rk b2.rk⟩ (bel1 _ _)
       refine Jo.jm rfl ?_ ?_
       · rintro wj hJ _ ⟨A5, c5, rfl, h5⟩ K hK; simp only [Jo.z] at hK ⊢; go_simp; refine (yMost h5 HL.out).mono ?_; rintro ee wk ⟨K4, s4, M4, E4, rfl, q4, B⟩; exact hK.out _ _ ⟨K4, s4, M4, E4, rfl, q4⟩ B
       refine Jo.jm rfl ?_ ?_
       · rintro wj hJ _ ⟨K3, s3, M3, E3, rfl, q3⟩ _ ⟨K4, s4, M4, E4, rfl, q4⟩ K hK; simp only [Jo.z] at hK ⊢; go_simp; refine (jvMake q3.top q4.top q3.rk q4.rk HR.out).mono ?_; rintro ee wk ⟨e5, K5, s5, M5, E5, K5b, s5b, M5b, E5b, rfl, v5, B⟩; exact hK.out _ _ ⟨e5, K5, s5, M5, E5, K5b, s5b, M5b, E5b, rfl, v5⟩ B
       exact Jo.Steps.nil
       all_goals (rintro wj hJ; (repeat rintro _ rfl); intro K hK; simp only [Jo.z] at hK ⊢; have xX5 := (X5.below hJ).cell; have xX6 := (X6.below hJ).cell; go_simp; exact hK.out _ _ rfl (br _ _))
     rintro w8 hJ _ _ _ rfl _ _ _ rfl _ ⟨A4, c4, rfl, _⟩ _ ⟨K3, s3, M3, E3, rfl, q3⟩ _ _ _ rfl _ _ _ rfl _ ⟨A5, c5, rfl, _⟩ _ ⟨K4, s4, M4, E4, rfl, q4⟩ _ ⟨e5, K5, s5, M5, E5, K5b, s5b, M5b, E5b, rfl, v5⟩ -; simp only [Jo.z]; replace XR := XR.below hJ; replace X5 := X5.below hJ; replace X6 := X6.below hJ; replace HB := Hqb HB hJ; have xXR := XR.cell
     have zXR0 := XR.frozen
     refine Jo.jnext (i := 13) (o := ⟨none, _, _, _, _, _⟩) (by kernel_rfl) rfl (fun K hK => ?_)
     go_simp; refine hK.out _ _ ?_; clear hK K xXR zXR0; have SX := StN.mk9 XR (.bool e5) (.int .i64 K5) (.bool s5) (.int .u64 M5) (.int .i64 E5) (.int .i64 K5b) (.bool s5b) (.int .u64 M5b) (.int .i64 E5b); refine Jo.jdone (by kernel_rfl) ?_; go_wp2; exact bodyPost_ret (by simp [results, Tryz.results52, go_sem, SX.box.cell]) rfl ⟨_, _, _, _, _, _, _, _, _, rfl, v5, (SX.below HB.out (by omega))⟩
theorem infoNum : (Tryz.prog.info? 24).map (fun i => (i.zero, i.size, i.bytes)) = some (some (.agg #[.int .i64 0, .bool false, .int .u64 0, .int .i64 0]), 4, 32) := by kernel_rfl
section
variable {w w' : World} {base n c : Nat} {A : Option Addr} {l : List Int}
def ownA (A : Option Addr) : Option Nat := A.map (·.block)
theorem own_eq (A : Option Addr) (n c : Nat) : (Value.slice A n c).ownBlock = ownA A := by cases A <;> rfl
theorem Na.kept {row : Option Nat} (h : Na w base A n c l) (hg : w.grownBy w' row) (hne : ownA A = none ∨ ownA A ≠ row) : Na w' base A n c l := by
 obtain ⟨r, h1, h2⟩ := h; exact ⟨r, h1.kept hg (by rw [own_eq]; exact hne), h2⟩
theorem Na.own_lt (h : Na w base A n c l) : ∀ k, ownA A = some k → base ≤ k ∧ k < w.heap.size := by
 obtain ⟨r, h1, h2⟩ := h
 intro k hk
 exact h1.lt k (by rw [own_eq]; exact hk)
theorem run_na {ty : TypeId} {g : Nat} {K M E a : Int} {s : Bool} (h : Na w base A n c l) (q : Fq K s M E a) (X : Bo w g #[.int .i64 K, .bool s, .int .u64 M, .int .i64 E] 24) (hn : n + 1 ≤ 1099511627776) (hb : base ≤ w.heap.size) :
   ∃ A2 c2 w', (Builtin.append_ #[54, 54] ty #[.slice A n c, .slice (some ⟨g, 0, none⟩) 1 1]).run Tryz.prog w = .ok (.slice A2 (n + 1) c2) w' ∧ Na w' base A2 (n + 1) c2 (l ++ [a]) ∧ w.grownBy w' (ownA A) ∧ (ownA A2 = ownA A ∨ ownA A2 = some w.heap.size) := by
 obtain ⟨i, hi, hz, hsi, hby⟩ := info_parts infoNum; obtain ⟨r, h1, h2, h3, h4⟩ := h
 obtain ⟨v', w', hr, ho, hg, _, hat⟩ := run_append_own_at (P := Tryz.prog) w base 54 ty 24 i _ 4 32 Tryz.underlying54 hi hz hsi hby rfl (by decide) _ n (nrow r) h1 ⟨g, 0, none⟩ 1 1 (nrow [(K, s, M, E)]) rfl (by
   intro j u hj
   have hc := X.cell
   rcases j with _ | _ | _ | _ | j
   · cases hj
     exact hc 0
   · cases hj
     exact hc 1
   · cases hj
     exact hc 2
   · cases hj
     exact hc 3
   · cases hj) (by
   intro u hu
   simp only [nrow, List.mem_cons, List.not_mem_nil, or_false] at hu
   rcases hu with rfl | rfl | rfl | rfl <;> rfl) (by unfold maxLen; omega) (by omega) hb
 rw [own_eq] at hg hat; rw [← nrow_append] at ho
 obtain ⟨A2, c2, rfl⟩ : ∃ A2 c2, v' = .slice A2 (n + 1) c2 := by
   rcases ho.2 with ⟨_, h0⟩ | ⟨g', cap', cur', hv, _⟩
   · omega
   · exact ⟨_, _, hv⟩
 rw [own_eq] at hat
 refine ⟨A2, c2, w', hr, ⟨_, ho, by rw [List.length_append, h2]; rfl, by rw [List.length_append, h3]; rfl, fun k hk => ?_⟩, hg, hat⟩
 by_cases hkn : k < n
 · obtain ⟨K1, s1, M1, E1, hq, qq⟩ := h4 k hkn; refine ⟨K1, s1, M1, E1, by rw [List.getElem?_append_left (by omega)]; exact hq, ?_⟩
   rw [List.getD_eq_getElem?_getD, List.getElem?_append_left (by omega), ← List.getD_eq_getElem?_getD]; exact qq
 · obtain rfl : k = n := by omega
   refine ⟨K, s, M, E, by rw [List.getElem?_append_right (by omega), h2]; simp, ?_⟩
   rw [List.getD_eq_getElem?_getD, List.getElem?_append_right (by omega), h3]
   simpa using q
theorem wpList_na {ops : Array Oper} {rest : List Oper} {o : Oper} {a : Act} {Q : Exit → Act → World → Prop} (hgd : o.guard = none) (s x : Operand)
   (ho : o.op = .call { callee := .builtin .append, args := #[s, x], argTypes := #[54, 54] }) {g : Nat} {K M E p : Int} {b : Bool}
   (hs : a.eval s = .slice A n c) (hx : a.eval x = .slice (some ⟨g, 0, none⟩) 1 1) (h : Na w base A n c l) (q : Fq K b M E p) (X : Bo w g #[.int .i64 K, .bool b, .int .u64 M, .int .i64 E] 24) (hn : n + 1 ≤ 1099511627776) (hb : base ≤ w.heap.size)
   (hK : ∀ A2 c2 w', Na w' base A2 (n + 1) c2 (l ++ [p]) → w.grownBy w' (ownA A) → (ownA A2 = ownA A ∨ ownA A2 = some w.heap.size) → wpList Tryz.prog ops Q rest (a.put o.dst (.slice A2 (n + 1) c2)) w') : wpList Tryz.prog ops Q (o :: rest) a w := by
 refine wpList_plain hgd fun K hK2 => ?_
 obtain ⟨A2, c2, w', hr, h1, h2, h3⟩ := run_na (ty := o.type) h q X hn hb
 unfold Oper.wp execOp
 simp only [ho, resolve, invoke, builtin, Sem.run_bind, Sem.run_pure, Result.andThen_ok, List.map_toArray, List.map_cons, List.map_nil, hs, hx, hr]; exact hK2 _ _ (hK A2 c2 w' h1 h2 h3)
end
theorem nInfE {w : World} (s : Bool) : Calls Tryz.prog 55 #[.bool s] w (fun e w' => e = .returned (.agg #[.int .i64 2, .bool s, .int .u64 0, .int .i64 0]) ∧ Below w.heap.size w w') := by
 refine (nInf (s := s) rfl).mono ?_; rintro ee w2 ⟨K, s1, M, E, rfl, q, B⟩; obtain ⟨rfl, rfl, rfl, rfl⟩ := q.uniq (fq_inf2 s); exact ⟨rfl, B⟩
theorem cmp_gtE {x y c : Int} (h : cmpI x y = c) : decide (0 < c) = decide (y < x) := by
 rw [← h]
 by_cases e : y < x
 · rw [decide_eq_true e]
   exact decide_eq_true (by rcases cmpI_tri x y with ⟨a, b⟩ | ⟨a, b⟩ | ⟨a, b⟩ <;> rw [b] <;> omega)
 · rw [decide_eq_false e]
   exact decide_eq_false (by rcases cmpI_tri x y with ⟨a, b⟩ | ⟨a, b⟩ | ⟨a, b⟩ <;> rw [b] <;> omega)
theorem cmp_geE {x y c : Int} (h : cmpI x y = c) : decide (0 ≤ c) = decide (y ≤ x) := by
 rw [← h]
 by_cases e : y ≤ x
 · rw [decide_eq_true e]
   exact decide_eq_true (by rcases cmpI_tri x y with ⟨a, b⟩ | ⟨a, b⟩ | ⟨a, b⟩ <;> rw [b] <;> omega)
 · rw [decide_eq_false e]
   exact decide_eq_false (by rcases cmpI_tri x y with ⟨a, b⟩ | ⟨a, b⟩ | ⟨a, b⟩ <;> rw [b] <;> omega)
theorem kvNone {w : World}  : Calls Tryz.prog 33 #[] w (PV w none) := by
 go_enter Tryz.func33, Tryz.ntmps33
 go_upto_region 1 with (fail)
 generalize hW1 : w.alloc _ = w1 at *; obtain ⟨XR, HB⟩ := Bo.en1 hW1; clear hW1; have xXR := XR.cell; have zXR0 := XR.frozen; go_wp2; clear xXR zXR0; have SX := StN.mk9 XR (.bool true) (.int .i64 0) (.bool false) (.int .u64 0) (.int .i64 0) (.int .i64 0) (.bool false) (.int .u64 0) (.int .i64 0); exact bodyPost_ret (by simp [results, Tryz.results33, go_sem, SX.box.cell]) rfl ⟨_, _, _, _, _, _, _, _, _, rfl, Ci.none, (SX.below HB.out (by omega))⟩
theorem kvNoneE {w : World} : Calls Tryz.prog 33 #[] w (fun e w' => e = .returned (.agg #[.bool true, .int .i64 0, .bool false, .int .u64 0, .int .i64 0, .int .i64 0, .bool false, .int .u64 0, .int .i64 0]) ∧ Below w.heap.size w w') := by
 refine kvNone.mono ?_; rintro ee w2 ⟨e1, K1, s1, M1, E1, K1b, s1b, M1b, E1b, rfl, v1, B⟩; obtain ⟨rfl, rfl, rfl, rfl, rfl, rfl, rfl, rfl, rfl⟩ := v1.uniq Ci.none; exact ⟨rfl, B⟩
theorem kvOrN {w : World} {D M E : Int} {s : Bool} {r : Int} (hM : LQ M) (hr : rk D s M E = r) : Calls Tryz.prog 82 #[VQ D s M E] w (PN w r) := by
 delta VQ
 by_cases hm : MayQ D s M E
 · have HQ := rk_fq hM hm; rw [hr] at HQ
   have HC := Lib.hid (show decide (MayQ D s M E) = true from decide_eq_true hm)
   clear hm hr hM
   go_enter Tryz.func82, Tryz.ntmps82
   go_upto_region 1 with (fail)
   generalize hW1 : (w.alloc _).alloc _ = w1 at *; obtain ⟨X1, XR, HB⟩ := Bo.en2 hW1; clear hW1; have xX1 := X1.cell
   go_wp2_with fail
   refine (nMay HC.out).mono ?_; rintro ee w2 ⟨rfl, B⟩; clear xX1; replace X1 := X1.below B; replace XR := XR.below B; replace HB := Hqb HB B; clear B; have xXR := XR.cell; have zXR0 := XR.frozen; have xX1 := X1.cell; go_wp2; clear xXR zXR0 xX1; have SX := StN.mk4 XR (.int .i64 D) (.bool s) (.int .u64 M) (.int .i64 E)
   exact bodyPost_ret (by simp [results, Tryz.results82, go_sem, SX.box.cell]) rfl ⟨D, s, M, E, rfl, HQ, (SX.below HB.out (by omega))⟩
 · rw [rk_not hm] at hr; subst hr
   have HC := Lib.hid (show decide (MayQ D s M E) = false from decide_eq_false hm)
   clear hm hM
   go_enter Tryz.func82, Tryz.ntmps82
   go_upto_region 1 with (fail)
   generalize hW1 : (w.alloc _).alloc _ = w1 at *; obtain ⟨X1, XR, HB⟩ := Bo.en2 hW1; clear hW1; have xX1 := X1.cell
   go_wp2_with fail
   refine (nMay HC.out).mono ?_; rintro ee w2 ⟨rfl, B⟩; clear xX1; replace X1 := X1.below B; replace XR := XR.below B; replace HB := Hqb HB B; clear B; have xXR := XR.cell; have zXR0 := XR.frozen; have xX1 := X1.cell; go_wp2; clear xXR zXR0 xX1; have SX := StN.mk4 XR (.int .i64 0) (.bool false) (.int .u64 0) (.int .i64 0)
   exact bodyPost_ret (by simp [results, Tryz.results82, go_sem, SX.box.cell]) rfl ⟨_, _, _, _, rfl, Fq.nought, (SX.below HB.out (by omega))⟩
theorem kvMake {w : World} {D D' M M' E E' : Int} {s s' : Bool} {a b : Int} {x : Sp} (hM : LQ M) (hM' : LQ M') (ha : rk D s M E = a) (hb : rk D' s' M' E' = b) (hx : mkI a b = x) : Calls Tryz.prog 54 #[VQ D s M E, VQ D' s' M' E'] w (PV w x) := by
 delta VQ
 have HA := Lib.hid ha; have HBB := Lib.hid hb; clear ha hb
 go_enter Tryz.func54, Tryz.ntmps54
 go_upto_region 1 with (fail)
 generalize hW1 : ((w.alloc _).alloc _).alloc _ = w1 at *; obtain ⟨X2, X3, XR, HB⟩ := Bo.en3 hW1; clear hW1; refine Jo.rk [0, 1, 2, 3] [some 5, some 6, some 7, some 8, none, none] [[], [0], [], [2], [], []] 6 2 [Jo.q4 D s M E, Jo.Fact.num a, Jo.q4 D' s' M' E', Jo.Fact.num b, Jo.Fact.any, Jo.Fact.any] (by kernel_rfl) (by kernel_rfl) (by decide) rfl ?_ ?_
 · refine Jo.jm rfl ?_ ?_; rotate_left
   refine Jo.jm rfl ?_ ?_
   · rintro wj hJ _ rfl K hK; simp only [Jo.z] at hK ⊢; go_simp; refine (kvOrN hM HA.out).mono ?_; rintro ee wk ⟨K1, s1, M1, E1, rfl, q1, B⟩; exact hK.out _ _ ⟨K1, s1, M1, E1, rfl, q1⟩ B
   refine Jo.jm rfl ?_ ?_; rotate_left
   refine Jo.jm rfl ?_ ?_
   · rintro wj hJ _ rfl K hK; simp only [Jo.z] at hK ⊢; go_simp; refine (kvOrN hM' HBB.out).mono ?_; rintro ee wk ⟨K2, s2, M2, E2, rfl, q2, B⟩; exact hK.out _ _ ⟨K2, s2, M2, E2, rfl, q2⟩ B
   exact Jo.Steps.nil
   all_goals (rintro wj hJ; (repeat rintro _ rfl); intro K hK; simp only [Jo.z] at hK ⊢; have xX2 := (X2.below hJ).cell; have xX3 := (X3.below hJ).cell; go_simp; exact hK.out _ _ rfl (br _ _))
 rintro w2 hJ _ rfl _ ⟨K1, s1, M1, E1, rfl, q1⟩ _ rfl _ ⟨K2, s2, M2, E2, rfl, q2⟩ -; simp only [Jo.z]; replace X2 := X2.below hJ; replace X3 := X3.below hJ; replace XR := XR.below hJ; replace HB := Hqb HB hJ; have xX2 := X2.cell; have zX20 := X2.frozen
 refine Jo.jnext (i := 4) (o := ⟨none, _, _, _, _, _⟩) (by kernel_rfl) rfl (fun K hK => ?_)
 go_simp; refine hK.out _ _ ?_; clear hK K xX2 zX20; generalize hS : (((w2.setCell _ _).setCell _ _).setCell _ _).setCell _ _ = w3 at *; have SX := StN.of4 X2 hS; replace X3 := X3.stn SX (by omega); replace XR := XR.stn SX (by omega); replace HB := Hqs HB SX (by omega); replace X2 := SX.box; clear SX hS; have xX3 := X3.cell; have zX30 := X3.frozen
 refine Jo.jnext (i := 5) (o := ⟨none, _, _, _, _, _⟩) (by kernel_rfl) rfl (fun K hK => ?_)
 go_simp; refine hK.out _ _ ?_; clear hK K xX3 zX30; generalize hS : (((w3.setCell _ _).setCell _ _).setCell _ _).setCell _ _ = w4 at *; have SX := StN.of4 X3 hS; replace X2 := X2.stn SX (by omega); replace XR := XR.stn SX (by omega); replace HB := Hqs HB SX (by omega); replace X3 := SX.box; clear SX hS; refine Jo.jdone (by kernel_rfl) ?_; clear HA HBB hM hM'; obtain ⟨c, hc⟩ : ∃ c, cmpI a b = c := ⟨_, rfl⟩
 have hg := cmp_gtE hc
 have HC : Hid (cmpI (rk K1 s1 M1 E1) (rk K2 s2 M2 E2) = c) := Lib.hid (by rw [q1.rk, q2.rk]; exact hc)
 clear hc
 by_cases hgt : b < a
 · rw [mkI_none (by omega)] at hx
   obtain rfl : none = x := hx
   rw [decide_eq_true hgt] at hg; have HC0 := Lib.hid hg; clear hg hgt; go_wp2; refine Jo.rk [0, 1, 2, 3, 4, 5, 6, 7, 8, 9, 10, 11, 12, 13] [some 9, some 10, some 11, some 12, some 13, some 14, some 15, some 16, some 17, some 18, some 19, some 20, some 21, some 22] [[], [], [0, 1], [2], [3], [4], [4], [4, 5, 6], [4, 7], [8], [9], [9], [9, 10, 11], [9, 12]] 14 0 [Jo.q4 K1 s1 M1 E1, Jo.q4 K2 s2 M2 E2, Jo.qi c, Jo.qb true, Jo.qb true, Jo.qu, Jo.qu, Jo.qu, Jo.qb true, Jo.qb true, Jo.qu, Jo.qu, Jo.qu, Jo.qb true] (by kernel_rfl) (by kernel_rfl) (by decide) rfl ?_ ?_
   · iterate 2 (refine Jo.jm rfl ?_ ?_; rotate_left)
     refine Jo.jm rfl ?_ ?_
     · rintro wj hJ _ rfl _ rfl K hK; simp only [Jo.z] at hK ⊢; go_simp; refine (nCmp q1.top q2.top HC.out).mono ?_; rintro ee wk ⟨rfl, B⟩; exact hK.out _ _ rfl B
     refine Jo.jm rfl ?_ ?_
     · rintro wj hJ _ rfl K hK; simp only [Jo.z] at hK ⊢; have hc0 := HC0.out; go_simp
       exact hK.out _ _ (by first | rfl | (show Value.bool _ = Value.bool _; rw [hc0]) | simp_all) (br _ _)
     iterate 10 (refine Jo.jm rfl ?_ ?_; rotate_left)
     exact Jo.Steps.nil
     all_goals (rintro wj hJ; (repeat rintro _ rfl); intro K hK; simp only [Jo.z] at hK ⊢; have xX2 := (X2.below hJ).cell; have xX3 := (X3.below hJ).cell; go_simp; exact hK.out _ _ rfl (br _ _))
   rintro w8 hJ _ rfl _ rfl _ rfl _ rfl _ rfl _ rfl _ rfl _ rfl _ rfl _ rfl _ rfl _ rfl _ rfl _ rfl -; simp only [Jo.z]; replace X2 := X2.below hJ; replace X3 := X3.below hJ; replace XR := XR.below hJ; replace HB := Hqb HB hJ; refine Jo.jdone (by kernel_rfl) ?_
   go_wp2_with fail
   refine (kvNoneE).mono ?_; rintro ee w9 ⟨rfl, B⟩; replace X2 := X2.below B; replace X3 := X3.below B; replace XR := XR.below B; replace HB := Hqb HB B; clear B; have xXR := XR.cell; have zXR0 := XR.frozen; go_wp2; clear xXR zXR0; have SX := StN.mk9 XR (.bool true) (.int .i64 0) (.bool false) (.int .u64 0) (.int .i64 0) (.int .i64 0) (.bool false) (.int .u64 0) (.int .i64 0)
   exact bodyPost_ret (by simp [results, Tryz.results54, go_sem, SX.box.cell]) rfl ⟨_, _, _, _, _, _, _, _, _, rfl, Ci.none, (SX.below HB.out (by omega))⟩
 · rw [decide_eq_false hgt] at hg; have HC0 := Lib.hid hg; clear hg
   by_cases ht : a = 19342822337206103650074625
   · subst ht; rw [mkI_none (by omega)] at hx
     obtain rfl : none = x := hx
     obtain ⟨rfl, rfl, rfl, rfl⟩ := q1.uniq (show Fq 2 false 0 0 19342822337206103650074625 from fq_inf2 false)
     clear hgt; go_wp2; refine Jo.rk [0, 1, 2, 3, 4, 5, 6, 7, 8, 9, 10, 11, 12, 13] [some 9, some 10, some 11, some 12, some 13, some 14, some 15, some 16, some 17, some 18, some 19, some 20, some 21, some 22] [[], [], [0, 1], [2], [3], [4], [4], [4, 5, 6], [4, 7], [8], [9], [9], [9, 10, 11], [9, 12]] 14 0 [Jo.q4 2 false 0 0, Jo.q4 K2 s2 M2 E2, Jo.qi c, Jo.qb false, Jo.qb false, Jo.q4 2 false 0 0, Jo.q4 2 false 0 0, Jo.qb true, Jo.qb true, Jo.qb true, Jo.qu, Jo.qu, Jo.qu, Jo.qb true] (by kernel_rfl) (by kernel_rfl) (by decide) rfl ?_ ?_
     · iterate 2 (refine Jo.jm rfl ?_ ?_; rotate_left)
       refine Jo.jm rfl ?_ ?_
       · rintro wj hJ _ rfl _ rfl K hK; simp only [Jo.z] at hK ⊢; go_simp; refine (nCmp q1.top q2.top HC.out).mono ?_; rintro ee wk ⟨rfl, B⟩; exact hK.out _ _ rfl B
       refine Jo.jm rfl ?_ ?_
       · rintro wj hJ _ rfl K hK; simp only [Jo.z] at hK ⊢; have hc0 := HC0.out; go_simp
         exact hK.out _ _ (by first | rfl | (show Value.bool _ = Value.bool _; rw [hc0]) | simp_all) (br _ _)
       iterate 2 (refine Jo.jm rfl ?_ ?_; rotate_left)
       refine Jo.jm rfl ?_ ?_
       · rintro wj hJ _ rfl K hK; simp only [Jo.z] at hK ⊢; go_simp; refine (nInfE false).mono ?_; rintro ee wk ⟨rfl, B⟩; exact hK.out _ _ rfl B
       refine Jo.jm rfl ?_ ?_
       · rintro wj hJ _ rfl _ rfl _ rfl K hK; simp only [Jo.z] at hK ⊢; go_simp
         repeat' split
         all_goals exact hK.out _ _ (congrArg Value.bool (by first | rfl | (exfalso; simp_all) | simp_all)) (br _ _)
       iterate 6 (refine Jo.jm rfl ?_ ?_; rotate_left)
       exact Jo.Steps.nil
       all_goals (rintro wj hJ; (repeat rintro _ rfl); intro K hK; simp only [Jo.z] at hK ⊢; have xX2 := (X2.below hJ).cell; have xX3 := (X3.below hJ).cell; go_simp; exact hK.out _ _ rfl (br _ _))
     rintro w8 hJ _ rfl _ rfl _ rfl _ rfl _ rfl _ rfl _ rfl _ rfl _ rfl _ rfl _ rfl _ rfl _ rfl _ rfl -; simp only [Jo.z]; replace X2 := X2.below hJ; replace X3 := X3.below hJ; replace XR := XR.below hJ; replace HB := Hqb HB hJ; refine Jo.jdone (by kernel_rfl) ?_
     go_wp2_with fail
     refine (kvNoneE).mono ?_; rintro ee w9 ⟨rfl, B⟩; replace X2 := X2.below B; replace X3 := X3.below B; replace XR := XR.below B; replace HB := Hqb HB B; clear B; have xXR := XR.cell; have zXR0 := XR.frozen; go_wp2; clear xXR zXR0; have SX := StN.mk9 XR (.bool true) (.int .i64 0) (.bool false) (.int .u64 0) (.int .i64 0) (.int .i64 0) (.bool false) (.int .u64 0) (.int .i64 0)
     exact bodyPost_ret (by simp [results, Tryz.results54, go_sem, SX.box.cell]) rfl ⟨_, _, _, _, _, _, _, _, _, rfl, Ci.none, (SX.below HB.out (by omega))⟩
   · have HN1 : Hid (¬ (K1 = 2 ∧ s1 = false ∧ M1 = 0 ∧ E1 = 0)) := Lib.hid (by
       rintro ⟨rfl, rfl, rfl, rfl⟩; exact ht (by rw [← q1.rk]; exact (fq_inf2 false).rk))
     by_cases hb : b = -19342822337206103650074625
     · subst hb; rw [mkI_none (by omega)] at hx
       obtain rfl : none = x := hx
       obtain ⟨rfl, rfl, rfl, rfl⟩ := q2.uniq (show Fq 2 true 0 0 (-19342822337206103650074625) from fq_inf2 true)
       clear hgt ht; go_wp2; refine Jo.rk [0, 1, 2, 3, 4, 5, 6, 7, 8, 9, 10, 11, 12, 13] [some 9, some 10, some 11, some 12, some 13, some 14, some 15, some 16, some 17, some 18, some 19, some 20, some 21, some 22] [[], [], [0, 1], [2], [3], [4], [4], [4, 5, 6], [4, 7], [8], [9], [9], [9, 10, 11], [9, 12]] 14 0 [Jo.q4 K1 s1 M1 E1, Jo.q4 2 true 0 0, Jo.qi c, Jo.qb false, Jo.qb false, Jo.q4 K1 s1 M1 E1, Jo.q4 2 false 0 0, Jo.qb false, Jo.qb false, Jo.qb false, Jo.q4 2 true 0 0, Jo.q4 2 true 0 0, Jo.qb true, Jo.qb true] (by kernel_rfl) (by kernel_rfl) (by decide) rfl ?_ ?_
       · iterate 2 (refine Jo.jm rfl ?_ ?_; rotate_left)
         refine Jo.jm rfl ?_ ?_
         · rintro wj hJ _ rfl _ rfl K hK; simp only [Jo.z] at hK ⊢; go_simp; refine (nCmp q1.top q2.top HC.out).mono ?_; rintro ee wk ⟨rfl, B⟩; exact hK.out _ _ rfl B
         refine Jo.jm rfl ?_ ?_
         · rintro wj hJ _ rfl K hK; simp only [Jo.z] at hK ⊢; have hc0 := HC0.out; go_simp
           exact hK.out _ _ (by first | rfl | (show Value.bool _ = Value.bool _; rw [hc0]) | simp_all) (br _ _)
         iterate 2 (refine Jo.jm rfl ?_ ?_; rotate_left)
         refine Jo.jm rfl ?_ ?_
         · rintro wj hJ _ rfl K hK; simp only [Jo.z] at hK ⊢; go_simp; refine (nInfE false).mono ?_; rintro ee wk ⟨rfl, B⟩; exact hK.out _ _ rfl B
         refine Jo.jm rfl ?_ ?_
         · rintro wj hJ _ rfl _ rfl _ rfl K hK; simp only [Jo.z] at hK ⊢; have hne := HN1.out; go_simp
           repeat' split
           all_goals exact hK.out _ _ (congrArg Value.bool (by first | rfl | (exfalso; simp_all))) (br _ _)
         iterate 3 (refine Jo.jm rfl ?_ ?_; rotate_left)
         refine Jo.jm rfl ?_ ?_
         · rintro wj hJ _ rfl K hK; simp only [Jo.z] at hK ⊢; go_simp; refine (nInfE true).mono ?_; rintro ee wk ⟨rfl, B⟩; exact hK.out _ _ rfl B
         refine Jo.jm rfl ?_ ?_
         · rintro wj hJ _ rfl _ rfl _ rfl K hK; simp only [Jo.z] at hK ⊢; go_simp
           repeat' split
           all_goals exact hK.out _ _ (congrArg Value.bool (by first | rfl | (exfalso; simp_all) | simp_all)) (br _ _)
         refine Jo.jm rfl ?_ ?_; rotate_left
         exact Jo.Steps.nil
         all_goals (rintro wj hJ; (repeat rintro _ rfl); intro K hK; simp only [Jo.z] at hK ⊢; have xX2 := (X2.below hJ).cell; have xX3 := (X3.below hJ).cell; go_simp; exact hK.out _ _ rfl (br _ _))
       rintro w8 hJ _ rfl _ rfl _ rfl _ rfl _ rfl _ rfl _ rfl _ rfl _ rfl _ rfl _ rfl _ rfl _ rfl _ rfl -; simp only [Jo.z]; replace X2 := X2.below hJ; replace X3 := X3.below hJ; replace XR := XR.below hJ; replace HB := Hqb HB hJ; refine Jo.jdone (by kernel_rfl) ?_
       go_wp2_with fail
       refine (kvNoneE).mono ?_; rintro ee w9 ⟨rfl, B⟩; replace X2 := X2.below B; replace X3 := X3.below B; replace XR := XR.below B; replace HB := Hqb HB B; clear B; have xXR := XR.cell; have zXR0 := XR.frozen; go_wp2; clear xXR zXR0; have SX := StN.mk9 XR (.bool true) (.int .i64 0) (.bool false) (.int .u64 0) (.int .i64 0) (.int .i64 0) (.bool false) (.int .u64 0) (.int .i64 0)
       exact bodyPost_ret (by simp [results, Tryz.results54, go_sem, SX.box.cell]) rfl ⟨_, _, _, _, _, _, _, _, _, rfl, Ci.none, (SX.below HB.out (by omega))⟩
     · have HN2 : Hid (¬ (K2 = 2 ∧ s2 = true ∧ M2 = 0 ∧ E2 = 0)) := Lib.hid (by
         rintro ⟨rfl, rfl, rfl, rfl⟩; exact hb (by rw [← q2.rk]; exact (fq_inf2 true).rk))
       have g1 := q1.bd; have g2 := q2.bd
       have g3 : a ≤ b := by omega
       have g4 : a < 19342822337206103650074625 := by omega
       have g5 : -19342822337206103650074625 < b := by omega
       rw [mkI_some g3 g4 g5] at hx
       obtain rfl : some (a, b) = x := hx
       have HV : Ci false K1 s1 M1 E1 K2 s2 M2 E2 (some (a, b)) := ⟨rfl, q1, q2, g3, g4, g5⟩
       clear hgt ht hb g1 g2 g3 g4 g5; go_wp2; refine Jo.rk [0, 1, 2, 3, 4, 5, 6, 7, 8, 9, 10, 11, 12, 13] [some 9, some 10, some 11, some 12, some 13, some 14, some 15, some 16, some 17, some 18, some 19, some 20, some 21, some 22] [[], [], [0, 1], [2], [3], [4], [4], [4, 5, 6], [4, 7], [8], [9], [9], [9, 10, 11], [9, 12]] 14 0 [Jo.q4 K1 s1 M1 E1, Jo.q4 K2 s2 M2 E2, Jo.qi c, Jo.qb false, Jo.qb false, Jo.q4 K1 s1 M1 E1, Jo.q4 2 false 0 0, Jo.qb false, Jo.qb false, Jo.qb false, Jo.q4 K2 s2 M2 E2, Jo.q4 2 true 0 0, Jo.qb false, Jo.qb false] (by kernel_rfl) (by kernel_rfl) (by decide) rfl ?_ ?_
       · iterate 2 (refine Jo.jm rfl ?_ ?_; rotate_left)
         refine Jo.jm rfl ?_ ?_
         · rintro wj hJ _ rfl _ rfl K hK; simp only [Jo.z] at hK ⊢; go_simp; refine (nCmp q1.top q2.top HC.out).mono ?_; rintro ee wk ⟨rfl, B⟩; exact hK.out _ _ rfl B
         refine Jo.jm rfl ?_ ?_
         · rintro wj hJ _ rfl K hK; simp only [Jo.z] at hK ⊢; have hc0 := HC0.out; go_simp
           exact hK.out _ _ (by first | rfl | (show Value.bool _ = Value.bool _; rw [hc0]) | simp_all) (br _ _)
         iterate 2 (refine Jo.jm rfl ?_ ?_; rotate_left)
         refine Jo.jm rfl ?_ ?_
         · rintro wj hJ _ rfl K hK; simp only [Jo.z] at hK ⊢; go_simp; refine (nInfE false).mono ?_; rintro ee wk ⟨rfl, B⟩; exact hK.out _ _ rfl B
         refine Jo.jm rfl ?_ ?_
         · rintro wj hJ _ rfl _ rfl _ rfl K hK; simp only [Jo.z] at hK ⊢; have hne := HN1.out; go_simp
           repeat' split
           all_goals exact hK.out _ _ (congrArg Value.bool (by first | rfl | (exfalso; simp_all))) (br _ _)
         iterate 3 (refine Jo.jm rfl ?_ ?_; rotate_left)
         refine Jo.jm rfl ?_ ?_
         · rintro wj hJ _ rfl K hK; simp only [Jo.z] at hK ⊢; go_simp; refine (nInfE true).mono ?_; rintro ee wk ⟨rfl, B⟩; exact hK.out _ _ rfl B
         refine Jo.jm rfl ?_ ?_
         · rintro wj hJ _ rfl _ rfl _ rfl K hK; simp only [Jo.z] at hK ⊢; have hne := HN2.out; go_simp
           repeat' split
           all_goals exact hK.out _ _ (congrArg Value.bool (by first | rfl | (exfalso; simp_all))) (br _ _)
         refine Jo.jm rfl ?_ ?_; rotate_left
         exact Jo.Steps.nil
         all_goals (rintro wj hJ; (repeat rintro _ rfl); intro K hK; simp only [Jo.z] at hK ⊢; have xX2 := (X2.below hJ).cell; have xX3 := (X3.below hJ).cell; go_simp; exact hK.out _ _ rfl (br _ _))
       rintro w8 hJ _ rfl _ rfl _ rfl _ rfl _ rfl _ rfl _ rfl _ rfl _ rfl _ rfl _ rfl _ rfl _ rfl _ rfl -; simp only [Jo.z]; replace X2 := X2.below hJ; replace X3 := X3.below hJ; replace XR := XR.below hJ; replace HB := Hqb HB hJ; refine Jo.jdone (by kernel_rfl) ?_; have xXR := XR.cell; have zXR0 := XR.frozen; have xX2 := X2.cell
       have xX3 := X3.cell; go_wp2; clear xXR zXR0 xX2 xX3; have SX := StN.mk9 XR (.bool false) (.int .i64 K1) (.bool s1) (.int .u64 M1) (.int .i64 E1) (.int .i64 K2) (.bool s2) (.int .u64 M2) (.int .i64 E2); exact bodyPost_ret (by simp [results, Tryz.results54, go_sem, SX.box.cell]) rfl ⟨_, _, _, _, _, _, _, _, _, rfl, HV, (SX.below HB.out (by omega))⟩
theorem may_make {e : Bool} {D M E D' M' E' : Int} {s s' : Bool} {e4 : Bool} {K4 M4 E4 K4b M4b E4b : Int} {s4 s4b : Bool} (hM : LQ M) (hM' : LQ M') (v : Ci e4 K4 s4 M4 E4 K4b s4b M4b E4b (mkI (rk D s M E) (rk D' s' M' E'))) (h1 : ¬ (e = true ∧ D = 0 ∧ s = false ∧ M = 0 ∧ E = 0 ∧ D' = 0 ∧ s' = false ∧ M' = 0 ∧ E' = 0)) : (e = e4 ∧ D = K4 ∧ s = s4 ∧ M = M4 ∧ E = E4 ∧ D' = K4b ∧ s' = s4b ∧ M' = M4b ∧ E' = E4b) ↔ mayI e D s M E D' s' M' E' = true := by
 constructor
 · rintro ⟨rfl, rfl, rfl, rfl, rfl, rfl, rfl, rfl, rfl⟩; exact v.may
 · intro h
   have c := mayI_ci hM hM' h
   cases e
   · have h2 : decide (rkI false D s M E D' s' M' E' ≠ none) = true := h
     rw [rkI_f] at c; rw [decide_eq_true_iff, rkI_f] at h2
     by_cases hq : MayQ D s M E ∧ MayQ D' s' M' E'
     · rw [if_pos hq] at c; exact c.uniq v
     · rw [if_neg hq] at h2; exact absurd rfl h2
   · rw [rkI_t] at c; exact absurd (c.uniq Ci.none) h1
theorem kvMay {w : World} {e : Bool} {D M E D' M' E' : Int} {s s' : Bool} {r : Bool} (hM : LQ M) (hM' : LQ M') (hr : mayI e D s M E D' s' M' E' = r) : Calls Tryz.prog 84 #[VI e D s M E D' s' M' E'] w (PB w r) := by
 delta VI
 by_cases h1 : e = true ∧ D = 0 ∧ s = false ∧ M = 0 ∧ E = 0 ∧ D' = 0 ∧ s' = false ∧ M' = 0 ∧ E' = 0
 · obtain ⟨rfl, rfl, rfl, rfl, rfl, rfl, rfl, rfl, rfl⟩ := h1
   obtain rfl : true = r := Ci.none.may.symm.trans hr
   clear hr
   go_enter Tryz.func84, Tryz.ntmps84
   go_upto_region 1 with (fail)
   generalize hW1 : w.alloc _ = w1 at *; obtain ⟨X1, HB⟩ := Bo.en1 hW1; clear hW1; refine Jo.rk [0, 1, 2, 3, 4, 5, 6, 7, 8, 9, 10, 11, 12] [some 3, some 4, some 5, some 6, some 7, some 8, some 9, some 10, some 11, some 12, some 13, some 14, some 2] [[], [], [0, 1], [2], [3], [3], [3, 5], [3], [3, 7], [3, 6, 8], [3, 4, 9], [3, 10], [11]] 13 0 [Jo.q9 true 0 false 0 0 0 false 0 0, Jo.q9 true 0 false 0 0 0 false 0 0, Jo.qb true, Jo.qb true, Jo.qu, Jo.qu, Jo.qu, Jo.qu, Jo.qu, Jo.qu, Jo.qu, Jo.qb true, Jo.qb true] (by kernel_rfl) (by kernel_rfl) (by decide) rfl ?_ ?_
   · refine Jo.jm rfl ?_ ?_; rotate_left
     refine Jo.jm rfl ?_ ?_
     · rintro wj hJ K hK; simp only [Jo.z] at hK ⊢; go_simp; refine (kvNoneE).mono ?_; rintro ee wk ⟨rfl, B⟩; exact hK.out _ _ rfl B
     refine Jo.jm rfl ?_ ?_
     · rintro wj hJ _ rfl _ rfl K hK; simp only [Jo.z] at hK ⊢; go_simp
       repeat' split
       all_goals exact hK.out _ _ (congrArg Value.bool (by first | rfl | (exfalso; simp_all) | simp_all)) (br _ _)
     iterate 10 (refine Jo.jm rfl ?_ ?_; rotate_left)
     exact Jo.Steps.nil
     all_goals (rintro wj hJ; (repeat rintro _ rfl); intro K hK; simp only [Jo.z] at hK ⊢; have xX1 := (X1.below hJ).cell; go_simp; exact hK.out _ _ rfl (br _ _))
   rintro w8 hJ _ rfl _ rfl _ rfl _ rfl _ rfl _ rfl _ rfl _ rfl _ rfl _ rfl _ rfl _ rfl _ rfl -; simp only [Jo.z]; replace X1 := X1.below hJ; replace HB := Hqb HB hJ; refine Jo.jdone (by kernel_rfl) ?_; go_wp2
   go_ret
   exact ⟨rfl, HB.out⟩
 · have HN1 := Lib.hid h1
   have HY : Hid (∀ {e4 K4 s4 M4 E4 K4b s4b M4b E4b}, Ci e4 K4 s4 M4 E4 K4b s4b M4b E4b (mkI (rk D s M E) (rk D' s' M' E')) → ((e = e4 ∧ D = K4 ∧ s = s4 ∧ M = M4 ∧ E = E4 ∧ D' = K4b ∧ s' = s4b ∧ M' = M4b ∧ E' = E4b) ↔ r = true)) := Lib.hid (fun v => by rw [← hr]; exact may_make hM hM' v h1)
   clear hr h1
   cases r
   · go_enter Tryz.func84, Tryz.ntmps84
     go_upto_region 1 with (fail)
     generalize hW1 : w.alloc _ = w1 at *; obtain ⟨X1, HB⟩ := Bo.en1 hW1; clear hW1; refine Jo.rk [0, 1, 2, 3, 4, 5, 6, 7, 8, 9, 10, 11, 12] [some 3, some 4, some 5, some 6, some 7, some 8, some 9, some 10, some 11, some 12, some 13, some 14, some 2] [[], [], [0, 1], [2], [3], [3], [3, 5], [3], [3, 7], [3, 6, 8], [3, 4, 9], [3, 10], [11]] 13 0 [Jo.q9 e D s M E D' s' M' E', Jo.q9 true 0 false 0 0 0 false 0 0, Jo.qb false, Jo.qb false, Jo.q9 e D s M E D' s' M' E', Jo.qp w.heap.size 1, Jo.q4 D s M E, Jo.qp w.heap.size 5, Jo.q4 D' s' M' E', Jo.Fact.iv (mkI (rk D s M E) (rk D' s' M' E')), Jo.qb false, Jo.qb false, Jo.qb false] (by kernel_rfl) (by kernel_rfl) (by decide) rfl ?_ ?_
     · refine Jo.jm rfl ?_ ?_; rotate_left
       refine Jo.jm rfl ?_ ?_
       · rintro wj hJ K hK; simp only [Jo.z] at hK ⊢; go_simp; refine (kvNoneE).mono ?_; rintro ee wk ⟨rfl, B⟩; exact hK.out _ _ rfl B
       refine Jo.jm rfl ?_ ?_
       · rintro wj hJ _ rfl _ rfl K hK; simp only [Jo.z] at hK ⊢; have hne := HN1.out; go_simp
         repeat' split
         all_goals exact hK.out _ _ (congrArg Value.bool (by first | rfl | (exfalso; simp_all))) (br _ _)
       iterate 6 (refine Jo.jm rfl ?_ ?_; rotate_left)
       refine Jo.jm rfl ?_ ?_
       · rintro wj hJ _ rfl _ rfl _ rfl K hK; simp only [Jo.z] at hK ⊢; go_simp; refine (kvMake hM hM' rfl rfl rfl).mono ?_; rintro ee wk ⟨e9, K9, s9, M9, E9, K9b, s9b, M9b, E9b, rfl, v9, B⟩; exact hK.out _ _ ⟨e9, K9, s9, M9, E9, K9b, s9b, M9b, E9b, rfl, v9⟩ B
       refine Jo.jm rfl ?_ ?_
       · rintro wj hJ _ rfl _ rfl _ ⟨e9, K9, s9, M9, E9, K9b, s9b, M9b, E9b, rfl, v9⟩ K hK; simp only [Jo.z] at hK ⊢
         have hne := fun c => ff ((HY.out v9).1 c)
         go_simp
         repeat' split
         all_goals exact hK.out _ _ (congrArg Value.bool (by first | rfl | (exfalso; simp_all))) (br _ _)
       iterate 2 (refine Jo.jm rfl ?_ ?_; rotate_left)
       exact Jo.Steps.nil
       all_goals (rintro wj hJ; (repeat rintro _ rfl); intro K hK; simp only [Jo.z] at hK ⊢; have xX1 := (X1.below hJ).cell; go_simp; exact hK.out _ _ rfl (br _ _))
     rintro w8 hJ _ rfl _ rfl _ rfl _ rfl _ rfl _ _ _ rfl _ _ _ rfl _ ⟨e9, K9, s9, M9, E9, K9b, s9b, M9b, E9b, rfl, v9⟩ _ rfl _ rfl _ rfl -; simp only [Jo.z]; replace X1 := X1.below hJ; replace HB := Hqb HB hJ; refine Jo.jdone (by kernel_rfl) ?_; go_wp2
     go_ret
     exact ⟨rfl, HB.out⟩
   · go_enter Tryz.func84, Tryz.ntmps84
     go_upto_region 1 with (fail)
     generalize hW1 : w.alloc _ = w1 at *; obtain ⟨X1, HB⟩ := Bo.en1 hW1; clear hW1; refine Jo.rk [0, 1, 2, 3, 4, 5, 6, 7, 8, 9, 10, 11, 12] [some 3, some 4, some 5, some 6, some 7, some 8, some 9, some 10, some 11, some 12, some 13, some 14, some 2] [[], [], [0, 1], [2], [3], [3], [3, 5], [3], [3, 7], [3, 6, 8], [3, 4, 9], [3, 10], [11]] 13 0 [Jo.q9 e D s M E D' s' M' E', Jo.q9 true 0 false 0 0 0 false 0 0, Jo.qb false, Jo.qb false, Jo.q9 e D s M E D' s' M' E', Jo.qp w.heap.size 1, Jo.q4 D s M E, Jo.qp w.heap.size 5, Jo.q4 D' s' M' E', Jo.Fact.iv (mkI (rk D s M E) (rk D' s' M' E')), Jo.qb true, Jo.qb true, Jo.qb true] (by kernel_rfl) (by kernel_rfl) (by decide) rfl ?_ ?_
     · refine Jo.jm rfl ?_ ?_; rotate_left
       refine Jo.jm rfl ?_ ?_
       · rintro wj hJ K hK; simp only [Jo.z] at hK ⊢; go_simp; refine (kvNoneE).mono ?_; rintro ee wk ⟨rfl, B⟩; exact hK.out _ _ rfl B
       refine Jo.jm rfl ?_ ?_
       · rintro wj hJ _ rfl _ rfl K hK; simp only [Jo.z] at hK ⊢; have hne := HN1.out; go_simp
         repeat' split
         all_goals exact hK.out _ _ (congrArg Value.bool (by first | rfl | (exfalso; simp_all))) (br _ _)
       iterate 6 (refine Jo.jm rfl ?_ ?_; rotate_left)
       refine Jo.jm rfl ?_ ?_
       · rintro wj hJ _ rfl _ rfl _ rfl K hK; simp only [Jo.z] at hK ⊢; go_simp; refine (kvMake hM hM' rfl rfl rfl).mono ?_; rintro ee wk ⟨e9, K9, s9, M9, E9, K9b, s9b, M9b, E9b, rfl, v9, B⟩; exact hK.out _ _ ⟨e9, K9, s9, M9, E9, K9b, s9b, M9b, E9b, rfl, v9⟩ B
       refine Jo.jm rfl ?_ ?_
       · rintro wj hJ _ rfl _ rfl _ ⟨e9, K9, s9, M9, E9, K9b, s9b, M9b, E9b, rfl, v9⟩ K hK; simp only [Jo.z] at hK ⊢; obtain ⟨rfl, rfl, rfl, rfl, rfl, rfl, rfl, rfl, rfl⟩ := (HY.out v9).2 rfl; go_simp
         repeat' split
         all_goals exact hK.out _ _ (congrArg Value.bool (by first | rfl | (exfalso; simp_all) | simp_all)) (br _ _)
       iterate 2 (refine Jo.jm rfl ?_ ?_; rotate_left)
       exact Jo.Steps.nil
       all_goals (rintro wj hJ; (repeat rintro _ rfl); intro K hK; simp only [Jo.z] at hK ⊢; have xX1 := (X1.below hJ).cell; go_simp; exact hK.out _ _ rfl (br _ _))
     rintro w8 hJ _ rfl _ rfl _ rfl _ rfl _ rfl _ _ _ rfl _ _ _ rfl _ ⟨e9, K9, s9, M9, E9, K9b, s9b, M9b, E9b, rfl, v9⟩ _ rfl _ rfl _ rfl -; simp only [Jo.z]; replace X1 := X1.below hJ; replace HB := Hqb HB hJ; refine Jo.jdone (by kernel_rfl) ?_; go_wp2
     go_ret
     exact ⟨rfl, HB.out⟩
theorem kvOrE {w : World} {e : Bool} {D M E D' M' E' : Int} {s s' : Bool} {x : Sp} (hM : LQ M) (hM' : LQ M') (hr : rkI e D s M E D' s' M' E' = x) : Calls Tryz.prog 58 #[VI e D s M E D' s' M' E'] w (PV w x) := by
 delta VI
 cases hm : mayI e D s M E D' s' M' E'
 · obtain rfl : none = x := (mayI_no hm).symm.trans hr
   have HM := Lib.hid hm; clear hm hr
   go_enter Tryz.func58, Tryz.ntmps58
   go_upto_region 1 with (fail)
   generalize hW1 : (w.alloc _).alloc _ = w1 at *; obtain ⟨X1, XR, HB⟩ := Bo.en2 hW1; clear hW1; have xX1 := X1.cell
   go_wp2_with fail
   refine (kvMay hM hM' HM.out).mono ?_; rintro ee w2 ⟨rfl, B⟩; clear xX1; replace X1 := X1.below B; replace XR := XR.below B; replace HB := Hqb HB B; clear B; clear HM hM hM'
   go_wp2_with fail
   refine (kvNoneE).mono ?_; rintro ee w3 ⟨rfl, B⟩; replace X1 := X1.below B; replace XR := XR.below B; replace HB := Hqb HB B; clear B; have xXR := XR.cell; have zXR0 := XR.frozen; go_wp2; clear xXR zXR0; have SX := StN.mk9 XR (.bool true) (.int .i64 0) (.bool false) (.int .u64 0) (.int .i64 0) (.int .i64 0) (.bool false) (.int .u64 0) (.int .i64 0)
   exact bodyPost_ret (by simp [results, Tryz.results58, go_sem, SX.box.cell]) rfl ⟨_, _, _, _, _, _, _, _, _, rfl, Ci.none, (SX.below HB.out (by omega))⟩
 · have hv := mayI_ci hM hM' hm; rw [hr] at hv; have HM := Lib.hid hm; clear hm hr
   go_enter Tryz.func58, Tryz.ntmps58
   go_upto_region 1 with (fail)
   generalize hW1 : (w.alloc _).alloc _ = w1 at *; obtain ⟨X1, XR, HB⟩ := Bo.en2 hW1; clear hW1; have xX1 := X1.cell
   go_wp2_with fail
   refine (kvMay hM hM' HM.out).mono ?_; rintro ee w2 ⟨rfl, B⟩; clear xX1; replace X1 := X1.below B; replace XR := XR.below B; replace HB := Hqb HB B; clear B; clear HM hM hM'; have xXR := XR.cell; have zXR0 := XR.frozen; have xX1 := X1.cell; go_wp2
   clear xXR zXR0 xX1; have SX := StN.mk9 XR (.bool e) (.int .i64 D) (.bool s) (.int .u64 M) (.int .i64 E) (.int .i64 D') (.bool s') (.int .u64 M') (.int .i64 E'); exact bodyPost_ret (by simp [results, Tryz.results58, go_sem, SX.box.cell]) rfl ⟨_, _, _, _, _, _, _, _, _, rfl, hv, (SX.below HB.out (by omega))⟩
end Go.Proofs.YtnbliijpjcmbjaaGreatDoor

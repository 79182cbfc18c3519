/-
  The walk of BackSums: for all arguments the call answers true, and nothing that was there has turned.
-/
import Derived.Test.YtnbliijpjcmbjaaGreatDoorYCbj
import Derived.Test.YtnbliijpjcmbjaaGreatDoorYCbk
namespace Go.Proofs.YtnbliijpjcmbjaaGreatDoor
open Go.RowKit
set_option linter.unusedVariables false
set_option linter.unusedSimpArgs false
set_option maxRecDepth 100000
theorem FzI.meet {x y : Sp} {h : Nat} (f : FzI x h) (g : FzI y h) : FzI (meetI x y) h := by
 rcases x with _ | ⟨a, b⟩
 · exact fun _ _ e => by cases e
 rcases y with _ | ⟨c, d⟩
 · exact fun _ _ e => by cases e
 obtain ⟨f1, f2⟩ := f a b rfl; obtain ⟨g1, g2⟩ := g c d rfl
 show FzI (mkI (max a c) (min b d)) h
 refine FzI.mk ?_ ?_
 · rcases Int.le_total a c with e | e
   · rw [show max a c = c by omega]; exact g1
   · rw [show max a c = a by omega]; exact f1
 · rcases Int.le_total b d with e | e
   · rw [show min b d = b by omega]; exact f2
   · rw [show min b d = d by omega]; exact g2
set_option maxHeartbeats 8000000 in
theorem backSums_main (e0 : Bool) (D0 : Int) (s0 : Bool) (M0 E0 G0 : Int) (g0 : Bool) (P0 Q0 : Int) (e1 : Bool) (D1 : Int) (s1 : Bool) (M1 E1 G1 : Int) (g1 : Bool) (P1 Q1 : Int) (e2 : Bool) (D2 : Int) (s2 : Bool) (M2 E2 G2 : Int) (g2 : Bool) (P2 Q2 : Int) (w : World) (z x y a b c d : Sp) (p p2 p3 : Bool) {q : Bool → Int → Int → Int} (hq : QF q) {r : Bool → Int → Int} (hr : RF r) (hT : Tab w) (hT2 : Tb w) (u0 : LQ M0) (v0 : LQ P0) (u1 : LQ M1) (v1 : LQ P1) (u2 : LQ M2) (v2 : LQ P2) (hz : rkI e0 D0 s0 M0 E0 G0 g0 P0 Q0 = z) (hx : rkI e1 D1 s1 M1 E1 G1 g1 P1 Q1 = x) (hy : rkI e2 D2 s2 M2 E2 G2 g2 P2 Q2 = y) (k1 : (fewq D1 E1 && fewq G1 Q1) = p) (k2 : (fewq D2 E2 && fewq G2 Q2) = p2) (k0 : (fewq D0 E0 && fewq G0 Q0) = p3)
   (ha : meetI x (subI z y) = a) (hb : meetI y (subI z a) = b) (hc : meetI x (addI z y) = c) (hd : meetI y (subI c z) = d)
   (hn : p = true → p2 = true → p3 = true → NearA z (negI y) ∧ NearA z (negI a) ∧ NearA z y ∧ NearA c (negI z)) :
   Calls Tryz.prog 3 #[VI e0 D0 s0 M0 E0 G0 g0 P0 Q0, VI e1 D1 s1 M1 E1 G1 g1 P1 Q1, VI e2 D2 s2 M2 E2 G2 g2 P2 Q2] w (PB w true) := by
 delta VI
 have HZ := Lib.hid hz; have HX := Lib.hid hx; have HY := Lib.hid hy; have H1 := Lib.hid k1; have H2 := Lib.hid k2; have H0 := Lib.hid k0; have HA := Lib.hid ha; have HBB := Lib.hid hb; have HCC := Lib.hid hc; have HD := Lib.hid hd; have HNR := Lib.hid hn; have HQ := Lib.hid hq; have HRR := Lib.hid hr; clear hz hx hy k1 k2 k0 ha hb hc hd hn hq hr
 go_enter Tryz.func3, Tryz.ntmps3
 go_upto_region 1 with (fail)
 generalize hW1 : ((w.alloc _).alloc _).alloc _ = w1 at *; obtain ⟨X0, X1, X2, HB⟩ := Bo.en3 hW1; replace hT := hT.below HB.out; replace hT2 := hT2.below HB.out; clear hW1
 go_wp2_with fail
 refine (awake10 hT hT2 HRR.out).mono ?_; rintro ee w2 ⟨rfl, B⟩; replace X0 := X0.below B; replace X1 := X1.below B; replace X2 := X2.below B; replace hT := hT.below B; replace hT2 := hT2.below B; replace HB := Hqb HB B; clear B; have xX1 := X1.cell
 go_wp2_with fail
 refine (kvFew9 H1.out).mono ?_; rintro ee w3 ⟨rfl, B⟩; clear xX1; replace X0 := X0.below B; replace X1 := X1.below B; replace X2 := X2.below B; replace hT := hT.below B; replace hT2 := hT2.below B; replace HB := Hqb HB B; clear B; have xX2 := X2.cell
 go_wp2_with fail
 refine (kvFew9 H2.out).mono ?_; rintro ee w4 ⟨rfl, B⟩; clear xX2; replace X0 := X0.below B; replace X1 := X1.below B; replace X2 := X2.below B; replace hT := hT.below B; replace hT2 := hT2.below B; replace HB := Hqb HB B; clear B; have xX0 := X0.cell
 go_wp2_with fail
 refine (kvFew9 H0.out).mono ?_; rintro ee w5 ⟨rfl, B⟩; clear xX0; replace X0 := X0.below B; replace X1 := X1.below B; replace X2 := X2.below B; replace hT := hT.below B; replace hT2 := hT2.below B; replace HB := Hqb HB B; clear B
 cases p
 · go_wp2
   go_ret
   exact ⟨rfl, HB.out⟩
 · cases p2
   · go_wp2
     go_ret
     exact ⟨rfl, HB.out⟩
   · cases p3
     · go_wp2
       go_ret
       exact ⟨rfl, HB.out⟩
     · obtain ⟨n1, n2, n3, n4⟩ := HNR.out rfl rfl rfl; have HN1 := Lib.hid n1; have HN2 := Lib.hid n2; have HN3 := Lib.hid n3; have HN4 := Lib.hid n4; clear n1 n2 n3 n4 HNR; have xX0 := X0.cell; have xX1 := X1.cell; have xX2 := X2.cell
       go_wp2_with fail
       refine (bkPlus hT2 u0 v0 u1 v1 u2 v2 HZ.out HX.out HY.out HA.out HBB.out).mono ?_; rintro ee w6 ⟨e21, K21, s21, M21, E21, K21b, s21b, M21b, E21b, e22, K22, s22, M22, E22, K22b, s22b, M22b, E22b, rfl, v21, v22, B⟩; clear xX0 xX1 xX2; replace X0 := X0.below B; replace X1 := X1.below B
       replace X2 := X2.below B; replace hT := hT.below B; replace hT2 := hT2.below B; replace HB := Hqb HB B; clear B
       go_upto_region 8 with (fail)
       have e4X12 : (World.alloc w6 (.cells #[.bool e21, .int .i64 K21, .bool s21, .int .u64 M21, .int .i64 E21, .int .i64 K21b, .bool s21b, .int .u64 M21b, .int .i64 E21b] 26)).heap.size = w6.heap.size + 1 := by simp
       have lX11 := Nat.le_refl (World.heap w6).size; have nX11X0 := X0.lt; have nX11X1 := X1.lt; have nX11X2 := X2.lt; replace X0 := X0.below (bel1 _ (.cells #[.bool e21, .int .i64 K21, .bool s21, .int .u64 M21, .int .i64 E21, .int .i64 K21b, .bool s21b, .int .u64 M21b, .int .i64 E21b] 26)); replace X1 := X1.below (bel1 _ (.cells #[.bool e21, .int .i64 K21, .bool s21, .int .u64 M21, .int .i64 E21, .int .i64 K21b, .bool s21b, .int .u64 M21b, .int .i64 E21b] 26))
       replace X2 := X2.below (bel1 _ (.cells #[.bool e21, .int .i64 K21, .bool s21, .int .u64 M21, .int .i64 E21, .int .i64 K21b, .bool s21b, .int .u64 M21b, .int .i64 E21b] 26)); replace hT := hT.below (bel1 _ (.cells #[.bool e21, .int .i64 K21, .bool s21, .int .u64 M21, .int .i64 E21, .int .i64 K21b, .bool s21b, .int .u64 M21b, .int .i64 E21b] 26)); replace hT2 := hT2.below (bel1 _ (.cells #[.bool e21, .int .i64 K21, .bool s21, .int .u64 M21, .int .i64 E21, .int .i64 K21b, .bool s21b, .int .u64 M21b, .int .i64 E21b] 26))
       replace HB := Lib.hid (bt HB.out (bel1 _ (.cells #[.bool e21, .int .i64 K21, .bool s21, .int .u64 M21, .int .i64 E21, .int .i64 K21b, .bool s21b, .int .u64 M21b, .int .i64 E21b] 26))); have X11 := Bo.new w6 #[.bool e21, .int .i64 K21, .bool s21, .int .u64 M21, .int .i64 E21, .int .i64 K21b, .bool s21b, .int .u64 M21b, .int .i64 E21b] 26; generalize hWn : World.alloc w6 (.cells #[.bool e21, .int .i64 K21, .bool s21, .int .u64 M21, .int .i64 E21, .int .i64 K21b, .bool s21b, .int .u64 M21b, .int .i64 E21b] 26) = w7 at *
       clear hWn; have lX12 := Nat.le_refl (World.heap w7).size; have nX12X0 := X0.lt; have nX12X1 := X1.lt; have nX12X2 := X2.lt; have nX12X11 := X11.lt; generalize hWn : w7.alloc _ = w8 at *; obtain ⟨X12, BW⟩ := Bo.nw hWn; clear hWn; replace X0 := X0.below BW; replace X1 := X1.below BW; replace X2 := X2.below BW; replace X11 := X11.below BW; replace hT := hT.below BW; replace hT2 := hT2.below BW
       replace HB := Hqb HB BW; clear BW; rw [e4X12] at X12; clear lX11 lX12 e4X12; have xX0 := X0.cell; have xX1 := X1.cell; have xX2 := X2.cell
       go_wp2_with fail
       refine (bwPlus u0 v0 u1 v1 u2 v2 HZ.out HX.out HY.out HN1.out HA.out HN2.out HBB.out).mono ?_; rintro ee w9 ⟨e23, K23, s23, M23, E23, K23b, s23b, M23b, E23b, e24, K24, s24, M24, E24, K24b, s24b, M24b, E24b, rfl, v23, v24, B⟩; clear xX0 xX1 xX2; replace X0 := X0.below B
       replace X1 := X1.below B; replace X2 := X2.below B; replace X11 := X11.below B; replace X12 := X12.below B; replace hT := hT.below B; replace hT2 := hT2.below B; replace HB := Hqb HB B; clear B; obtain ⟨rfl, rfl, rfl, rfl, rfl, rfl, rfl, rfl, rfl⟩ := v21.uniq v23; obtain ⟨rfl, rfl, rfl, rfl, rfl, rfl, rfl, rfl, rfl⟩ := v22.uniq v24; clear v23 v24
       go_upto_region 9 with (fail)
       have e4X14 : (World.alloc w9 (.cells #[.bool e21, .int .i64 K21, .bool s21, .int .u64 M21, .int .i64 E21, .int .i64 K21b, .bool s21b, .int .u64 M21b, .int .i64 E21b] 26)).heap.size = w9.heap.size + 1 := by simp
       have lX13 := Nat.le_refl (World.heap w9).size; have nX13X0 := X0.lt; have nX13X1 := X1.lt; have nX13X2 := X2.lt; have nX13X11 := X11.lt; have nX13X12 := X12.lt; replace X0 := X0.below (bel1 _ (.cells #[.bool e21, .int .i64 K21, .bool s21, .int .u64 M21, .int .i64 E21, .int .i64 K21b, .bool s21b, .int .u64 M21b, .int .i64 E21b] 26)); replace X1 := X1.below (bel1 _ (.cells #[.bool e21, .int .i64 K21, .bool s21, .int .u64 M21, .int .i64 E21, .int .i64 K21b, .bool s21b, .int .u64 M21b, .int .i64 E21b] 26))
       replace X2 := X2.below (bel1 _ (.cells #[.bool e21, .int .i64 K21, .bool s21, .int .u64 M21, .int .i64 E21, .int .i64 K21b, .bool s21b, .int .u64 M21b, .int .i64 E21b] 26)); replace X11 := X11.below (bel1 _ (.cells #[.bool e21, .int .i64 K21, .bool s21, .int .u64 M21, .int .i64 E21, .int .i64 K21b, .bool s21b, .int .u64 M21b, .int .i64 E21b] 26)); replace X12 := X12.below (bel1 _ (.cells #[.bool e21, .int .i64 K21, .bool s21, .int .u64 M21, .int .i64 E21, .int .i64 K21b, .bool s21b, .int .u64 M21b, .int .i64 E21b] 26))
       replace hT := hT.below (bel1 _ (.cells #[.bool e21, .int .i64 K21, .bool s21, .int .u64 M21, .int .i64 E21, .int .i64 K21b, .bool s21b, .int .u64 M21b, .int .i64 E21b] 26)); replace hT2 := hT2.below (bel1 _ (.cells #[.bool e21, .int .i64 K21, .bool s21, .int .u64 M21, .int .i64 E21, .int .i64 K21b, .bool s21b, .int .u64 M21b, .int .i64 E21b] 26)); replace HB := Lib.hid (bt HB.out (bel1 _ (.cells #[.bool e21, .int .i64 K21, .bool s21, .int .u64 M21, .int .i64 E21, .int .i64 K21b, .bool s21b, .int .u64 M21b, .int .i64 E21b] 26)))
       have X13 := Bo.new w9 #[.bool e21, .int .i64 K21, .bool s21, .int .u64 M21, .int .i64 E21, .int .i64 K21b, .bool s21b, .int .u64 M21b, .int .i64 E21b] 26; generalize hWn : World.alloc w9 (.cells #[.bool e21, .int .i64 K21, .bool s21, .int .u64 M21, .int .i64 E21, .int .i64 K21b, .bool s21b, .int .u64 M21b, .int .i64 E21b] 26) = wA at *; clear hWn; have lX14 := Nat.le_refl (World.heap wA).size
       have nX14X0 := X0.lt; have nX14X1 := X1.lt; have nX14X2 := X2.lt; have nX14X11 := X11.lt; have nX14X12 := X12.lt; have nX14X13 := X13.lt; generalize hWn : wA.alloc _ = wB at *; obtain ⟨X14, BW⟩ := Bo.nw hWn; clear hWn; replace X0 := X0.below BW; replace X1 := X1.below BW; replace X2 := X2.below BW; replace X11 := X11.below BW; replace X12 := X12.below BW; replace X13 := X13.below BW; replace hT := hT.below BW
       replace hT2 := hT2.below BW; replace HB := Hqb HB BW; clear BW; rw [e4X14] at X14; clear lX13 lX14 e4X14; have xX0 := X0.cell; have xX1 := X1.cell; have xX2 := X2.cell
       go_wp2_with fail
       refine (bkMinus hT2 u0 v0 u1 v1 u2 v2 HZ.out HX.out HY.out HCC.out HD.out).mono ?_; rintro ee wC ⟨e25, K25, s25, M25, E25, K25b, s25b, M25b, E25b, e26, K26, s26, M26, E26, K26b, s26b, M26b, E26b, rfl, v25, v26, B⟩; clear xX0 xX1 xX2; replace X0 := X0.below B; replace X1 := X1.below B
       replace X2 := X2.below B; replace X11 := X11.below B; replace X12 := X12.below B; replace X13 := X13.below B; replace X14 := X14.below B; replace hT := hT.below B; replace hT2 := hT2.below B; replace HB := Hqb HB B; clear B
       go_upto_region 10 with (fail)
       have e4X16 : (World.alloc wC (.cells #[.bool e25, .int .i64 K25, .bool s25, .int .u64 M25, .int .i64 E25, .int .i64 K25b, .bool s25b, .int .u64 M25b, .int .i64 E25b] 26)).heap.size = wC.heap.size + 1 := by simp
       have lX15 := Nat.le_refl (World.heap wC).size; have nX15X0 := X0.lt; have nX15X1 := X1.lt; have nX15X2 := X2.lt; have nX15X11 := X11.lt; have nX15X12 := X12.lt; have nX15X13 := X13.lt; have nX15X14 := X14.lt; replace X0 := X0.below (bel1 _ (.cells #[.bool e25, .int .i64 K25, .bool s25, .int .u64 M25, .int .i64 E25, .int .i64 K25b, .bool s25b, .int .u64 M25b, .int .i64 E25b] 26)); replace X1 := X1.below (bel1 _ (.cells #[.bool e25, .int .i64 K25, .bool s25, .int .u64 M25, .int .i64 E25, .int .i64 K25b, .bool s25b, .int .u64 M25b, .int .i64 E25b] 26))
       replace X2 := X2.below (bel1 _ (.cells #[.bool e25, .int .i64 K25, .bool s25, .int .u64 M25, .int .i64 E25, .int .i64 K25b, .bool s25b, .int .u64 M25b, .int .i64 E25b] 26)); replace X11 := X11.below (bel1 _ (.cells #[.bool e25, .int .i64 K25, .bool s25, .int .u64 M25, .int .i64 E25, .int .i64 K25b, .bool s25b, .int .u64 M25b, .int .i64 E25b] 26)); replace X12 := X12.below (bel1 _ (.cells #[.bool e25, .int .i64 K25, .bool s25, .int .u64 M25, .int .i64 E25, .int .i64 K25b, .bool s25b, .int .u64 M25b, .int .i64 E25b] 26))
       replace X13 := X13.below (bel1 _ (.cells #[.bool e25, .int .i64 K25, .bool s25, .int .u64 M25, .int .i64 E25, .int .i64 K25b, .bool s25b, .int .u64 M25b, .int .i64 E25b] 26)); replace X14 := X14.below (bel1 _ (.cells #[.bool e25, .int .i64 K25, .bool s25, .int .u64 M25, .int .i64 E25, .int .i64 K25b, .bool s25b, .int .u64 M25b, .int .i64 E25b] 26)); replace hT := hT.below (bel1 _ (.cells #[.bool e25, .int .i64 K25, .bool s25, .int .u64 M25, .int .i64 E25, .int .i64 K25b, .bool s25b, .int .u64 M25b, .int .i64 E25b] 26))
       replace hT2 := hT2.below (bel1 _ (.cells #[.bool e25, .int .i64 K25, .bool s25, .int .u64 M25, .int .i64 E25, .int .i64 K25b, .bool s25b, .int .u64 M25b, .int .i64 E25b] 26)); replace HB := Lib.hid (bt HB.out (bel1 _ (.cells #[.bool e25, .int .i64 K25, .bool s25, .int .u64 M25, .int .i64 E25, .int .i64 K25b, .bool s25b, .int .u64 M25b, .int .i64 E25b] 26))); have X15 := Bo.new wC #[.bool e25, .int .i64 K25, .bool s25, .int .u64 M25, .int .i64 E25, .int .i64 K25b, .bool s25b, .int .u64 M25b, .int .i64 E25b] 26
       generalize hWn : World.alloc wC (.cells #[.bool e25, .int .i64 K25, .bool s25, .int .u64 M25, .int .i64 E25, .int .i64 K25b, .bool s25b, .int .u64 M25b, .int .i64 E25b] 26) = wD at *; clear hWn; have lX16 := Nat.le_refl (World.heap wD).size; have nX16X0 := X0.lt; have nX16X1 := X1.lt; have nX16X2 := X2.lt; have nX16X11 := X11.lt; have nX16X12 := X12.lt; have nX16X13 := X13.lt; have nX16X14 := X14.lt
       have nX16X15 := X15.lt; generalize hWn : wD.alloc _ = wE at *; obtain ⟨X16, BW⟩ := Bo.nw hWn; clear hWn; replace X0 := X0.below BW; replace X1 := X1.below BW; replace X2 := X2.below BW; replace X11 := X11.below BW; replace X12 := X12.below BW; replace X13 := X13.below BW; replace X14 := X14.below BW; replace X15 := X15.below BW; replace hT := hT.below BW; replace hT2 := hT2.below BW; replace HB := Hqb HB BW
       clear BW; rw [e4X16] at X16; clear lX15 lX16 e4X16; have xX0 := X0.cell; have xX1 := X1.cell; have xX2 := X2.cell
       go_wp2_with fail
       refine (bwMinus u0 v0 u1 v1 u2 v2 HZ.out HX.out HY.out HN3.out HCC.out HN4.out HD.out).mono ?_; rintro ee wF ⟨e27, K27, s27, M27, E27, K27b, s27b, M27b, E27b, e28, K28, s28, M28, E28, K28b, s28b, M28b, E28b, rfl, v27, v28, B⟩; clear xX0 xX1 xX2; replace X0 := X0.below B
       replace X1 := X1.below B; replace X2 := X2.below B; replace X11 := X11.below B; replace X12 := X12.below B; replace X13 := X13.below B; replace X14 := X14.below B; replace X15 := X15.below B; replace X16 := X16.below B; replace hT := hT.below B; replace hT2 := hT2.below B; replace HB := Hqb HB B; clear B; obtain ⟨rfl, rfl, rfl, rfl, rfl, rfl, rfl, rfl, rfl⟩ := v25.uniq v27; obtain ⟨rfl, rfl, rfl, rfl, rfl, rfl, rfl, rfl, rfl⟩ := v26.uniq v28
       clear v27 v28
       go_upto_region 11 with (fail)
       have e4X18 : (World.alloc wF (.cells #[.bool e25, .int .i64 K25, .bool s25, .int .u64 M25, .int .i64 E25, .int .i64 K25b, .bool s25b, .int .u64 M25b, .int .i64 E25b] 26)).heap.size = wF.heap.size + 1 := by simp
       have lX17 := Nat.le_refl (World.heap wF).size; have nX17X0 := X0.lt; have nX17X1 := X1.lt; have nX17X2 := X2.lt; have nX17X11 := X11.lt; have nX17X12 := X12.lt; have nX17X13 := X13.lt; have nX17X14 := X14.lt; have nX17X15 := X15.lt; have nX17X16 := X16.lt; replace X0 := X0.below (bel1 _ (.cells #[.bool e25, .int .i64 K25, .bool s25, .int .u64 M25, .int .i64 E25, .int .i64 K25b, .bool s25b, .int .u64 M25b, .int .i64 E25b] 26))
       replace X1 := X1.below (bel1 _ (.cells #[.bool e25, .int .i64 K25, .bool s25, .int .u64 M25, .int .i64 E25, .int .i64 K25b, .bool s25b, .int .u64 M25b, .int .i64 E25b] 26)); replace X2 := X2.below (bel1 _ (.cells #[.bool e25, .int .i64 K25, .bool s25, .int .u64 M25, .int .i64 E25, .int .i64 K25b, .bool s25b, .int .u64 M25b, .int .i64 E25b] 26)); replace X11 := X11.below (bel1 _ (.cells #[.bool e25, .int .i64 K25, .bool s25, .int .u64 M25, .int .i64 E25, .int .i64 K25b, .bool s25b, .int .u64 M25b, .int .i64 E25b] 26))
       replace X12 := X12.below (bel1 _ (.cells #[.bool e25, .int .i64 K25, .bool s25, .int .u64 M25, .int .i64 E25, .int .i64 K25b, .bool s25b, .int .u64 M25b, .int .i64 E25b] 26)); replace X13 := X13.below (bel1 _ (.cells #[.bool e25, .int .i64 K25, .bool s25, .int .u64 M25, .int .i64 E25, .int .i64 K25b, .bool s25b, .int .u64 M25b, .int .i64 E25b] 26)); replace X14 := X14.below (bel1 _ (.cells #[.bool e25, .int .i64 K25, .bool s25, .int .u64 M25, .int .i64 E25, .int .i64 K25b, .bool s25b, .int .u64 M25b, .int .i64 E25b] 26))
       replace X15 := X15.below (bel1 _ (.cells #[.bool e25, .int .i64 K25, .bool s25, .int .u64 M25, .int .i64 E25, .int .i64 K25b, .bool s25b, .int .u64 M25b, .int .i64 E25b] 26)); replace X16 := X16.below (bel1 _ (.cells #[.bool e25, .int .i64 K25, .bool s25, .int .u64 M25, .int .i64 E25, .int .i64 K25b, .bool s25b, .int .u64 M25b, .int .i64 E25b] 26)); replace hT := hT.below (bel1 _ (.cells #[.bool e25, .int .i64 K25, .bool s25, .int .u64 M25, .int .i64 E25, .int .i64 K25b, .bool s25b, .int .u64 M25b, .int .i64 E25b] 26))
       replace hT2 := hT2.below (bel1 _ (.cells #[.bool e25, .int .i64 K25, .bool s25, .int .u64 M25, .int .i64 E25, .int .i64 K25b, .bool s25b, .int .u64 M25b, .int .i64 E25b] 26)); replace HB := Lib.hid (bt HB.out (bel1 _ (.cells #[.bool e25, .int .i64 K25, .bool s25, .int .u64 M25, .int .i64 E25, .int .i64 K25b, .bool s25b, .int .u64 M25b, .int .i64 E25b] 26))); have X17 := Bo.new wF #[.bool e25, .int .i64 K25, .bool s25, .int .u64 M25, .int .i64 E25, .int .i64 K25b, .bool s25b, .int .u64 M25b, .int .i64 E25b] 26
       generalize hWn : World.alloc wF (.cells #[.bool e25, .int .i64 K25, .bool s25, .int .u64 M25, .int .i64 E25, .int .i64 K25b, .bool s25b, .int .u64 M25b, .int .i64 E25b] 26) = wG at *; clear hWn; have lX18 := Nat.le_refl (World.heap wG).size; have nX18X0 := X0.lt; have nX18X1 := X1.lt; have nX18X2 := X2.lt; have nX18X11 := X11.lt; have nX18X12 := X12.lt; have nX18X13 := X13.lt; have nX18X14 := X14.lt
       have nX18X15 := X15.lt; have nX18X16 := X16.lt; have nX18X17 := X17.lt; generalize hWn : wG.alloc _ = wH at *; obtain ⟨X18, BW⟩ := Bo.nw hWn; clear hWn; replace X0 := X0.below BW; replace X1 := X1.below BW; replace X2 := X2.below BW; replace X11 := X11.below BW; replace X12 := X12.below BW; replace X13 := X13.below BW; replace X14 := X14.below BW; replace X15 := X15.below BW; replace X16 := X16.below BW
       replace X17 := X17.below BW; replace hT := hT.below BW; replace hT2 := hT2.below BW; replace HB := Hqb HB BW; clear BW; rw [e4X18] at X18; clear lX17 lX18 e4X18; have xX11 := X11.cell; have xX12 := X12.cell; have xX13 := X13.cell
       have xX14 := X14.cell; have xX15 := X15.cell; have xX16 := X16.cell; have xX17 := X17.cell; have xX18 := X18.cell
       go_wp2
       go_ret
       exact ⟨rfl, HB.out⟩
theorem backSums_walk (e0 : Bool) (D0 : Int) (s0 : Bool) (M0 E0 G0 : Int) (g0 : Bool) (P0 Q0 : Int) (e1 : Bool) (D1 : Int) (s1 : Bool) (M1 E1 G1 : Int) (g1 : Bool) (P1 Q1 : Int) (e2 : Bool) (D2 : Int) (s2 : Bool) (M2 E2 G2 : Int) (g2 : Bool) (P2 Q2 : Int) (w : World) (hT : Tab w) (hT2 : Tb w) (u0 : LQ M0) (v0 : LQ P0) (u1 : LQ M1) (v1 : LQ P1) (u2 : LQ M2) (v2 : LQ P2) :
   Calls Tryz.prog 3 #[VI e0 D0 s0 M0 E0 G0 g0 P0 Q0, VI e1 D1 s1 M1 E1 G1 g1 P1 Q1, VI e2 D2 s2 M2 E2 G2 g2 P2 Q2] w fun e w' => e = .returned (.bool true) ∧ Below w.heap.size w w' := by
 delta VI
 obtain ⟨q, hq⟩ := qf_ex; obtain ⟨r, hr⟩ := rf_ex
 refine backSums_main e0 D0 s0 M0 E0 G0 g0 P0 Q0 e1 D1 s1 M1 E1 G1 g1 P1 Q1 e2 D2 s2 M2 E2 G2 g2 P2 Q2 w _ _ _ _ _ _ _ _ _ _ hq hr hT hT2 u0 v0 u1 v1 u2 v2 rfl rfl rfl rfl rfl rfl rfl rfl rfl rfl (fun h1 h2 h0 => ?_)
 have f0 := rkI_fz (s := s0) (s' := g0) (e := e0) u0 v0 h0; have f1 := rkI_fz (s := s1) (s' := g1) (e := e1) u1 v1 h1; have f2 := rkI_fz (s := s2) (s' := g2) (e := e2) u2 v2 h2
 have s1' := FzI.meet (f1.mono (by decide : 1600 ≤ 1600 + 66)) (FzI.add (by decide) f0 f2.neg)
 have s2' := FzI.meet (f1.mono (by decide : 1600 ≤ 1600 + 66)) (FzI.add (by decide) f0 f2)
 exact ⟨f0.near f2.neg (by decide), f0.near s1'.neg (by decide), f0.near f2 (by decide), s2'.near f0.neg (by decide)⟩
end Go.Proofs.YtnbliijpjcmbjaaGreatDoor

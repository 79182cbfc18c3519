/-
  The walk of IvopHolds: for all arguments the call answers true, and nothing that was there has turned.
-/
import Derived.Below
import Derived.BigQuiet
import Derived.Carry
import Derived.Deep.DeepCutAuto
import Derived.Deep.Draws
import Derived.Deep.MidRow
import Derived.Deep.QuietTactic
import Derived.Deep.RegionHeld3
import Derived.Deep.RegionWith
import Derived.IntWalk
import Derived.Laws.Bits64b
import Derived.Laws.CopyOwn
import Derived.Laws.Externs
import Derived.Laws.MakeOwn
import Derived.Laws.OwnMore
import Derived.Laws.Rows
import Derived.Lib.BitFns
import Derived.Lib.Hide
import Derived.Lib.Mul64
import Derived.Lib.TrailingZeros
import Derived.Maps.AppendAt
import Derived.StillTailTactics
import Derived.Test.YteejbcimmmcnlaaGreatDoorRows
import Derived.WalkKit
import Derived.WalkLawsBesides
import Derived.WalkSpells
import Derived.Test.YteejbcimmmcnlaaGreatDoorYBaw
import Derived.Test.YteejbcimmmcnlaaGreatDoorYBbl
import Derived.Test.YteejbcimmmcnlaaGreatDoorYBbm
import Derived.Test.YteejbcimmmcnlaaGreatDoorYBbp
import Derived.Test.YteejbcimmmcnlaaGreatDoorYBbr
import Derived.Test.YteejbcimmmcnlaaGreatDoorYBbs
import Derived.Test.YteejbcimmmcnlaaGreatDoorYBbt
import Derived.Test.YteejbcimmmcnlaaGreatDoorYBbx
namespace Go.Proofs.YteejbcimmmcnlaaGreatDoor
open Go.RowKit
set_option linter.unusedVariables false
set_option linter.unusedSimpArgs false
set_option maxRecDepth 100000

set_option maxHeartbeats 8000000 in
theorem ivopHolds_main (e0 : Bool) (D0 : Int) (s0 : Bool) (M0 E0 G0 : Int) (g0 : Bool) (P0 Q0 : Int) (e1 : Bool) (D1 : Int) (s1 : Bool) (M1 E1 G1 : Int) (g1 : Bool) (P1 Q1 : Int) (D2 : Int) (s2 : Bool) (M2 E2 : Int) (D3 : Int) (s3 : Bool) (M3 E3 : Int) (w : World) (X Y : Sp) (x y N1 F1 N2 F2 : Int) (p p2 r0 r1 a b : Bool) {q : Bool → Int → Int → Int} (hq : QF q) (hT : Tab w) (hT2 : Tb w) (u0 : M0 < 18446744073709551616) (v0 : P0 < 18446744073709551616) (u1 : M1 < 18446744073709551616) (v1 : P1 < 18446744073709551616) (w2 : 0 ≤ M2) (u2 : M2 < 18446744073709551616) (w3 : 0 ≤ M3) (u3 : M3 < 18446744073709551616)
    (hx : rkI e0 D0 s0 M0 E0 G0 g0 P0 Q0 = X) (hy : rkI e1 D1 s1 M1 E1 G1 g1 P1 Q1 = Y) (ha2 : rk D2 s2 M2 E2 = x) (hb2 : rk D3 s3 M3 E3 = y) (hp : fewq D2 E2 = p) (hq2 : fewq D3 E3 = p2) (h0 : hasI X x = r0) (h1 : hasI Y y = r1) (ha : exb D2 s2 M2 E2 = a) (hb : exb D3 s3 M3 E3 = b)
    (hN1 : (exq D2 s2 M2 E2).1 = N1) (hF1 : (exq D2 s2 M2 E2).2 = F1) (hN2 : (exq D3 s3 M3 E3).1 = N2) (hF2 : (exq D3 s3 M3 E3).2 = F2) :
    Calls Tryz.prog 6 #[.agg #[.bool e0, .int .i64 D0, .bool s0, .int .u64 M0, .int .i64 E0, .int .i64 G0, .bool g0, .int .u64 P0, .int .i64 Q0], .agg #[.bool e1, .int .i64 D1, .bool s1, .int .u64 M1, .int .i64 E1, .int .i64 G1, .bool g1, .int .u64 P1, .int .i64 Q1], .agg #[.int .i64 D2, .bool s2, .int .u64 M2, .int .i64 E2], .agg #[.int .i64 D3, .bool s3, .int .u64 M3, .int .i64 E3]] w (PB w true) := by
  have HX := Lib.hid hx; have HY := Lib.hid hy; have HA2 := Lib.hid ha2; have HB2 := Lib.hid hb2; have HP := Lib.hid hp; have HQ2 := Lib.hid hq2; have H0 := Lib.hid h0; have H1 := Lib.hid h1; have HA := Lib.hid ha; have HB1 := Lib.hid hb; have HN1 := Lib.hid hN1; have HF1 := Lib.hid hF1; have HN2 := Lib.hid hN2; have HF2 := Lib.hid hF2; have HQ := Lib.hid hq; clear hx hy ha2 hb2 hp hq2 h0 h1 ha hb hN1 hF1 hN2 hF2 hq
  have hm2 := w2; have hm3 := w3; clear w2 w3
  go_enter Tryz.func6, Tryz.ntmps6
  go_upto_region 1 with (fail)
  generalize hW1 : (((w.alloc _).alloc _).alloc _).alloc _ = w1 at *; obtain ⟨X0, X1, X2, X3, HB⟩ := Bo.en4 hW1; replace hT := hT.below HB.out; replace hT2 := hT2.below HB.out; clear hW1
  go_wp2_with fail
  refine (awake9 hT HQ.out).mono ?_; rintro ee w2 ⟨rfl, B⟩; replace X0 := X0.below B; replace X1 := X1.below B; replace X2 := X2.below B; replace X3 := X3.below B; replace hT := hT.below B; replace hT2 := hT2.below B; replace HB := Lib.hid (bt HB.out B); clear B; obtain ⟨xX20, xX21, xX22, xX23⟩ := X2.u4
  go_wp2_with fail
  refine (aFew HP.out).mono ?_; rintro ee w3 ⟨rfl, B⟩; clear xX20 xX21 xX22 xX23; replace X0 := X0.below B; replace X1 := X1.below B; replace X2 := X2.below B; replace X3 := X3.below B; replace hT := hT.below B; replace hT2 := hT2.below B; replace HB := Lib.hid (bt HB.out B); clear B; obtain ⟨xX30, xX31, xX32, xX33⟩ := X3.u4
  go_wp2_with fail
  refine (aFew HQ2.out).mono ?_; rintro ee w4 ⟨rfl, B⟩; clear xX30 xX31 xX32 xX33; replace X0 := X0.below B; replace X1 := X1.below B; replace X2 := X2.below B; replace X3 := X3.below B; replace hT := hT.below B; replace hT2 := hT2.below B; replace HB := Lib.hid (bt HB.out B); clear B
  cases p
  · go_wp2
    go_ret
    exact ⟨rfl, HB.out⟩
  · cases p2
    · go_wp2
      go_ret
      exact ⟨rfl, HB.out⟩
    · obtain ⟨xX00, xX01, xX02, xX03, xX04, xX05, xX06, xX07, xX08⟩ := X0.u9; obtain ⟨xX20, xX21, xX22, xX23⟩ := X2.u4
      go_wp2_with fail
      refine (kvHas u0 v0 u2 HX.out HA2.out H0.out).mono ?_; rintro ee w5 ⟨rfl, B⟩; clear xX00 xX01 xX02 xX03 xX04 xX05 xX06 xX07 xX08 xX20 xX21 xX22 xX23; replace X0 := X0.below B; replace X1 := X1.below B; replace X2 := X2.below B; replace X3 := X3.below B; replace hT := hT.below B; replace hT2 := hT2.below B; replace HB := Lib.hid (bt HB.out B); clear B
      cases r0
      · go_wp2
        go_ret
        exact ⟨rfl, HB.out⟩
      · obtain ⟨xX10, xX11, xX12, xX13, xX14, xX15, xX16, xX17, xX18⟩ := X1.u9; obtain ⟨xX30, xX31, xX32, xX33⟩ := X3.u4
        go_wp2_with fail
        refine (kvHas u1 v1 u3 HY.out HB2.out H1.out).mono ?_; rintro ee w6 ⟨rfl, B⟩; clear xX10 xX11 xX12 xX13 xX14 xX15 xX16 xX17 xX18 xX30 xX31 xX32 xX33; replace X0 := X0.below B; replace X1 := X1.below B; replace X2 := X2.below B; replace X3 := X3.below B; replace hT := hT.below B; replace hT2 := hT2.below B; replace HB := Lib.hid (bt HB.out B); clear B
        cases r1
        · go_wp2
          go_ret
          exact ⟨rfl, HB.out⟩
        · obtain ⟨xX20, xX21, xX22, xX23⟩ := X2.u4
          go_wp2_with fail
          refine (nExact (t := a) hT hm2 u2 HA.out HN1.out HF1.out).mono ?_; rintro ee w7 ⟨sa, Aa, na, ca, rfl, pa, ka, B⟩; clear xX20 xX21 xX22 xX23; replace X0 := X0.below B; replace X1 := X1.below B; replace X2 := X2.below B; replace X3 := X3.below B; replace hT := hT.below B; replace hT2 := hT2.below B; replace HB := Lib.hid (bt HB.out B); clear B
          go_upto_region 7 with (fail)
          have lX12 := Nat.le_refl (World.heap w7).size; have nX12X0 := X0.lt; have nX12X1 := X1.lt; have nX12X2 := X2.lt; have nX12X3 := X3.lt; generalize hWn : w7.alloc _ = w8 at *; obtain ⟨X12, BW⟩ := Bo.nw hWn; clear hWn; replace X0 := X0.below BW; replace X1 := X1.below BW; replace X2 := X2.below BW; replace X3 := X3.below BW; replace hT := hT.below BW; replace hT2 := hT2.below BW; replace pa := pa.below BW
          replace HB := Lib.hid (bt HB.out BW); clear BW; clear lX12; obtain ⟨xX30, xX31, xX32, xX33⟩ := X3.u4
          go_wp2_with fail
          refine (nExact (t := b) hT hm3 u3 HB1.out HN2.out HF2.out).mono ?_; rintro ee w9 ⟨sb, Ab, nb, cb, rfl, pb, kb, B⟩; clear xX30 xX31 xX32 xX33; replace X0 := X0.below B; replace X1 := X1.below B; replace X2 := X2.below B; replace X3 := X3.below B; replace X12 := X12.below B; replace hT := hT.below B; replace hT2 := hT2.below B; replace pa := pa.below B; replace HB := Lib.hid (bt HB.out B); clear B
          go_upto_region 8 with (fail)
          have lX14 := Nat.le_refl (World.heap w9).size; have nX14X0 := X0.lt; have nX14X1 := X1.lt; have nX14X2 := X2.lt; have nX14X3 := X3.lt; have nX14X12 := X12.lt; generalize hWn : w9.alloc _ = wA at *; obtain ⟨X14, BW⟩ := Bo.nw hWn; clear hWn; replace X0 := X0.below BW; replace X1 := X1.below BW; replace X2 := X2.below BW; replace X3 := X3.below BW; replace X12 := X12.below BW; replace hT := hT.below BW
          replace hT2 := hT2.below BW; replace pa := pa.below BW; replace pb := pb.below BW; replace HB := Lib.hid (bt HB.out BW); clear BW; clear lX14
          cases a
          · go_wp2
            go_ret
            exact ⟨rfl, HB.out⟩
          · cases b
            · go_wp2
              go_ret
              exact ⟨rfl, HB.out⟩
            · have hall := hold_all u2 u3 (by rw [← HX.out]; exact rkI_ok u0 v0) (by rw [← HY.out]; exact rkI_ok u1 v1) HA2.out HB2.out HP.out HQ2.out HA.out HB1.out H0.out H1.out HN1.out HF1.out HN2.out HF2.out; obtain ⟨c1, i1, c2, i2, i3, i4⟩ := hall; obtain ⟨Z1, hZ1⟩ : ∃ P, smd [(N1, F1), (N2, F2)] = P := ⟨_, rfl⟩; obtain ⟨Z2, hZ2⟩ : ∃ P, pl (mk N1 F1) (ng (mk N2 F2)) = P := ⟨_, rfl⟩; obtain ⟨Z3, hZ3⟩ : ∃ P, ml (mk N1 F1) (mk N2 F2) = P := ⟨_, rfl⟩
              obtain ⟨Z4, hZ4⟩ : ∃ P, ml (mk N1 F1) (mk N1 F1) = P := ⟨_, rfl⟩; obtain ⟨sA, hsA⟩ : ∃ s, addL [X, Y] = s := ⟨_, rfl⟩; obtain ⟨sB, hsB⟩ : ∃ s, subI X Y = s := ⟨_, rfl⟩; obtain ⟨sC, hsC⟩ : ∃ s, mulI X Y = s := ⟨_, rfl⟩; obtain ⟨sD, hsD⟩ : ∃ s, sqrI X = s := ⟨_, rfl⟩
              have hsA2 : addI X Y = sA := hsA
              rw [hZ1, hsA2] at i1; rw [hZ2, hsB] at i2; rw [hZ3, hsC] at i3; rw [hZ4, hsD] at i4; have HC1 := Lib.hid c1; have HC2 := Lib.hid c2; have HI1 := Lib.hid i1
              have HE1 : Hid ((smd [(N1, F1), (N2, F2)]).1 = Z1.1) := Lib.hid (by rw [hZ1])
              have HG1 : Hid ((smd [(N1, F1), (N2, F2)]).2 = Z1.2) := Lib.hid (by rw [hZ1])
              have HI2 := Lib.hid i2
              have HE2 : Hid ((pl (mk N1 F1) (ng (mk N2 F2))).1 = Z2.1) := Lib.hid (by rw [hZ2])
              have HG2 : Hid ((pl (mk N1 F1) (ng (mk N2 F2))).2 = Z2.2) := Lib.hid (by rw [hZ2])
              have HI3 := Lib.hid i3
              have HE3 : Hid ((ml (mk N1 F1) (mk N2 F2)).1 = Z3.1) := Lib.hid (by rw [hZ3])
              have HG3 : Hid ((ml (mk N1 F1) (mk N2 F2)).2 = Z3.2) := Lib.hid (by rw [hZ3])
              have HI4 := Lib.hid i4
              have HE4 : Hid ((ml (mk N1 F1) (mk N1 F1)).1 = Z4.1) := Lib.hid (by rw [hZ4])
              have HG4 : Hid ((ml (mk N1 F1) (mk N1 F1)).2 = Z4.2) := Lib.hid (by rw [hZ4])
              have HSA := Lib.hid hsA; have HSB := Lib.hid hsB; have HSC := Lib.hid hsC; have HSD := Lib.hid hsD; clear c1 i1 c2 i2 i3 i4 hZ1 hZ2 hZ3 hZ4 hsA hsA2 hsB hsC hsD
              go_upto_region 10 with (fail)
              refine Jo.region_joint (T := [0, 1, 2, 3, 4, 5, 6, 7, 8, 9]) (ds := [some 64, some 65, some 66, some 67, some 68, some 69, some 70, some 71, some 72, some 16]) (ls := [[], [], [0, 1], [2], [], [], [4, 5], [6], [3, 7], [8]]) (k := 10) (L := [(some 64, 0), (some 65, 1), (some 66, 2), (some 67, 3), (some 68, 4), (some 69, 5), (some 70, 6), (some 71, 7), (some 72, 8), (some 16, 9)]) (fuel := 0) (J := fun wj => Below (World.heap wA).size wA wj)
                (F := [Jo.Fact.eq (.agg #[.bool sa, .slice Aa na ca, .int .i64 F1]), Jo.Fact.eq (.agg #[.bool sb, .slice Ab nb cb, .int .i64 F2]), Jo.Fact.dl 2 2 [(N1, F1), (N2, F2)], Jo.Fact.dy Z1.1 Z1.2 20000, Jo.q9 e0 D0 s0 M0 E0 G0 g0 P0 Q0, Jo.q9 e1 D1 s1 M1 E1 G1 g1 P1 Q1, Jo.Fact.il8 2 [X, Y], Jo.Fact.iv sA, Jo.qb true, Jo.qb true])
                (by kernel_rfl) (by kernel_rfl) (by decide) rfl rfl (fun _ _ h b => bt h b) ((br _ _).drew) ?_ (fun vs wB hJ hd => ?_)
              · refine Jo.jm rfl ?_ ?_
                · rintro wj hJ K hK; simp only [Jo.z] at hK ⊢; obtain ⟨xX120, xX121, xX122⟩ := (X12.below hJ).u3; go_simp; exact hK.out _ _ rfl (br _ _)
                refine Jo.jm rfl ?_ ?_
                · rintro wj hJ K hK; simp only [Jo.z] at hK ⊢; obtain ⟨xX140, xX141, xX142⟩ := (X14.below hJ).u3; go_simp; exact hK.out _ _ rfl (br _ _)
                refine Jo.jm rfl ?_ ?_
                · rintro wj hJ _ rfl _ rfl K hK; simp only [Jo.z] at hK ⊢; go_simp; exact hK.out _ _ ⟨_, 2, rfl, Dl.lit2 rfl (pa.wr.below hJ) (pb.wr.below hJ) ka kb⟩ (bel1 _ _)
                refine Jo.jm rfl ?_ ?_
                · rintro wj hJ _ ⟨A9, c9, rfl, h9⟩ K hK; simp only [Jo.z] at hK ⊢; go_simp; refine (dAdd (hT.below hJ) h9 (by decide) HC1.out HE1.out HG1.out).mono ?_; rintro ee wk ⟨ss1, As1, ns1, cs1, rfl, ps1, ks1, B⟩; exact hK.out _ _ ⟨ss1, As1, ns1, cs1, rfl, ps1, ks1⟩ B
                refine Jo.jm rfl ?_ ?_
                · rintro wj hJ K hK; simp only [Jo.z] at hK ⊢; obtain ⟨xX00, xX01, xX02, xX03, xX04, xX05, xX06, xX07, xX08⟩ := (X0.below hJ).u9; go_simp; exact hK.out _ _ rfl (br _ _)
                refine Jo.jm rfl ?_ ?_
                · rintro wj hJ K hK; simp only [Jo.z] at hK ⊢; obtain ⟨xX10, xX11, xX12, xX13, xX14, xX15, xX16, xX17, xX18⟩ := (X1.below hJ).u9; go_simp; exact hK.out _ _ rfl (br _ _)
                refine Jo.jm rfl ?_ ?_
                · rintro wj hJ _ rfl _ rfl K hK; simp only [Jo.z] at hK ⊢; go_simp; exact hK.out _ _ ⟨_, 2, rfl, Il8.lit2 rfl ⟨u0, v0, HX.out⟩ ⟨u1, v1, HY.out⟩⟩ (bel1 _ _)
                refine Jo.jm rfl ?_ ?_
                · rintro wj hJ _ ⟨A30, c30, rfl, h30⟩ K hK; simp only [Jo.z] at hK ⊢; go_simp; refine (fkAdd (hT2.below hJ) h30 HSA.out).mono ?_; rintro ee wk ⟨e31, K31, s31, M31, E31, K31b, s31b, M31b, E31b, rfl, v31, B⟩; exact hK.out _ _ ⟨e31, K31, s31, M31, E31, K31b, s31b, M31b, E31b, rfl, v31⟩ B
                refine Jo.jm rfl ?_ ?_
                · rintro wj hJ _ ⟨ss1, As1, ns1, cs1, rfl, ps1, ks1⟩ _ ⟨e31, K31, s31, M31, E31, K31b, s31b, M31b, E31b, rfl, v31⟩ K hK; simp only [Jo.z] at hK ⊢; go_simp; refine (kvIn (hT.below hJ) ps1.wr (by omega) v31 HI1.out).mono ?_; rintro ee wk ⟨rfl, B⟩; exact hK.out _ _ rfl B
                refine Jo.jm rfl ?_ ?_
                · rintro wj hJ _ rfl K hK; simp only [Jo.z] at hK ⊢; go_simp; exact hK.out _ _ rfl (br _ _)
                exact Jo.Steps.nil
              have d2 : (Jo.Fact.dl 2 2 [(N1, F1), (N2, F2)]).P (vs 2) wB := hd 2 (by decide)
              have d3 : (Jo.Fact.dy Z1.1 Z1.2 20000).P (vs 3) wB := hd 3 (by decide)
              have d6 : (Jo.Fact.il8 2 [X, Y]).P (vs 6) wB := hd 6 (by decide)
              have d7 : (Jo.Fact.iv sA).P (vs 7) wB := hd 7 (by decide)
              simp only [Jo.putl, Jo.zd, Jo.ze, Act.put, Jo.za, Jo.zb, Jo.zc]
              rw [show vs 0 = _ from hd 0 (by decide), show vs 1 = _ from hd 1 (by decide), show vs 4 = _ from hd 4 (by decide), show vs 5 = _ from hd 5 (by decide), show vs 8 = _ from hd 8 (by decide), show vs 9 = _ from hd 9 (by decide)]
              clear hd; generalize vs 2 = u2 at d2 ⊢; generalize vs 3 = u3 at d3 ⊢; generalize vs 6 = u6 at d6 ⊢; generalize vs 7 = u7 at d7 ⊢; obtain ⟨_, _, rfl, _⟩ := d2; obtain ⟨_, _, _, _, rfl, _, _⟩ := d3; obtain ⟨_, _, rfl, _⟩ := d6; obtain ⟨e31, K31, s31, M31, E31, K31b, s31b, M31b, E31b, rfl, v31⟩ := d7; replace X0 := X0.below hJ; replace X1 := X1.below hJ; replace X2 := X2.below hJ; replace X3 := X3.below hJ
              replace X12 := X12.below hJ; replace X14 := X14.below hJ; replace hT := hT.below hJ; replace hT2 := hT2.below hJ; replace pa := pa.below hJ; replace pb := pb.below hJ; replace HB := Lib.hid (bt HB.out hJ); refine Jo.jdone (by kernel_rfl) ?_
              go_upto_region 11 with (fail)
              refine Jo.region_joint (T := [0, 1, 2, 3, 4, 5, 6, 7]) (ds := [some 73, some 74, some 75, some 76, some 77, some 78, some 79, some 17]) (ls := [[], [], [0, 1], [], [], [3, 4], [2, 5], [6]]) (k := 8) (L := [(some 73, 0), (some 74, 1), (some 75, 2), (some 76, 3), (some 77, 4), (some 78, 5), (some 79, 6), (some 17, 7)]) (fuel := 0) (J := fun wj => Below (World.heap wB).size wB wj)
                (F := [Jo.Fact.eq (.agg #[.bool sa, .slice Aa na ca, .int .i64 F1]), Jo.Fact.eq (.agg #[.bool sb, .slice Ab nb cb, .int .i64 F2]), Jo.Fact.dy Z2.1 Z2.2 20000, Jo.q9 e0 D0 s0 M0 E0 G0 g0 P0 Q0, Jo.q9 e1 D1 s1 M1 E1 G1 g1 P1 Q1, Jo.Fact.iv sB, Jo.qb true, Jo.qb true])
                (by kernel_rfl) (by kernel_rfl) (by decide) rfl rfl (fun _ _ h b => bt h b) ((br _ _).drew) ?_ (fun vs wC hJ hd => ?_)
              · refine Jo.jm rfl ?_ ?_
                · rintro wj hJ K hK; simp only [Jo.z] at hK ⊢; obtain ⟨xX120, xX121, xX122⟩ := (X12.below hJ).u3; go_simp; exact hK.out _ _ rfl (br _ _)
                refine Jo.jm rfl ?_ ?_
                · rintro wj hJ K hK; simp only [Jo.z] at hK ⊢; obtain ⟨xX140, xX141, xX142⟩ := (X14.below hJ).u3; go_simp; exact hK.out _ _ rfl (br _ _)
                refine Jo.jm rfl ?_ ?_
                · rintro wj hJ _ rfl _ rfl K hK; simp only [Jo.z] at hK ⊢; go_simp; refine (dSub (hT.below hJ) (pa.wr.below hJ) (pb.wr.below hJ) (by omega) (by omega) HC2.out HE2.out HG2.out).mono ?_; rintro ee wk ⟨ss2, As2, ns2, cs2, rfl, ps2, ks2, B⟩; exact hK.out _ _ ⟨ss2, As2, ns2, cs2, rfl, ps2, ks2⟩ B
                refine Jo.jm rfl ?_ ?_
                · rintro wj hJ K hK; simp only [Jo.z] at hK ⊢; obtain ⟨xX00, xX01, xX02, xX03, xX04, xX05, xX06, xX07, xX08⟩ := (X0.below hJ).u9; go_simp; exact hK.out _ _ rfl (br _ _)
                refine Jo.jm rfl ?_ ?_
                · rintro wj hJ K hK; simp only [Jo.z] at hK ⊢; obtain ⟨xX10, xX11, xX12, xX13, xX14, xX15, xX16, xX17, xX18⟩ := (X1.below hJ).u9; go_simp; exact hK.out _ _ rfl (br _ _)
                refine Jo.jm rfl ?_ ?_
                · rintro wj hJ _ rfl _ rfl K hK; simp only [Jo.z] at hK ⊢; go_simp; refine (fkSub (hT2.below hJ) u0 v0 u1 v1 HX.out HY.out HSB.out).mono ?_; rintro ee wk ⟨e32, K32, s32, M32, E32, K32b, s32b, M32b, E32b, rfl, v32, B⟩; exact hK.out _ _ ⟨e32, K32, s32, M32, E32, K32b, s32b, M32b, E32b, rfl, v32⟩ B
                refine Jo.jm rfl ?_ ?_
                · rintro wj hJ _ ⟨ss2, As2, ns2, cs2, rfl, ps2, ks2⟩ _ ⟨e32, K32, s32, M32, E32, K32b, s32b, M32b, E32b, rfl, v32⟩ K hK; simp only [Jo.z] at hK ⊢; go_simp; refine (kvIn (hT.below hJ) ps2.wr (by omega) v32 HI2.out).mono ?_; rintro ee wk ⟨rfl, B⟩; exact hK.out _ _ rfl B
                refine Jo.jm rfl ?_ ?_
                · rintro wj hJ _ rfl K hK; simp only [Jo.z] at hK ⊢; go_simp; exact hK.out _ _ rfl (br _ _)
                exact Jo.Steps.nil
              have d2 : (Jo.Fact.dy Z2.1 Z2.2 20000).P (vs 2) wC := hd 2 (by decide)
              have d5 : (Jo.Fact.iv sB).P (vs 5) wC := hd 5 (by decide)
              simp only [Jo.putl, Jo.zd, Jo.ze, Act.put, Jo.za, Jo.zb, Jo.zc]
              rw [show vs 0 = _ from hd 0 (by decide), show vs 1 = _ from hd 1 (by decide), show vs 3 = _ from hd 3 (by decide), show vs 4 = _ from hd 4 (by decide), show vs 6 = _ from hd 6 (by decide), show vs 7 = _ from hd 7 (by decide)]
              clear hd; generalize vs 2 = u2 at d2 ⊢; generalize vs 5 = u5 at d5 ⊢; obtain ⟨_, _, _, _, rfl, _, _⟩ := d2; obtain ⟨e32, K32, s32, M32, E32, K32b, s32b, M32b, E32b, rfl, v32⟩ := d5; replace X0 := X0.below hJ; replace X1 := X1.below hJ; replace X2 := X2.below hJ; replace X3 := X3.below hJ; replace X12 := X12.below hJ; replace X14 := X14.below hJ; replace hT := hT.below hJ; replace hT2 := hT2.below hJ
              replace pa := pa.below hJ; replace pb := pb.below hJ; replace HB := Lib.hid (bt HB.out hJ); refine Jo.jdone (by kernel_rfl) ?_
              go_upto_region 12 with (fail)
              refine Jo.region_joint (T := [0, 1, 2, 3, 4, 5, 6, 7]) (ds := [some 80, some 81, some 82, some 83, some 84, some 85, some 86, some 18]) (ls := [[], [], [0, 1], [], [], [3, 4], [2, 5], [6]]) (k := 8) (L := [(some 80, 0), (some 81, 1), (some 82, 2), (some 83, 3), (some 84, 4), (some 85, 5), (some 86, 6), (some 18, 7)]) (fuel := 0) (J := fun wj => Below (World.heap wC).size wC wj)
                (F := [Jo.Fact.eq (.agg #[.bool sa, .slice Aa na ca, .int .i64 F1]), Jo.Fact.eq (.agg #[.bool sb, .slice Ab nb cb, .int .i64 F2]), Jo.Fact.dy Z3.1 Z3.2 (1 + 2 * 20000), Jo.q9 e0 D0 s0 M0 E0 G0 g0 P0 Q0, Jo.q9 e1 D1 s1 M1 E1 G1 g1 P1 Q1, Jo.Fact.iv sC, Jo.qb true, Jo.qb true])
                (by kernel_rfl) (by kernel_rfl) (by decide) rfl rfl (fun _ _ h b => bt h b) ((br _ _).drew) ?_ (fun vs wD hJ hd => ?_)
              · refine Jo.jm rfl ?_ ?_
                · rintro wj hJ K hK; simp only [Jo.z] at hK ⊢; obtain ⟨xX120, xX121, xX122⟩ := (X12.below hJ).u3; go_simp; exact hK.out _ _ rfl (br _ _)
                refine Jo.jm rfl ?_ ?_
                · rintro wj hJ K hK; simp only [Jo.z] at hK ⊢; obtain ⟨xX140, xX141, xX142⟩ := (X14.below hJ).u3; go_simp; exact hK.out _ _ rfl (br _ _)
                refine Jo.jm rfl ?_ ?_
                · rintro wj hJ _ rfl _ rfl K hK; simp only [Jo.z] at hK ⊢; go_simp; refine (dMul (hT.below hJ) (pa.wr.below hJ) (pb.wr.below hJ) (by omega) (by omega) HE3.out HG3.out).mono ?_; rintro ee wk ⟨ss3, As3, ns3, cs3, rfl, ps3, ks3, B⟩; exact hK.out _ _ ⟨ss3, As3, ns3, cs3, rfl, ps3, ks3⟩ B
                refine Jo.jm rfl ?_ ?_
                · rintro wj hJ K hK; simp only [Jo.z] at hK ⊢; obtain ⟨xX00, xX01, xX02, xX03, xX04, xX05, xX06, xX07, xX08⟩ := (X0.below hJ).u9; go_simp; exact hK.out _ _ rfl (br _ _)
                refine Jo.jm rfl ?_ ?_
                · rintro wj hJ K hK; simp only [Jo.z] at hK ⊢; obtain ⟨xX10, xX11, xX12, xX13, xX14, xX15, xX16, xX17, xX18⟩ := (X1.below hJ).u9; go_simp; exact hK.out _ _ rfl (br _ _)
                refine Jo.jm rfl ?_ ?_
                · rintro wj hJ _ rfl _ rfl K hK; simp only [Jo.z] at hK ⊢; go_simp; refine (fkMul u0 v0 u1 v1 HX.out HY.out HSC.out).mono ?_; rintro ee wk ⟨e33, K33, s33, M33, E33, K33b, s33b, M33b, E33b, rfl, v33, B⟩; exact hK.out _ _ ⟨e33, K33, s33, M33, E33, K33b, s33b, M33b, E33b, rfl, v33⟩ B
                refine Jo.jm rfl ?_ ?_
                · rintro wj hJ _ ⟨ss3, As3, ns3, cs3, rfl, ps3, ks3⟩ _ ⟨e33, K33, s33, M33, E33, K33b, s33b, M33b, E33b, rfl, v33⟩ K hK; simp only [Jo.z] at hK ⊢; go_simp; refine (kvIn (hT.below hJ) ps3.wr (by omega) v33 HI3.out).mono ?_; rintro ee wk ⟨rfl, B⟩; exact hK.out _ _ rfl B
                refine Jo.jm rfl ?_ ?_
                · rintro wj hJ _ rfl K hK; simp only [Jo.z] at hK ⊢; go_simp; exact hK.out _ _ rfl (br _ _)
                exact Jo.Steps.nil
              have d2 : (Jo.Fact.dy Z3.1 Z3.2 (1 + 2 * 20000)).P (vs 2) wD := hd 2 (by decide)
              have d5 : (Jo.Fact.iv sC).P (vs 5) wD := hd 5 (by decide)
              simp only [Jo.putl, Jo.zd, Jo.ze, Act.put, Jo.za, Jo.zb, Jo.zc]
              rw [show vs 0 = _ from hd 0 (by decide), show vs 1 = _ from hd 1 (by decide), show vs 3 = _ from hd 3 (by decide), show vs 4 = _ from hd 4 (by decide), show vs 6 = _ from hd 6 (by decide), show vs 7 = _ from hd 7 (by decide)]
              clear hd; generalize vs 2 = u2 at d2 ⊢; generalize vs 5 = u5 at d5 ⊢; obtain ⟨_, _, _, _, rfl, _, _⟩ := d2; obtain ⟨e33, K33, s33, M33, E33, K33b, s33b, M33b, E33b, rfl, v33⟩ := d5; replace X0 := X0.below hJ; replace X1 := X1.below hJ; replace X2 := X2.below hJ; replace X3 := X3.below hJ; replace X12 := X12.below hJ; replace X14 := X14.below hJ; replace hT := hT.below hJ; replace hT2 := hT2.below hJ
              replace pa := pa.below hJ; replace pb := pb.below hJ; replace HB := Lib.hid (bt HB.out hJ); refine Jo.jdone (by kernel_rfl) ?_
              go_upto_region 13 with (fail)
              refine Jo.rk [0, 1, 2, 3, 4, 5, 6] [some 87, some 88, some 89, some 90, some 91, some 92, some 19] [[], [], [0, 1], [], [3], [2, 4], [5]] 7 0 [Jo.Fact.eq (.agg #[.bool sa, .slice Aa na ca, .int .i64 F1]), Jo.Fact.eq (.agg #[.bool sa, .slice Aa na ca, .int .i64 F1]), Jo.Fact.dy Z4.1 Z4.2 (1 + 2 * 20000), Jo.q9 e0 D0 s0 M0 E0 G0 g0 P0 Q0, Jo.Fact.iv sD, Jo.qb true, Jo.qb true] (by kernel_rfl) (by kernel_rfl) (by decide) rfl ?_ ?_
              · refine Jo.jm rfl ?_ ?_
                · rintro wj hJ K hK; simp only [Jo.z] at hK ⊢; obtain ⟨xX120, xX121, xX122⟩ := (X12.below hJ).u3; go_simp; exact hK.out _ _ rfl (br _ _)
                refine Jo.jm rfl ?_ ?_
                · rintro wj hJ K hK; simp only [Jo.z] at hK ⊢; obtain ⟨xX120, xX121, xX122⟩ := (X12.below hJ).u3; go_simp; exact hK.out _ _ rfl (br _ _)
                refine Jo.jm rfl ?_ ?_
                · rintro wj hJ _ rfl _ rfl K hK; simp only [Jo.z] at hK ⊢; go_simp; refine (dMul (hT.below hJ) (pa.wr.below hJ) (pa.wr.below hJ) (by omega) (by omega) HE4.out HG4.out).mono ?_; rintro ee wk ⟨ss4, As4, ns4, cs4, rfl, ps4, ks4, B⟩; exact hK.out _ _ ⟨ss4, As4, ns4, cs4, rfl, ps4, ks4⟩ B
                refine Jo.jm rfl ?_ ?_
                · rintro wj hJ K hK; simp only [Jo.z] at hK ⊢; obtain ⟨xX00, xX01, xX02, xX03, xX04, xX05, xX06, xX07, xX08⟩ := (X0.below hJ).u9; go_simp; exact hK.out _ _ rfl (br _ _)
                refine Jo.jm rfl ?_ ?_
                · rintro wj hJ _ rfl K hK; simp only [Jo.z] at hK ⊢; go_simp; refine (fkSqr u0 v0 HX.out HSD.out).mono ?_; rintro ee wk ⟨e34, K34, s34, M34, E34, K34b, s34b, M34b, E34b, rfl, v34, B⟩; exact hK.out _ _ ⟨e34, K34, s34, M34, E34, K34b, s34b, M34b, E34b, rfl, v34⟩ B
                refine Jo.jm rfl ?_ ?_
                · rintro wj hJ _ ⟨ss4, As4, ns4, cs4, rfl, ps4, ks4⟩ _ ⟨e34, K34, s34, M34, E34, K34b, s34b, M34b, E34b, rfl, v34⟩ K hK; simp only [Jo.z] at hK ⊢; go_simp; refine (kvIn (hT.below hJ) ps4.wr (by omega) v34 HI4.out).mono ?_; rintro ee wk ⟨rfl, B⟩; exact hK.out _ _ rfl B
                refine Jo.jm rfl ?_ ?_
                · rintro wj hJ _ rfl K hK; simp only [Jo.z] at hK ⊢; go_simp; exact hK.out _ _ rfl (br _ _)
                exact Jo.Steps.nil
              rintro wE hJ _ rfl _ rfl _ ⟨_, _, _, _, rfl, _, _⟩ _ rfl _ ⟨e34, K34, s34, M34, E34, K34b, s34b, M34b, E34b, rfl, v34⟩ _ rfl _ rfl -; simp only [Jo.z]; replace X0 := X0.below hJ; replace X1 := X1.below hJ; replace X2 := X2.below hJ; replace X3 := X3.below hJ; replace X12 := X12.below hJ; replace X14 := X14.below hJ; replace hT := hT.below hJ; replace hT2 := hT2.below hJ; replace pa := pa.below hJ
              replace pb := pb.below hJ; replace HB := Lib.hid (bt HB.out hJ); refine Jo.jdone (by kernel_rfl) ?_; go_wp2
              go_ret
              exact ⟨rfl, HB.out⟩

theorem ivopHolds_walk (e0 : Bool) (D0 : Int) (s0 : Bool) (M0 E0 G0 : Int) (g0 : Bool) (P0 Q0 : Int) (e1 : Bool) (D1 : Int) (s1 : Bool) (M1 E1 G1 : Int) (g1 : Bool) (P1 Q1 : Int) (D2 : Int) (s2 : Bool) (M2 E2 : Int) (D3 : Int) (s3 : Bool) (M3 E3 : Int) (w : World) (hT : Tab w) (hT2 : Tb w) (u0 : M0 < 18446744073709551616) (v0 : P0 < 18446744073709551616) (u1 : M1 < 18446744073709551616) (v1 : P1 < 18446744073709551616) (w2 : 0 ≤ M2) (u2 : M2 < 18446744073709551616) (w3 : 0 ≤ M3) (u3 : M3 < 18446744073709551616) :
    Calls Tryz.prog 6 #[.agg #[.bool e0, .int .i64 D0, .bool s0, .int .u64 M0, .int .i64 E0, .int .i64 G0, .bool g0, .int .u64 P0, .int .i64 Q0], .agg #[.bool e1, .int .i64 D1, .bool s1, .int .u64 M1, .int .i64 E1, .int .i64 G1, .bool g1, .int .u64 P1, .int .i64 Q1], .agg #[.int .i64 D2, .bool s2, .int .u64 M2, .int .i64 E2], .agg #[.int .i64 D3, .bool s3, .int .u64 M3, .int .i64 E3]] w fun e w' => e = .returned (.bool true) ∧ Below w.heap.size w w' := by
  obtain ⟨q, hq⟩ := qf_ex; exact ivopHolds_main e0 D0 s0 M0 E0 G0 g0 P0 Q0 e1 D1 s1 M1 E1 G1 g1 P1 Q1 D2 s2 M2 E2 D3 s3 M3 E3 w _ _ _ _ _ _ _ _ _ _ _ _ _ _ hq hT hT2 u0 v0 u1 v1 w2 u2 w3 u3 rfl rfl rfl rfl rfl rfl rfl rfl rfl rfl rfl rfl rfl rfl
end Go.Proofs.YteejbcimmmcnlaaGreatDoor

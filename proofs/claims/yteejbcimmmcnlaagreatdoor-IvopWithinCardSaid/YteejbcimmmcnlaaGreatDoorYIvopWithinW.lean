/-
  The walk of IvopWithin: for all arguments the call answers true, and nothing that was there has turned.
-/
import Derived.Below
import Derived.BigQuiet
import Derived.Carry
import Derived.Deep.DeepCutAuto
import Derived.Deep.Draws
import Derived.Deep.MidRow
import Derived.Deep.QuietTactic
import Derived.Deep.RegionHeld3
import Derived.Deep.RegionWith
import Derived.IntWalk
import Derived.Laws.Bits64b
import Derived.Laws.CopyOwn
import Derived.Laws.Externs
import Derived.Laws.MakeOwn
import Derived.Laws.OwnMore
import Derived.Laws.Rows
import Derived.Lib.BitFns
import Derived.Lib.Hide
import Derived.Lib.Mul64
import Derived.Lib.TrailingZeros
import Derived.Maps.AppendAt
import Derived.StillTailTactics
import Derived.Test.YteejbcimmmcnlaaGreatDoorRows
import Derived.WalkKit
import Derived.WalkLawsBesides
import Derived.WalkSpells
import Derived.Test.YteejbcimmmcnlaaGreatDoorYBbl
import Derived.Test.YteejbcimmmcnlaaGreatDoorYBbm
import Derived.Test.YteejbcimmmcnlaaGreatDoorYBbp
import Derived.Test.YteejbcimmmcnlaaGreatDoorYBbr
import Derived.Test.YteejbcimmmcnlaaGreatDoorYBbs
namespace Go.Proofs.YteejbcimmmcnlaaGreatDoor
open Go.RowKit
set_option linter.unusedVariables false
set_option linter.unusedSimpArgs false
set_option maxRecDepth 100000

set_option maxHeartbeats 8000000 in
theorem ivopWithin_no (e0 : Bool) (D0 : Int) (s0 : Bool) (M0 E0 G0 : Int) (g0 : Bool) (P0 Q0 : Int) (e1 : Bool) (D1 : Int) (s1 : Bool) (M1 E1 G1 : Int) (g1 : Bool) (P1 Q1 : Int) (e2 : Bool) (D2 : Int) (s2 : Bool) (M2 E2 G2 : Int) (g2 : Bool) (P2 Q2 : Int) (e3 : Bool) (D3 : Int) (s3 : Bool) (M3 E3 G3 : Int) (g3 : Bool) (P3 Q3 : Int) (w : World) (x y z t : Sp) (p r : Bool) {q : Bool → Int → Int → Int} (hq : QF q) (hT : Tab w) (u0 : M0 < 18446744073709551616) (v0 : P0 < 18446744073709551616) (u1 : M1 < 18446744073709551616) (v1 : P1 < 18446744073709551616) (u2 : M2 < 18446744073709551616) (v2 : P2 < 18446744073709551616) (u3 : M3 < 18446744073709551616) (v3 : P3 < 18446744073709551616) (hx : rkI e0 D0 s0 M0 E0 G0 g0 P0 Q0 = x) (hy : rkI e1 D1 s1 M1 E1 G1 g1 P1 Q1 = y) (hz : rkI e2 D2 s2 M2 E2 G2 g2 P2 Q2 = z) (ht : rkI e3 D3 s3 M3 E3 G3 g3 P3 Q3 = t) (h0 : witI x z = p) (h1 : witI y t = r) (h : (p && r) = false) :
    Calls Tryz.prog 7 #[.agg #[.bool e0, .int .i64 D0, .bool s0, .int .u64 M0, .int .i64 E0, .int .i64 G0, .bool g0, .int .u64 P0, .int .i64 Q0], .agg #[.bool e1, .int .i64 D1, .bool s1, .int .u64 M1, .int .i64 E1, .int .i64 G1, .bool g1, .int .u64 P1, .int .i64 Q1], .agg #[.bool e2, .int .i64 D2, .bool s2, .int .u64 M2, .int .i64 E2, .int .i64 G2, .bool g2, .int .u64 P2, .int .i64 Q2], .agg #[.bool e3, .int .i64 D3, .bool s3, .int .u64 M3, .int .i64 E3, .int .i64 G3, .bool g3, .int .u64 P3, .int .i64 Q3]] w (PB w true) := by
  have HX := Lib.hid hx; have HY := Lib.hid hy; have HZ := Lib.hid hz; have HTT := Lib.hid ht; have H0 := Lib.hid h0; have H1 := Lib.hid h1; have HQ := Lib.hid hq; clear hx hy hz ht h0 h1 hq
  go_enter Tryz.func7, Tryz.ntmps7
  go_upto_region 1 with (fail)
  generalize hW1 : (((w.alloc _).alloc _).alloc _).alloc _ = w1 at *; obtain ⟨X0, X1, X2, X3, HB⟩ := Bo.en4 hW1; replace hT := hT.below HB.out; clear hW1
  go_wp2_with fail
  refine (awake9 hT HQ.out).mono ?_; rintro ee w2 ⟨rfl, B⟩; replace X0 := X0.below B; replace X1 := X1.below B; replace X2 := X2.below B; replace X3 := X3.below B; replace hT := hT.below B; replace HB := Lib.hid (bt HB.out B); clear B; obtain ⟨xX00, xX01, xX02, xX03, xX04, xX05, xX06, xX07, xX08⟩ := X0.u9; obtain ⟨xX20, xX21, xX22, xX23, xX24, xX25, xX26, xX27, xX28⟩ := X2.u9
  go_wp2_with fail
  refine (kvWithin u0 v0 u2 v2 HX.out HZ.out H0.out).mono ?_; rintro ee w3 ⟨rfl, B⟩; clear xX00 xX01 xX02 xX03 xX04 xX05 xX06 xX07 xX08 xX20 xX21 xX22 xX23 xX24 xX25 xX26 xX27 xX28; replace X0 := X0.below B; replace X1 := X1.below B; replace X2 := X2.below B; replace X3 := X3.below B; replace hT := hT.below B; replace HB := Lib.hid (bt HB.out B); clear B
  cases p
  · obtain ⟨xX00, xX01, xX02, xX03, xX04, xX05, xX06, xX07, xX08⟩ := X0.u9; go_wp2
    go_ret
    exact ⟨rfl, HB.out⟩
  · obtain rfl : r = false := h
    obtain ⟨xX10, xX11, xX12, xX13, xX14, xX15, xX16, xX17, xX18⟩ := X1.u9; obtain ⟨xX30, xX31, xX32, xX33, xX34, xX35, xX36, xX37, xX38⟩ := X3.u9
    go_wp2_with fail
    refine (kvWithin u1 v1 u3 v3 HY.out HTT.out H1.out).mono ?_; rintro ee w4 ⟨rfl, B⟩; clear xX10 xX11 xX12 xX13 xX14 xX15 xX16 xX17 xX18 xX30 xX31 xX32 xX33 xX34 xX35 xX36 xX37 xX38; replace X0 := X0.below B; replace X1 := X1.below B; replace X2 := X2.below B; replace X3 := X3.below B; replace hT := hT.below B; replace HB := Lib.hid (bt HB.out B); clear B; obtain ⟨xX00, xX01, xX02, xX03, xX04, xX05, xX06, xX07, xX08⟩ := X0.u9
    go_wp2
    go_ret
    exact ⟨rfl, HB.out⟩
set_option maxHeartbeats 8000000 in
theorem ivopWithin_main (e0 : Bool) (D0 : Int) (s0 : Bool) (M0 E0 G0 : Int) (g0 : Bool) (P0 Q0 : Int) (e1 : Bool) (D1 : Int) (s1 : Bool) (M1 E1 G1 : Int) (g1 : Bool) (P1 Q1 : Int) (e2 : Bool) (D2 : Int) (s2 : Bool) (M2 E2 G2 : Int) (g2 : Bool) (P2 Q2 : Int) (e3 : Bool) (D3 : Int) (s3 : Bool) (M3 E3 G3 : Int) (g3 : Bool) (P3 Q3 : Int) (w : World) (x y z t sa sb da db ma mb qa qb ea eb ra rb ba bb : Sp) {q : Bool → Int → Int → Int} (hq : QF q) {r : Bool → Int → Int} (hr : RF r) (hT : Tab w) (hT2 : Tb w) (u0 : M0 < 18446744073709551616) (v0 : P0 < 18446744073709551616) (u1 : M1 < 18446744073709551616) (v1 : P1 < 18446744073709551616) (u2 : M2 < 18446744073709551616) (v2 : P2 < 18446744073709551616) (u3 : M3 < 18446744073709551616) (v3 : P3 < 18446744073709551616) (hx : rkI e0 D0 s0 M0 E0 G0 g0 P0 Q0 = x) (hy : rkI e1 D1 s1 M1 E1 G1 g1 P1 Q1 = y) (hz : rkI e2 D2 s2 M2 E2 G2 g2 P2 Q2 = z) (ht : rkI e3 D3 s3 M3 E3 G3 g3 P3 Q3 = t) (h0 : witI x z = true) (h1 : witI y t = true)
    (j0 : addL [x, y] = sa) (j1 : addL [z, t] = sb) (j2 : subI x y = da) (j3 : subI z t = db) (j4 : mulI x y = ma) (j5 : mulI z t = mb) (j6 : divI q x y = qa) (j7 : divI q z t = qb) (j8 : sqrI x = ea) (j9 : sqrI z = eb) (j10 : rootI r x = ra) (j11 : rootI r z = rb) (j12 : absI x = ba) (j13 : absI z = bb) (i0 : witI sa sb = true) (i1 : witI da db = true) (i2 : witI ma mb = true) (i3 : witI qa qb = true) (i4 : witI ea eb = true) (i5 : witI ra rb = true) (i6 : witI ba bb = true) :
    Calls Tryz.prog 7 #[.agg #[.bool e0, .int .i64 D0, .bool s0, .int .u64 M0, .int .i64 E0, .int .i64 G0, .bool g0, .int .u64 P0, .int .i64 Q0], .agg #[.bool e1, .int .i64 D1, .bool s1, .int .u64 M1, .int .i64 E1, .int .i64 G1, .bool g1, .int .u64 P1, .int .i64 Q1], .agg #[.bool e2, .int .i64 D2, .bool s2, .int .u64 M2, .int .i64 E2, .int .i64 G2, .bool g2, .int .u64 P2, .int .i64 Q2], .agg #[.bool e3, .int .i64 D3, .bool s3, .int .u64 M3, .int .i64 E3, .int .i64 G3, .bool g3, .int .u64 P3, .int .i64 Q3]] w (PB w true) := by
  have HX := Lib.hid hx; have HY := Lib.hid hy; have HZ := Lib.hid hz; have HTT := Lib.hid ht; have H0 := Lib.hid h0; have H1 := Lib.hid h1; have HQ := Lib.hid hq; have HRR := Lib.hid hr; have J0 := Lib.hid j0; have J1 := Lib.hid j1; have J2 := Lib.hid j2; have J3 := Lib.hid j3; have J4 := Lib.hid j4; have J5 := Lib.hid j5; have J6 := Lib.hid j6; have J7 := Lib.hid j7; have J8 := Lib.hid j8; have J9 := Lib.hid j9
  have J10 := Lib.hid j10; have J11 := Lib.hid j11; have J12 := Lib.hid j12; have J13 := Lib.hid j13; have I0 := Lib.hid i0; have I1 := Lib.hid i1; have I2 := Lib.hid i2; have I3 := Lib.hid i3; have I4 := Lib.hid i4; have I5 := Lib.hid i5; have I6 := Lib.hid i6; clear hx hy hz ht h0 h1 hq hr j0 j1 j2 j3 j4 j5 j6 j7 j8 j9 j10 j11 j12 j13 i0 i1 i2 i3 i4 i5 i6
  go_enter Tryz.func7, Tryz.ntmps7
  go_upto_region 1 with (fail)
  generalize hW1 : (((w.alloc _).alloc _).alloc _).alloc _ = w1 at *; obtain ⟨X0, X1, X2, X3, HB⟩ := Bo.en4 hW1; replace hT := hT.below HB.out; replace hT2 := hT2.below HB.out; clear hW1
  go_wp2_with fail
  refine (awake9 hT HQ.out).mono ?_; rintro ee w2 ⟨rfl, B⟩; replace X0 := X0.below B; replace X1 := X1.below B; replace X2 := X2.below B; replace X3 := X3.below B; replace hT := hT.below B; replace hT2 := hT2.below B; replace HB := Lib.hid (bt HB.out B); clear B; obtain ⟨xX00, xX01, xX02, xX03, xX04, xX05, xX06, xX07, xX08⟩ := X0.u9; obtain ⟨xX20, xX21, xX22, xX23, xX24, xX25, xX26, xX27, xX28⟩ := X2.u9
  go_wp2_with fail
  refine (kvWithin u0 v0 u2 v2 HX.out HZ.out H0.out).mono ?_; rintro ee w3 ⟨rfl, B⟩; clear xX00 xX01 xX02 xX03 xX04 xX05 xX06 xX07 xX08 xX20 xX21 xX22 xX23 xX24 xX25 xX26 xX27 xX28; replace X0 := X0.below B; replace X1 := X1.below B; replace X2 := X2.below B; replace X3 := X3.below B; replace hT := hT.below B; replace hT2 := hT2.below B; replace HB := Lib.hid (bt HB.out B); clear B; obtain ⟨xX10, xX11, xX12, xX13, xX14, xX15, xX16, xX17, xX18⟩ := X1.u9
  obtain ⟨xX30, xX31, xX32, xX33, xX34, xX35, xX36, xX37, xX38⟩ := X3.u9
  go_wp2_with fail
  refine (kvWithin u1 v1 u3 v3 HY.out HTT.out H1.out).mono ?_; rintro ee w4 ⟨rfl, B⟩; clear xX10 xX11 xX12 xX13 xX14 xX15 xX16 xX17 xX18 xX30 xX31 xX32 xX33 xX34 xX35 xX36 xX37 xX38; replace X0 := X0.below B; replace X1 := X1.below B; replace X2 := X2.below B; replace X3 := X3.below B; replace hT := hT.below B; replace hT2 := hT2.below B; replace HB := Lib.hid (bt HB.out B); clear B
  go_upto_region 4 with (fail)
  refine Jo.region_joint (T := [0, 1, 2, 3, 4, 5, 6, 7, 8, 9]) (ds := [some 26, some 27, some 28, some 29, some 30, some 31, some 32, some 33, some 34, some 10]) (ls := [[], [], [0, 1], [2], [], [], [4, 5], [6], [3, 7], [8]]) (k := 10) (L := [(some 26, 0), (some 27, 1), (some 28, 2), (some 29, 3), (some 30, 4), (some 31, 5), (some 32, 6), (some 33, 7), (some 34, 8), (some 10, 9)]) (fuel := 0) (J := fun wj => Below (World.heap w4).size w4 wj)
    (F := [Jo.q9 e0 D0 s0 M0 E0 G0 g0 P0 Q0, Jo.q9 e1 D1 s1 M1 E1 G1 g1 P1 Q1, Jo.Fact.il8 2 [x, y], Jo.Fact.iv sa, Jo.q9 e2 D2 s2 M2 E2 G2 g2 P2 Q2, Jo.q9 e3 D3 s3 M3 E3 G3 g3 P3 Q3, Jo.Fact.il8 2 [z, t], Jo.Fact.iv sb, Jo.qb true, Jo.qb true])
    (by kernel_rfl) (by kernel_rfl) (by decide) rfl rfl (fun _ _ h b => bt h b) ((br _ _).drew) ?_ (fun vs w5 hJ hd => ?_)
  · refine Jo.jm rfl ?_ ?_
    · rintro wj hJ K hK; simp only [Jo.z] at hK ⊢; obtain ⟨xX00, xX01, xX02, xX03, xX04, xX05, xX06, xX07, xX08⟩ := (X0.below hJ).u9; go_simp; exact hK.out _ _ rfl (br _ _)
    refine Jo.jm rfl ?_ ?_
    · rintro wj hJ K hK; simp only [Jo.z] at hK ⊢; obtain ⟨xX10, xX11, xX12, xX13, xX14, xX15, xX16, xX17, xX18⟩ := (X1.below hJ).u9; go_simp; exact hK.out _ _ rfl (br _ _)
    refine Jo.jm rfl ?_ ?_
    · rintro wj hJ _ rfl _ rfl K hK; simp only [Jo.z] at hK ⊢; go_simp; exact hK.out _ _ ⟨_, 2, rfl, Il8.lit2 rfl ⟨u0, v0, HX.out⟩ ⟨u1, v1, HY.out⟩⟩ (bel1 _ _)
    refine Jo.jm rfl ?_ ?_
    · rintro wj hJ _ ⟨A30, c30, rfl, h30⟩ K hK; simp only [Jo.z] at hK ⊢; go_simp; refine (fkAdd (hT2.below hJ) h30 J0.out).mono ?_; rintro ee wk ⟨e31, K31, s31, M31, E31, K31b, s31b, M31b, E31b, rfl, v31, B⟩; exact hK.out _ _ ⟨e31, K31, s31, M31, E31, K31b, s31b, M31b, E31b, rfl, v31⟩ B
    refine Jo.jm rfl ?_ ?_
    · rintro wj hJ K hK; simp only [Jo.z] at hK ⊢; obtain ⟨xX20, xX21, xX22, xX23, xX24, xX25, xX26, xX27, xX28⟩ := (X2.below hJ).u9; go_simp; exact hK.out _ _ rfl (br _ _)
    refine Jo.jm rfl ?_ ?_
    · rintro wj hJ K hK; simp only [Jo.z] at hK ⊢; obtain ⟨xX30, xX31, xX32, xX33, xX34, xX35, xX36, xX37, xX38⟩ := (X3.below hJ).u9; go_simp; exact hK.out _ _ rfl (br _ _)
    refine Jo.jm rfl ?_ ?_
    · rintro wj hJ _ rfl _ rfl K hK; simp only [Jo.z] at hK ⊢; go_simp; exact hK.out _ _ ⟨_, 2, rfl, Il8.lit2 rfl ⟨u2, v2, HZ.out⟩ ⟨u3, v3, HTT.out⟩⟩ (bel1 _ _)
    refine Jo.jm rfl ?_ ?_
    · rintro wj hJ _ ⟨A32, c32, rfl, h32⟩ K hK; simp only [Jo.z] at hK ⊢; go_simp; refine (fkAdd (hT2.below hJ) h32 J1.out).mono ?_; rintro ee wk ⟨e33, K33, s33, M33, E33, K33b, s33b, M33b, E33b, rfl, v33, B⟩; exact hK.out _ _ ⟨e33, K33, s33, M33, E33, K33b, s33b, M33b, E33b, rfl, v33⟩ B
    refine Jo.jm rfl ?_ ?_
    · rintro wj hJ _ ⟨e31, K31, s31, M31, E31, K31b, s31b, M31b, E31b, rfl, v31⟩ _ ⟨e33, K33, s33, M33, E33, K33b, s33b, M33b, E33b, rfl, v33⟩ K hK; simp only [Jo.z] at hK ⊢; go_simp; refine (kvWithin v31.top.1 v31.top.2 v33.top.1 v33.top.2 v31.rk v33.rk I0.out).mono ?_; rintro ee wk ⟨rfl, B⟩; exact hK.out _ _ rfl B
    refine Jo.jm rfl ?_ ?_
    · rintro wj hJ _ rfl K hK; simp only [Jo.z] at hK ⊢; go_simp; exact hK.out _ _ rfl (br _ _)
    exact Jo.Steps.nil
  have d2 : (Jo.Fact.il8 2 [x, y]).P (vs 2) w5 := hd 2 (by decide)
  have d3 : (Jo.Fact.iv sa).P (vs 3) w5 := hd 3 (by decide)
  have d6 : (Jo.Fact.il8 2 [z, t]).P (vs 6) w5 := hd 6 (by decide)
  have d7 : (Jo.Fact.iv sb).P (vs 7) w5 := hd 7 (by decide)
  simp only [Jo.putl, Jo.zd, Jo.ze, Act.put, Jo.za, Jo.zb, Jo.zc]
  rw [show vs 0 = _ from hd 0 (by decide), show vs 1 = _ from hd 1 (by decide), show vs 4 = _ from hd 4 (by decide), show vs 5 = _ from hd 5 (by decide), show vs 8 = _ from hd 8 (by decide), show vs 9 = _ from hd 9 (by decide)]
  clear hd; generalize vs 2 = u2 at d2 ⊢; generalize vs 3 = u3 at d3 ⊢; generalize vs 6 = u6 at d6 ⊢; generalize vs 7 = u7 at d7 ⊢; obtain ⟨_, _, rfl, _⟩ := d2; obtain ⟨e31, K31, s31, M31, E31, K31b, s31b, M31b, E31b, rfl, v31⟩ := d3; obtain ⟨_, _, rfl, _⟩ := d6; obtain ⟨e33, K33, s33, M33, E33, K33b, s33b, M33b, E33b, rfl, v33⟩ := d7; replace X0 := X0.below hJ; replace X1 := X1.below hJ; replace X2 := X2.below hJ
  replace X3 := X3.below hJ; replace hT := hT.below hJ; replace hT2 := hT2.below hJ; replace HB := Lib.hid (bt HB.out hJ); refine Jo.jdone (by kernel_rfl) ?_
  go_upto_region 5 with (fail)
  refine Jo.region_joint (T := [0, 1, 2, 3, 4, 5, 6, 7]) (ds := [some 35, some 36, some 37, some 38, some 39, some 40, some 41, some 11]) (ls := [[], [], [0, 1], [], [], [3, 4], [2, 5], [6]]) (k := 8) (L := [(some 35, 0), (some 36, 1), (some 37, 2), (some 38, 3), (some 39, 4), (some 40, 5), (some 41, 6), (some 11, 7)]) (fuel := 0) (J := fun wj => Below (World.heap w5).size w5 wj)
    (F := [Jo.q9 e0 D0 s0 M0 E0 G0 g0 P0 Q0, Jo.q9 e1 D1 s1 M1 E1 G1 g1 P1 Q1, Jo.Fact.iv da, Jo.q9 e2 D2 s2 M2 E2 G2 g2 P2 Q2, Jo.q9 e3 D3 s3 M3 E3 G3 g3 P3 Q3, Jo.Fact.iv db, Jo.qb true, Jo.qb true])
    (by kernel_rfl) (by kernel_rfl) (by decide) rfl rfl (fun _ _ h b => bt h b) ((br _ _).drew) ?_ (fun vs w6 hJ hd => ?_)
  · refine Jo.jm rfl ?_ ?_
    · rintro wj hJ K hK; simp only [Jo.z] at hK ⊢; obtain ⟨xX00, xX01, xX02, xX03, xX04, xX05, xX06, xX07, xX08⟩ := (X0.below hJ).u9; go_simp; exact hK.out _ _ rfl (br _ _)
    refine Jo.jm rfl ?_ ?_
    · rintro wj hJ K hK; simp only [Jo.z] at hK ⊢; obtain ⟨xX10, xX11, xX12, xX13, xX14, xX15, xX16, xX17, xX18⟩ := (X1.below hJ).u9; go_simp; exact hK.out _ _ rfl (br _ _)
    refine Jo.jm rfl ?_ ?_
    · rintro wj hJ _ rfl _ rfl K hK; simp only [Jo.z] at hK ⊢; go_simp; refine (fkSub (hT2.below hJ) u0 v0 u1 v1 HX.out HY.out J2.out).mono ?_; rintro ee wk ⟨e20, K20, s20, M20, E20, K20b, s20b, M20b, E20b, rfl, v20, B⟩; exact hK.out _ _ ⟨e20, K20, s20, M20, E20, K20b, s20b, M20b, E20b, rfl, v20⟩ B
    refine Jo.jm rfl ?_ ?_
    · rintro wj hJ K hK; simp only [Jo.z] at hK ⊢; obtain ⟨xX20, xX21, xX22, xX23, xX24, xX25, xX26, xX27, xX28⟩ := (X2.below hJ).u9; go_simp; exact hK.out _ _ rfl (br _ _)
    refine Jo.jm rfl ?_ ?_
    · rintro wj hJ K hK; simp only [Jo.z] at hK ⊢; obtain ⟨xX30, xX31, xX32, xX33, xX34, xX35, xX36, xX37, xX38⟩ := (X3.below hJ).u9; go_simp; exact hK.out _ _ rfl (br _ _)
    refine Jo.jm rfl ?_ ?_
    · rintro wj hJ _ rfl _ rfl K hK; simp only [Jo.z] at hK ⊢; go_simp; refine (fkSub (hT2.below hJ) u2 v2 u3 v3 HZ.out HTT.out J3.out).mono ?_; rintro ee wk ⟨e21, K21, s21, M21, E21, K21b, s21b, M21b, E21b, rfl, v21, B⟩; exact hK.out _ _ ⟨e21, K21, s21, M21, E21, K21b, s21b, M21b, E21b, rfl, v21⟩ B
    refine Jo.jm rfl ?_ ?_
    · rintro wj hJ _ ⟨e20, K20, s20, M20, E20, K20b, s20b, M20b, E20b, rfl, v20⟩ _ ⟨e21, K21, s21, M21, E21, K21b, s21b, M21b, E21b, rfl, v21⟩ K hK; simp only [Jo.z] at hK ⊢; go_simp; refine (kvWithin v20.top.1 v20.top.2 v21.top.1 v21.top.2 v20.rk v21.rk I1.out).mono ?_; rintro ee wk ⟨rfl, B⟩; exact hK.out _ _ rfl B
    refine Jo.jm rfl ?_ ?_
    · rintro wj hJ _ rfl K hK; simp only [Jo.z] at hK ⊢; go_simp; exact hK.out _ _ rfl (br _ _)
    exact Jo.Steps.nil
  have d2 : (Jo.Fact.iv da).P (vs 2) w6 := hd 2 (by decide)
  have d5 : (Jo.Fact.iv db).P (vs 5) w6 := hd 5 (by decide)
  simp only [Jo.putl, Jo.zd, Jo.ze, Act.put, Jo.za, Jo.zb, Jo.zc]
  rw [show vs 0 = _ from hd 0 (by decide), show vs 1 = _ from hd 1 (by decide), show vs 3 = _ from hd 3 (by decide), show vs 4 = _ from hd 4 (by decide), show vs 6 = _ from hd 6 (by decide), show vs 7 = _ from hd 7 (by decide)]
  clear hd; generalize vs 2 = u2 at d2 ⊢; generalize vs 5 = u5 at d5 ⊢; obtain ⟨e20, K20, s20, M20, E20, K20b, s20b, M20b, E20b, rfl, v20⟩ := d2; obtain ⟨e21, K21, s21, M21, E21, K21b, s21b, M21b, E21b, rfl, v21⟩ := d5; replace X0 := X0.below hJ; replace X1 := X1.below hJ; replace X2 := X2.below hJ; replace X3 := X3.below hJ; replace hT := hT.below hJ; replace hT2 := hT2.below hJ; replace HB := Lib.hid (bt HB.out hJ)
  refine Jo.jdone (by kernel_rfl) ?_
  go_upto_region 6 with (fail)
  refine Jo.region_joint (T := [0, 1, 2, 3, 4, 5, 6, 7]) (ds := [some 42, some 43, some 44, some 45, some 46, some 47, some 48, some 12]) (ls := [[], [], [0, 1], [], [], [3, 4], [2, 5], [6]]) (k := 8) (L := [(some 42, 0), (some 43, 1), (some 44, 2), (some 45, 3), (some 46, 4), (some 47, 5), (some 48, 6), (some 12, 7)]) (fuel := 0) (J := fun wj => Below (World.heap w6).size w6 wj)
    (F := [Jo.q9 e0 D0 s0 M0 E0 G0 g0 P0 Q0, Jo.q9 e1 D1 s1 M1 E1 G1 g1 P1 Q1, Jo.Fact.iv ma, Jo.q9 e2 D2 s2 M2 E2 G2 g2 P2 Q2, Jo.q9 e3 D3 s3 M3 E3 G3 g3 P3 Q3, Jo.Fact.iv mb, Jo.qb true, Jo.qb true])
    (by kernel_rfl) (by kernel_rfl) (by decide) rfl rfl (fun _ _ h b => bt h b) ((br _ _).drew) ?_ (fun vs w7 hJ hd => ?_)
  · refine Jo.jm rfl ?_ ?_
    · rintro wj hJ K hK; simp only [Jo.z] at hK ⊢; obtain ⟨xX00, xX01, xX02, xX03, xX04, xX05, xX06, xX07, xX08⟩ := (X0.below hJ).u9; go_simp; exact hK.out _ _ rfl (br _ _)
    refine Jo.jm rfl ?_ ?_
    · rintro wj hJ K hK; simp only [Jo.z] at hK ⊢; obtain ⟨xX10, xX11, xX12, xX13, xX14, xX15, xX16, xX17, xX18⟩ := (X1.below hJ).u9; go_simp; exact hK.out _ _ rfl (br _ _)
    refine Jo.jm rfl ?_ ?_
    · rintro wj hJ _ rfl _ rfl K hK; simp only [Jo.z] at hK ⊢; go_simp; refine (fkMul u0 v0 u1 v1 HX.out HY.out J4.out).mono ?_; rintro ee wk ⟨e20, K20, s20, M20, E20, K20b, s20b, M20b, E20b, rfl, v20, B⟩; exact hK.out _ _ ⟨e20, K20, s20, M20, E20, K20b, s20b, M20b, E20b, rfl, v20⟩ B
    refine Jo.jm rfl ?_ ?_
    · rintro wj hJ K hK; simp only [Jo.z] at hK ⊢; obtain ⟨xX20, xX21, xX22, xX23, xX24, xX25, xX26, xX27, xX28⟩ := (X2.below hJ).u9; go_simp; exact hK.out _ _ rfl (br _ _)
    refine Jo.jm rfl ?_ ?_
    · rintro wj hJ K hK; simp only [Jo.z] at hK ⊢; obtain ⟨xX30, xX31, xX32, xX33, xX34, xX35, xX36, xX37, xX38⟩ := (X3.below hJ).u9; go_simp; exact hK.out _ _ rfl (br _ _)
    refine Jo.jm rfl ?_ ?_
    · rintro wj hJ _ rfl _ rfl K hK; simp only [Jo.z] at hK ⊢; go_simp; refine (fkMul u2 v2 u3 v3 HZ.out HTT.out J5.out).mono ?_; rintro ee wk ⟨e21, K21, s21, M21, E21, K21b, s21b, M21b, E21b, rfl, v21, B⟩; exact hK.out _ _ ⟨e21, K21, s21, M21, E21, K21b, s21b, M21b, E21b, rfl, v21⟩ B
    refine Jo.jm rfl ?_ ?_
    · rintro wj hJ _ ⟨e20, K20, s20, M20, E20, K20b, s20b, M20b, E20b, rfl, v20⟩ _ ⟨e21, K21, s21, M21, E21, K21b, s21b, M21b, E21b, rfl, v21⟩ K hK; simp only [Jo.z] at hK ⊢; go_simp; refine (kvWithin v20.top.1 v20.top.2 v21.top.1 v21.top.2 v20.rk v21.rk I2.out).mono ?_; rintro ee wk ⟨rfl, B⟩; exact hK.out _ _ rfl B
    refine Jo.jm rfl ?_ ?_
    · rintro wj hJ _ rfl K hK; simp only [Jo.z] at hK ⊢; go_simp; exact hK.out _ _ rfl (br _ _)
    exact Jo.Steps.nil
  have d2 : (Jo.Fact.iv ma).P (vs 2) w7 := hd 2 (by decide)
  have d5 : (Jo.Fact.iv mb).P (vs 5) w7 := hd 5 (by decide)
  simp only [Jo.putl, Jo.zd, Jo.ze, Act.put, Jo.za, Jo.zb, Jo.zc]
  rw [show vs 0 = _ from hd 0 (by decide), show vs 1 = _ from hd 1 (by decide), show vs 3 = _ from hd 3 (by decide), show vs 4 = _ from hd 4 (by decide), show vs 6 = _ from hd 6 (by decide), show vs 7 = _ from hd 7 (by decide)]
  clear hd; generalize vs 2 = u2 at d2 ⊢; generalize vs 5 = u5 at d5 ⊢; obtain ⟨e20, K20, s20, M20, E20, K20b, s20b, M20b, E20b, rfl, v20⟩ := d2; obtain ⟨e21, K21, s21, M21, E21, K21b, s21b, M21b, E21b, rfl, v21⟩ := d5; replace X0 := X0.below hJ; replace X1 := X1.below hJ; replace X2 := X2.below hJ; replace X3 := X3.below hJ; replace hT := hT.below hJ; replace hT2 := hT2.below hJ; replace HB := Lib.hid (bt HB.out hJ)
  refine Jo.jdone (by kernel_rfl) ?_
  go_upto_region 7 with (fail)
  refine Jo.region_joint (T := [0, 1, 2, 3, 4, 5, 6, 7]) (ds := [some 49, some 50, some 51, some 52, some 53, some 54, some 55, some 13]) (ls := [[], [], [0, 1], [], [], [3, 4], [2, 5], [6]]) (k := 8) (L := [(some 49, 0), (some 50, 1), (some 51, 2), (some 52, 3), (some 53, 4), (some 54, 5), (some 55, 6), (some 13, 7)]) (fuel := 0) (J := fun wj => Below (World.heap w7).size w7 wj)
    (F := [Jo.q9 e0 D0 s0 M0 E0 G0 g0 P0 Q0, Jo.q9 e1 D1 s1 M1 E1 G1 g1 P1 Q1, Jo.Fact.iv qa, Jo.q9 e2 D2 s2 M2 E2 G2 g2 P2 Q2, Jo.q9 e3 D3 s3 M3 E3 G3 g3 P3 Q3, Jo.Fact.iv qb, Jo.qb true, Jo.qb true])
    (by kernel_rfl) (by kernel_rfl) (by decide) rfl rfl (fun _ _ h b => bt h b) ((br _ _).drew) ?_ (fun vs w8 hJ hd => ?_)
  · refine Jo.jm rfl ?_ ?_
    · rintro wj hJ K hK; simp only [Jo.z] at hK ⊢; obtain ⟨xX00, xX01, xX02, xX03, xX04, xX05, xX06, xX07, xX08⟩ := (X0.below hJ).u9; go_simp; exact hK.out _ _ rfl (br _ _)
    refine Jo.jm rfl ?_ ?_
    · rintro wj hJ K hK; simp only [Jo.z] at hK ⊢; obtain ⟨xX10, xX11, xX12, xX13, xX14, xX15, xX16, xX17, xX18⟩ := (X1.below hJ).u9; go_simp; exact hK.out _ _ rfl (br _ _)
    refine Jo.jm rfl ?_ ?_
    · rintro wj hJ _ rfl _ rfl K hK; simp only [Jo.z] at hK ⊢; go_simp; refine (fkDiv (hT.below hJ) HQ.out u0 v0 u1 v1 HX.out HY.out J6.out).mono ?_; rintro ee wk ⟨e20, K20, s20, M20, E20, K20b, s20b, M20b, E20b, rfl, v20, B⟩; exact hK.out _ _ ⟨e20, K20, s20, M20, E20, K20b, s20b, M20b, E20b, rfl, v20⟩ B
    refine Jo.jm rfl ?_ ?_
    · rintro wj hJ K hK; simp only [Jo.z] at hK ⊢; obtain ⟨xX20, xX21, xX22, xX23, xX24, xX25, xX26, xX27, xX28⟩ := (X2.below hJ).u9; go_simp; exact hK.out _ _ rfl (br _ _)
    refine Jo.jm rfl ?_ ?_
    · rintro wj hJ K hK; simp only [Jo.z] at hK ⊢; obtain ⟨xX30, xX31, xX32, xX33, xX34, xX35, xX36, xX37, xX38⟩ := (X3.below hJ).u9; go_simp; exact hK.out _ _ rfl (br _ _)
    refine Jo.jm rfl ?_ ?_
    · rintro wj hJ _ rfl _ rfl K hK; simp only [Jo.z] at hK ⊢; go_simp; refine (fkDiv (hT.below hJ) HQ.out u2 v2 u3 v3 HZ.out HTT.out J7.out).mono ?_; rintro ee wk ⟨e21, K21, s21, M21, E21, K21b, s21b, M21b, E21b, rfl, v21, B⟩; exact hK.out _ _ ⟨e21, K21, s21, M21, E21, K21b, s21b, M21b, E21b, rfl, v21⟩ B
    refine Jo.jm rfl ?_ ?_
    · rintro wj hJ _ ⟨e20, K20, s20, M20, E20, K20b, s20b, M20b, E20b, rfl, v20⟩ _ ⟨e21, K21, s21, M21, E21, K21b, s21b, M21b, E21b, rfl, v21⟩ K hK; simp only [Jo.z] at hK ⊢; go_simp; refine (kvWithin v20.top.1 v20.top.2 v21.top.1 v21.top.2 v20.rk v21.rk I3.out).mono ?_; rintro ee wk ⟨rfl, B⟩; exact hK.out _ _ rfl B
    refine Jo.jm rfl ?_ ?_
    · rintro wj hJ _ rfl K hK; simp only [Jo.z] at hK ⊢; go_simp; exact hK.out _ _ rfl (br _ _)
    exact Jo.Steps.nil
  have d2 : (Jo.Fact.iv qa).P (vs 2) w8 := hd 2 (by decide)
  have d5 : (Jo.Fact.iv qb).P (vs 5) w8 := hd 5 (by decide)
  simp only [Jo.putl, Jo.zd, Jo.ze, Act.put, Jo.za, Jo.zb, Jo.zc]
  rw [show vs 0 = _ from hd 0 (by decide), show vs 1 = _ from hd 1 (by decide), show vs 3 = _ from hd 3 (by decide), show vs 4 = _ from hd 4 (by decide), show vs 6 = _ from hd 6 (by decide), show vs 7 = _ from hd 7 (by decide)]
  clear hd; generalize vs 2 = u2 at d2 ⊢; generalize vs 5 = u5 at d5 ⊢; obtain ⟨e20, K20, s20, M20, E20, K20b, s20b, M20b, E20b, rfl, v20⟩ := d2; obtain ⟨e21, K21, s21, M21, E21, K21b, s21b, M21b, E21b, rfl, v21⟩ := d5; replace X0 := X0.below hJ; replace X1 := X1.below hJ; replace X2 := X2.below hJ; replace X3 := X3.below hJ; replace hT := hT.below hJ; replace hT2 := hT2.below hJ; replace HB := Lib.hid (bt HB.out hJ)
  refine Jo.jdone (by kernel_rfl) ?_
  go_upto_region 8 with (fail)
  refine Jo.rk [0, 1, 2, 3, 4, 5, 6, 7, 8, 9, 10, 11, 12, 13, 14, 15, 16, 17, 18, 19, 20, 21, 22, 23, 24, 25, 26, 27, 28, 29, 30, 31, 32, 33, 34] [some 56, some 57, some 58, some 59, some 60, some 61, some 62, some 63, some 64, some 65, some 66, some 67, some 68, some 69, some 70, some 71, some 72, some 73, some 74, some 75, some 76, some 77, some 78, some 79, some 80, some 81, some 82, some 83, some 84, some 85, some 86, some 87, some 88, some 89, some 8] [[], [0], [1], [1, 2], [3], [4], [4, 5], [6], [7], [7, 8], [9], [10], [10, 11], [12], [13], [13, 14], [13], [13, 16], [13, 15, 17], [13, 18], [19], [20], [20, 21], [20], [20, 23], [20, 22, 24], [20, 25], [26], [27], [27, 28], [27], [27, 30], [27, 29, 31], [27, 32], [33]] 35 0 [Jo.qb true, Jo.qb true, Jo.qb true, Jo.qb true, Jo.qb true, Jo.qb true, Jo.qb true, Jo.qb true, Jo.qb true, Jo.qb true, Jo.qb true, Jo.qb true, Jo.qb true, Jo.qb true, Jo.q9 e0 D0 s0 M0 E0 G0 g0 P0 Q0, Jo.Fact.iv ea, Jo.q9 e2 D2 s2 M2 E2 G2 g2 P2 Q2, Jo.Fact.iv eb, Jo.qb true, Jo.qb true, Jo.qb true, Jo.q9 e0 D0 s0 M0 E0 G0 g0 P0 Q0, Jo.Fact.iv ra, Jo.q9 e2 D2 s2 M2 E2 G2 g2 P2 Q2, Jo.Fact.iv rb, Jo.qb true, Jo.qb true, Jo.qb true, Jo.q9 e0 D0 s0 M0 E0 G0 g0 P0 Q0, Jo.Fact.iv ba, Jo.q9 e2 D2 s2 M2 E2 G2 g2 P2 Q2, Jo.Fact.iv bb, Jo.qb true, Jo.qb true, Jo.qb true] (by kernel_rfl) (by kernel_rfl) (by decide) rfl ?_ ?_
  · refine Jo.jm rfl ?_ ?_
    · rintro wj hJ K hK; simp only [Jo.z] at hK ⊢; go_simp; exact hK.out _ _ rfl (br _ _)
    refine Jo.jm rfl ?_ ?_
    · rintro wj hJ _ rfl K hK; simp only [Jo.z] at hK ⊢; go_simp; exact hK.out _ _ rfl (br _ _)
    refine Jo.jm rfl ?_ ?_
    · rintro wj hJ _ rfl K hK; simp only [Jo.z] at hK ⊢; go_simp; exact hK.out _ _ rfl (br _ _)
    refine Jo.jm rfl ?_ ?_
    · rintro wj hJ _ rfl _ rfl K hK; simp only [Jo.z] at hK ⊢; go_simp; exact hK.out _ _ rfl (br _ _)
    refine Jo.jm rfl ?_ ?_
    · rintro wj hJ _ rfl K hK; simp only [Jo.z] at hK ⊢; go_simp; exact hK.out _ _ rfl (br _ _)
    refine Jo.jm rfl ?_ ?_
    · rintro wj hJ _ rfl K hK; simp only [Jo.z] at hK ⊢; go_simp; exact hK.out _ _ rfl (br _ _)
    refine Jo.jm rfl ?_ ?_
    · rintro wj hJ _ rfl _ rfl K hK; simp only [Jo.z] at hK ⊢; go_simp; exact hK.out _ _ rfl (br _ _)
    refine Jo.jm rfl ?_ ?_
    · rintro wj hJ _ rfl K hK; simp only [Jo.z] at hK ⊢; go_simp; exact hK.out _ _ rfl (br _ _)
    refine Jo.jm rfl ?_ ?_
    · rintro wj hJ _ rfl K hK; simp only [Jo.z] at hK ⊢; go_simp; exact hK.out _ _ rfl (br _ _)
    refine Jo.jm rfl ?_ ?_
    · rintro wj hJ _ rfl _ rfl K hK; simp only [Jo.z] at hK ⊢; go_simp; exact hK.out _ _ rfl (br _ _)
    refine Jo.jm rfl ?_ ?_
    · rintro wj hJ _ rfl K hK; simp only [Jo.z] at hK ⊢; go_simp; exact hK.out _ _ rfl (br _ _)
    refine Jo.jm rfl ?_ ?_
    · rintro wj hJ _ rfl K hK; simp only [Jo.z] at hK ⊢; go_simp; exact hK.out _ _ rfl (br _ _)
    refine Jo.jm rfl ?_ ?_
    · rintro wj hJ _ rfl _ rfl K hK; simp only [Jo.z] at hK ⊢; go_simp; exact hK.out _ _ rfl (br _ _)
    refine Jo.jm rfl ?_ ?_
    · rintro wj hJ _ rfl K hK; simp only [Jo.z] at hK ⊢; go_simp; exact hK.out _ _ rfl (br _ _)
    refine Jo.jm rfl ?_ ?_
    · rintro wj hJ _ rfl K hK; simp only [Jo.z] at hK ⊢; obtain ⟨xX00, xX01, xX02, xX03, xX04, xX05, xX06, xX07, xX08⟩ := (X0.below hJ).u9; go_simp; exact hK.out _ _ rfl (br _ _)
    refine Jo.jm rfl ?_ ?_
    · rintro wj hJ _ rfl _ rfl K hK; simp only [Jo.z] at hK ⊢; go_simp; refine (fkSqr u0 v0 HX.out J8.out).mono ?_; rintro ee wk ⟨e40, K40, s40, M40, E40, K40b, s40b, M40b, E40b, rfl, v40, B⟩; exact hK.out _ _ ⟨e40, K40, s40, M40, E40, K40b, s40b, M40b, E40b, rfl, v40⟩ B
    refine Jo.jm rfl ?_ ?_
    · rintro wj hJ _ rfl K hK; simp only [Jo.z] at hK ⊢; obtain ⟨xX20, xX21, xX22, xX23, xX24, xX25, xX26, xX27, xX28⟩ := (X2.below hJ).u9; go_simp; exact hK.out _ _ rfl (br _ _)
    refine Jo.jm rfl ?_ ?_
    · rintro wj hJ _ rfl _ rfl K hK; simp only [Jo.z] at hK ⊢; go_simp; refine (fkSqr u2 v2 HZ.out J9.out).mono ?_; rintro ee wk ⟨e41, K41, s41, M41, E41, K41b, s41b, M41b, E41b, rfl, v41, B⟩; exact hK.out _ _ ⟨e41, K41, s41, M41, E41, K41b, s41b, M41b, E41b, rfl, v41⟩ B
    refine Jo.jm rfl ?_ ?_
    · rintro wj hJ _ rfl _ ⟨e40, K40, s40, M40, E40, K40b, s40b, M40b, E40b, rfl, v40⟩ _ ⟨e41, K41, s41, M41, E41, K41b, s41b, M41b, E41b, rfl, v41⟩ K hK; simp only [Jo.z] at hK ⊢; go_simp; refine (kvWithin v40.top.1 v40.top.2 v41.top.1 v41.top.2 v40.rk v41.rk I4.out).mono ?_; rintro ee wk ⟨rfl, B⟩; exact hK.out _ _ rfl B
    refine Jo.jm rfl ?_ ?_
    · rintro wj hJ _ rfl _ rfl K hK; simp only [Jo.z] at hK ⊢; go_simp; exact hK.out _ _ rfl (br _ _)
    refine Jo.jm rfl ?_ ?_
    · rintro wj hJ _ rfl K hK; simp only [Jo.z] at hK ⊢; go_simp; exact hK.out _ _ rfl (br _ _)
    refine Jo.jm rfl ?_ ?_
    · rintro wj hJ _ rfl K hK; simp only [Jo.z] at hK ⊢; obtain ⟨xX00, xX01, xX02, xX03, xX04, xX05, xX06, xX07, xX08⟩ := (X0.below hJ).u9; go_simp; exact hK.out _ _ rfl (br _ _)
    refine Jo.jm rfl ?_ ?_
    · rintro wj hJ _ rfl _ rfl K hK; simp only [Jo.z] at hK ⊢; go_simp; refine (fkRoot (hT.below hJ) HRR.out u0 v0 HX.out J10.out).mono ?_; rintro ee wk ⟨e42, K42, s42, M42, E42, K42b, s42b, M42b, E42b, rfl, v42, B⟩; exact hK.out _ _ ⟨e42, K42, s42, M42, E42, K42b, s42b, M42b, E42b, rfl, v42⟩ B
    refine Jo.jm rfl ?_ ?_
    · rintro wj hJ _ rfl K hK; simp only [Jo.z] at hK ⊢; obtain ⟨xX20, xX21, xX22, xX23, xX24, xX25, xX26, xX27, xX28⟩ := (X2.below hJ).u9; go_simp; exact hK.out _ _ rfl (br _ _)
    refine Jo.jm rfl ?_ ?_
    · rintro wj hJ _ rfl _ rfl K hK; simp only [Jo.z] at hK ⊢; go_simp; refine (fkRoot (hT.below hJ) HRR.out u2 v2 HZ.out J11.out).mono ?_; rintro ee wk ⟨e43, K43, s43, M43, E43, K43b, s43b, M43b, E43b, rfl, v43, B⟩; exact hK.out _ _ ⟨e43, K43, s43, M43, E43, K43b, s43b, M43b, E43b, rfl, v43⟩ B
    refine Jo.jm rfl ?_ ?_
    · rintro wj hJ _ rfl _ ⟨e42, K42, s42, M42, E42, K42b, s42b, M42b, E42b, rfl, v42⟩ _ ⟨e43, K43, s43, M43, E43, K43b, s43b, M43b, E43b, rfl, v43⟩ K hK; simp only [Jo.z] at hK ⊢; go_simp; refine (kvWithin v42.top.1 v42.top.2 v43.top.1 v43.top.2 v42.rk v43.rk I5.out).mono ?_; rintro ee wk ⟨rfl, B⟩; exact hK.out _ _ rfl B
    refine Jo.jm rfl ?_ ?_
    · rintro wj hJ _ rfl _ rfl K hK; simp only [Jo.z] at hK ⊢; go_simp; exact hK.out _ _ rfl (br _ _)
    refine Jo.jm rfl ?_ ?_
    · rintro wj hJ _ rfl K hK; simp only [Jo.z] at hK ⊢; go_simp; exact hK.out _ _ rfl (br _ _)
    refine Jo.jm rfl ?_ ?_
    · rintro wj hJ _ rfl K hK; simp only [Jo.z] at hK ⊢; obtain ⟨xX00, xX01, xX02, xX03, xX04, xX05, xX06, xX07, xX08⟩ := (X0.below hJ).u9; go_simp; exact hK.out _ _ rfl (br _ _)
    refine Jo.jm rfl ?_ ?_
    · rintro wj hJ _ rfl _ rfl K hK; simp only [Jo.z] at hK ⊢; go_simp; refine (fkAbs u0 v0 HX.out J12.out).mono ?_; rintro ee wk ⟨e44, K44, s44, M44, E44, K44b, s44b, M44b, E44b, rfl, v44, B⟩; exact hK.out _ _ ⟨e44, K44, s44, M44, E44, K44b, s44b, M44b, E44b, rfl, v44⟩ B
    refine Jo.jm rfl ?_ ?_
    · rintro wj hJ _ rfl K hK; simp only [Jo.z] at hK ⊢; obtain ⟨xX20, xX21, xX22, xX23, xX24, xX25, xX26, xX27, xX28⟩ := (X2.below hJ).u9; go_simp; exact hK.out _ _ rfl (br _ _)
    refine Jo.jm rfl ?_ ?_
    · rintro wj hJ _ rfl _ rfl K hK; simp only [Jo.z] at hK ⊢; go_simp; refine (fkAbs u2 v2 HZ.out J13.out).mono ?_; rintro ee wk ⟨e45, K45, s45, M45, E45, K45b, s45b, M45b, E45b, rfl, v45, B⟩; exact hK.out _ _ ⟨e45, K45, s45, M45, E45, K45b, s45b, M45b, E45b, rfl, v45⟩ B
    refine Jo.jm rfl ?_ ?_
    · rintro wj hJ _ rfl _ ⟨e44, K44, s44, M44, E44, K44b, s44b, M44b, E44b, rfl, v44⟩ _ ⟨e45, K45, s45, M45, E45, K45b, s45b, M45b, E45b, rfl, v45⟩ K hK; simp only [Jo.z] at hK ⊢; go_simp; refine (kvWithin v44.top.1 v44.top.2 v45.top.1 v45.top.2 v44.rk v45.rk I6.out).mono ?_; rintro ee wk ⟨rfl, B⟩; exact hK.out _ _ rfl B
    refine Jo.jm rfl ?_ ?_
    · rintro wj hJ _ rfl _ rfl K hK; simp only [Jo.z] at hK ⊢; go_simp; exact hK.out _ _ rfl (br _ _)
    refine Jo.jm rfl ?_ ?_
    · rintro wj hJ _ rfl K hK; simp only [Jo.z] at hK ⊢; go_simp; exact hK.out _ _ rfl (br _ _)
    exact Jo.Steps.nil
  rintro w9 hJ _ rfl _ rfl _ rfl _ rfl _ rfl _ rfl _ rfl _ rfl _ rfl _ rfl _ rfl _ rfl _ rfl _ rfl _ rfl _ ⟨e40, K40, s40, M40, E40, K40b, s40b, M40b, E40b, rfl, v40⟩ _ rfl _ ⟨e41, K41, s41, M41, E41, K41b, s41b, M41b, E41b, rfl, v41⟩ _ rfl _ rfl _ rfl _ rfl _ ⟨e42, K42, s42, M42, E42, K42b, s42b, M42b, E42b, rfl, v42⟩ _ rfl _ ⟨e43, K43, s43, M43, E43, K43b, s43b, M43b, E43b, rfl, v43⟩ _ rfl _ rfl _ rfl _ rfl _ ⟨e44, K44, s44, M44, E44, K44b, s44b, M44b, E44b, rfl, v44⟩ _ rfl _ ⟨e45, K45, s45, M45, E45, K45b, s45b, M45b, E45b, rfl, v45⟩ _ rfl _ rfl _ rfl -
  simp only [Jo.z]; replace X0 := X0.below hJ; replace X1 := X1.below hJ; replace X2 := X2.below hJ; replace X3 := X3.below hJ; replace hT := hT.below hJ; replace hT2 := hT2.below hJ; replace HB := Lib.hid (bt HB.out hJ); refine Jo.jdone (by kernel_rfl) ?_; go_wp2
  go_ret
  exact ⟨rfl, HB.out⟩

theorem ivopWithin_walk (e0 : Bool) (D0 : Int) (s0 : Bool) (M0 E0 G0 : Int) (g0 : Bool) (P0 Q0 : Int) (e1 : Bool) (D1 : Int) (s1 : Bool) (M1 E1 G1 : Int) (g1 : Bool) (P1 Q1 : Int) (e2 : Bool) (D2 : Int) (s2 : Bool) (M2 E2 G2 : Int) (g2 : Bool) (P2 Q2 : Int) (e3 : Bool) (D3 : Int) (s3 : Bool) (M3 E3 G3 : Int) (g3 : Bool) (P3 Q3 : Int) (w : World) (hT : Tab w) (hT2 : Tb w) (u0 : M0 < 18446744073709551616) (v0 : P0 < 18446744073709551616) (u1 : M1 < 18446744073709551616) (v1 : P1 < 18446744073709551616) (u2 : M2 < 18446744073709551616) (v2 : P2 < 18446744073709551616) (u3 : M3 < 18446744073709551616) (v3 : P3 < 18446744073709551616) :
    Calls Tryz.prog 7 #[.agg #[.bool e0, .int .i64 D0, .bool s0, .int .u64 M0, .int .i64 E0, .int .i64 G0, .bool g0, .int .u64 P0, .int .i64 Q0], .agg #[.bool e1, .int .i64 D1, .bool s1, .int .u64 M1, .int .i64 E1, .int .i64 G1, .bool g1, .int .u64 P1, .int .i64 Q1], .agg #[.bool e2, .int .i64 D2, .bool s2, .int .u64 M2, .int .i64 E2, .int .i64 G2, .bool g2, .int .u64 P2, .int .i64 Q2], .agg #[.bool e3, .int .i64 D3, .bool s3, .int .u64 M3, .int .i64 E3, .int .i64 G3, .bool g3, .int .u64 P3, .int .i64 Q3]] w fun e w' => e = .returned (.bool true) ∧ Below w.heap.size w w' := by
  obtain ⟨q, hq⟩ := qf_ex; obtain ⟨r, hr⟩ := rf_ex; have o0 := rkI_ok (e := e0) (K := D0) (s := s0) (E := E0) (K' := G0) (s' := g0) (E' := Q0) u0 v0; have o1 := rkI_ok (e := e1) (K := D1) (s := s1) (E := E1) (K' := G1) (s' := g1) (E' := Q1) u1 v1; have o2 := rkI_ok (e := e2) (K := D2) (s := s2) (E := E2) (K' := G2) (s' := g2) (E' := Q2) u2 v2; have o3 := rkI_ok (e := e3) (K := D3) (s := s3) (E := E3) (K' := G3) (s' := g3) (E' := Q3) u3 v3
  cases h0 : witI (rkI e0 D0 s0 M0 E0 G0 g0 P0 Q0) (rkI e2 D2 s2 M2 E2 G2 g2 P2 Q2)
  · exact ivopWithin_no e0 D0 s0 M0 E0 G0 g0 P0 Q0 e1 D1 s1 M1 E1 G1 g1 P1 Q1 e2 D2 s2 M2 E2 G2 g2 P2 Q2 e3 D3 s3 M3 E3 G3 g3 P3 Q3 w _ _ _ _ _ _ hq hT u0 v0 u1 v1 u2 v2 u3 v3 rfl rfl rfl rfl h0 rfl rfl
  · cases h1 : witI (rkI e1 D1 s1 M1 E1 G1 g1 P1 Q1) (rkI e3 D3 s3 M3 E3 G3 g3 P3 Q3)
    · exact ivopWithin_no e0 D0 s0 M0 E0 G0 g0 P0 Q0 e1 D1 s1 M1 E1 G1 g1 P1 Q1 e2 D2 s2 M2 E2 G2 g2 P2 Q2 e3 D3 s3 M3 E3 G3 g3 P3 Q3 w _ _ _ _ _ _ hq hT u0 v0 u1 v1 u2 v2 u3 v3 rfl rfl rfl rfl h0 h1 rfl
    · exact ivopWithin_main e0 D0 s0 M0 E0 G0 g0 P0 Q0 e1 D1 s1 M1 E1 G1 g1 P1 Q1 e2 D2 s2 M2 E2 G2 g2 P2 Q2 e3 D3 s3 M3 E3 G3 g3 P3 Q3 w _ _ _ _ _ _ _ _ _ _ _ _ _ _ _ _ _ _ hq hr hT hT2 u0 v0 u1 v1 u2 v2 u3 v3 rfl rfl rfl rfl h0 h1 rfl rfl rfl rfl rfl rfl rfl rfl rfl rfl rfl rfl rfl rfl (add_wit o0 o1 o2 o3 h0 h1) (sub_wit o0 o1 o2 o3 h0 h1) (mul_wit o0 o1 o2 o3 h0 h1) (dvI_wit hq o0 o1 o2 o3 h0 h1) (sqr_wit o0 o2 h0) (root_wit hr o0 o2 h0) (abs_wit o0 o2 h0)
end Go.Proofs.YteejbcimmmcnlaaGreatDoor

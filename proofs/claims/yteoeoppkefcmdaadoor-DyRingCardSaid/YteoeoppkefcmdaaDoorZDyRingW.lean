/-
  The walk of DyRing: for all arguments, where the table lies as it was laid, the call answers true, and nothing that was there has turned.
-/
import Derived.Test.YteoeoppkefcmdaaDoorZa
import Derived.Test.YteoeoppkefcmdaaDoorZb
import Derived.Test.YteoeoppkefcmdaaDoorZc
import Derived.Test.YteoeoppkefcmdaaDoorZd
namespace Go.Proofs.YteoeoppkefcmdaaDoor
open Go.RowKit
set_option linter.unusedVariables false

/-- The numbers of DyRing: how great each is, and which are the same. -/
structure RingFacts (p0 p1 p2 P Q R X Y1 Y S1 S T1 T2 T Z U1 U W : Int × Int) : Prop where
  hX : smd [p0, p1, p2] = X
  hY1 : smd [p1, p0] = Y1
  hY : smd [p2, (Y1.1, Y1.2)] = Y
  hS1 : smd [p1, p2] = S1
  hS : ml P S1 = S
  hT1 : ml P Q = T1
  hT2 : ml R P = T2
  hT : smd [(T1.1, T1.2), (T2.1, T2.2)] = T
  hZ : pl P (ng P) = Z
  hU1 : ml Q R = U1
  hU : ml P U1 = U
  hW : ml T1 R = W
  cX : Can [p0, p1, p2]
  cY1 : Can [p1, p0]
  cY : Can [p2, (Y1.1, Y1.2)]
  cS1 : Can [p1, p2]
  cT : Can [(T1.1, T1.2), (T2.1, T2.2)]
  cZ : Can [p0, ng P]
  nX : mk X.1 X.2 = X
  nY1 : mk Y1.1 Y1.2 = Y1
  nY : mk Y.1 Y.2 = Y
  nS1 : mk S1.1 S1.2 = S1
  nS : mk S.1 S.2 = S
  nT1 : mk T1.1 T1.2 = T1
  nT2 : mk T2.1 T2.2 = T2
  nT : mk T.1 T.2 = T
  nZ : mk Z.1 Z.2 = Z
  nU1 : mk U1.1 U1.2 = U1
  nU : mk U.1 U.2 = U
  nW : mk W.1 W.2 = W
  lX : Lm X.1
  lY1 : Lm Y1.1
  lY : Lm Y.1
  lS1 : Lm S1.1
  lS : Lm S.1
  lT1 : Lm T1.1
  lT2 : Lm T2.1
  lT : Lm T.1
  lZ : Lm Z.1
  lU1 : Lm U1.1
  lU : Lm U.1
  lW : Lm W.1
  c1 : cmpI (vl X) (vl Y) = 0
  c2 : cmpI (vl S) (vl T) = 0
  c3 : cmpI Z.1 0 = 0
  c4 : cmpI (vl U) (vl W) = 0
theorem ring_facts {η : Nat} {p0 p1 p2 P Q R : Int × Int} (hη : η ≤ 2000) (h0 : mk p0.1 p0.2 = P) (h1 : mk p1.1 p1.2 = Q) (h2 : mk p2.1 p2.2 = R) (fP : Fit η P) (fQ : Fit η Q) (fR : Fit η R) : ∃ X Y1 Y S1 S T1 T2 T Z U1 U W, RingFacts p0 p1 p2 P Q R X Y1 Y S1 S T1 T2 T Z U1 U W := by
  have q := p2pos KK
  have q2 : (0 : Int) < 2 ^ KK * 2 ^ KK := Int.mul_pos q q
  obtain ⟨fX, vX, cX⟩ := three_fit (h := η) (a := p0) (b := p1) (c := p2) (by omega) (h0 ▸ fP) (h1 ▸ fQ) (h2 ▸ fR)
  obtain ⟨fY1, vY1, cY1⟩ := two_fit (h := η) (a := p1) (b := p0) (by omega) (h1 ▸ fQ) (h0 ▸ fP)
  obtain ⟨fS1, vS1, cS1⟩ := two_fit (h := η) (a := p1) (b := p2) (by omega) (h1 ▸ fQ) (h2 ▸ fR)
  rw [h0, h1, h2] at vX
  rw [h0, h1] at vY1
  rw [h1, h2] at vS1
  obtain ⟨X, hX⟩ : ∃ x, smd [p0, p1, p2] = x := ⟨_, rfl⟩
  obtain ⟨Y1, hY1⟩ : ∃ x, smd [p1, p0] = x := ⟨_, rfl⟩
  obtain ⟨S1, hS1⟩ : ∃ x, smd [p1, p2] = x := ⟨_, rfl⟩
  rw [hX] at fX vX
  rw [hY1] at fY1 vY1
  rw [hS1] at fS1 vS1
  have nY1 : mk Y1.1 Y1.2 = Y1 := fY1.nf
  obtain ⟨fY, vY, cY⟩ := two_fit (h := η + 2) (a := p2) (b := (Y1.1, Y1.2)) (by omega) (by rw [h2]; exact fR.mono (by omega)) (by rw [nY1]; exact fY1)
  rw [h2, nY1] at vY
  obtain ⟨Y, hY⟩ : ∃ x, smd [p2, (Y1.1, Y1.2)] = x := ⟨_, rfl⟩
  rw [hY] at fY vY
  obtain ⟨fS, vS⟩ := ml_fit (by omega) fP fS1
  obtain ⟨S, hS⟩ : ∃ x, ml P S1 = x := ⟨_, rfl⟩
  rw [hS] at fS vS
  obtain ⟨fT1, vT1⟩ := ml_fit (by omega) fP fQ
  obtain ⟨T1, hT1⟩ : ∃ x, ml P Q = x := ⟨_, rfl⟩
  rw [hT1] at fT1 vT1
  obtain ⟨fT2, vT2⟩ := ml_fit (by omega) fR fP
  obtain ⟨T2, hT2⟩ : ∃ x, ml R P = x := ⟨_, rfl⟩
  rw [hT2] at fT2 vT2
  have nT1 : mk T1.1 T1.2 = T1 := fT1.nf
  have nT2 : mk T2.1 T2.2 = T2 := fT2.nf
  obtain ⟨fT, vT, cT⟩ := two_fit (h := η + η) (a := (T1.1, T1.2)) (b := (T2.1, T2.2)) (by omega) (by rw [nT1]; exact fT1) (by rw [nT2]; exact fT2)
  rw [nT1, nT2] at vT
  obtain ⟨T, hT⟩ : ∃ x, smd [(T1.1, T1.2), (T2.1, T2.2)] = x := ⟨_, rfl⟩
  rw [hT] at fT vT
  have nN : mk (ng P).1 (ng P).2 = ng P := ng_nf fP.nf
  obtain ⟨fZ, vZ, cZ⟩ := two_fit (h := η) (a := p0) (b := ng P) (by omega) (h0 ▸ fP) (by rw [nN]; exact fP.neg)
  rw [smd_two, h0, nN, vl_ng] at vZ
  rw [smd_two, h0, nN] at fZ
  obtain ⟨Z, hZ⟩ : ∃ x, pl P (ng P) = x := ⟨_, rfl⟩
  rw [hZ] at fZ vZ
  obtain ⟨fU1, vU1⟩ := ml_fit (by omega) fQ fR
  obtain ⟨U1, hU1⟩ : ∃ x, ml Q R = x := ⟨_, rfl⟩
  rw [hU1] at fU1 vU1
  obtain ⟨fU, vU⟩ := ml_fit (by omega) fP fU1
  obtain ⟨U, hU⟩ : ∃ x, ml P U1 = x := ⟨_, rfl⟩
  rw [hU] at fU vU
  obtain ⟨fW, vW⟩ := ml_fit (by omega) fT1 fR
  obtain ⟨W, hW⟩ : ∃ x, ml T1 R = x := ⟨_, rfl⟩
  rw [hW] at fW vW
  refine ⟨X, Y1, Y, S1, S, T1, T2, T, Z, U1, U, W, { hX := hX, hY1 := hY1, hY := hY, hS1 := hS1, hS := hS, hT1 := hT1, hT2 := hT2, hT := hT, hZ := hZ, hU1 := hU1, hU := hU, hW := hW, cX := cX, cY1 := cY1, cY := cY, cS1 := cS1, cT := cT, cZ := cZ, nX := fX.nf, nY1 := fY1.nf, nY := fY.nf, nS1 := fS1.nf, nS := fS.nf, nT1 := fT1.nf, nT2 := fT2.nf, nT := fT.nf, nZ := fZ.nf, nU1 := fU1.nf, nU := fU.nf, nW := fW.nf, lX := fX.lm (by omega), lY1 := fY1.lm (by omega), lY := fY.lm (by omega), lS1 := fS1.lm (by omega), lS := fS.lm (by omega), lT1 := fT1.lm (by omega), lT2 := fT2.lm (by omega), lT := fT.lm (by omega), lZ := fZ.lm (by omega), lU1 := fU1.lm (by omega), lU := fU.lm (by omega), lW := fW.lm (by omega), c1 := cmpI_eq (by omega), c2 := cmpI_eq ?_, c3 := ?_, c4 := cmpI_eq ?_ }⟩
  · refine Int.eq_of_mul_eq_mul_right (a := 2 ^ KK) (by omega) ?_
    rw [vS, vT, Int.add_mul, vT1, vT2, vS1, Int.mul_add, Int.mul_comm (vl R)]
  · rw [← vl_sign, vZ]
    exact cmpI_eq (by omega)
  · refine Int.eq_of_mul_eq_mul_right (a := 2 ^ KK * 2 ^ KK) (by omega) ?_
    rw [← Int.mul_assoc, vU, ← Int.mul_assoc, vW, Int.mul_assoc, vU1, Int.mul_right_comm, vT1, Int.mul_assoc]

set_option maxRecDepth 100000 in
set_option maxHeartbeats 8000000 in
theorem dyRing_main (s0 : Bool) (a0 : Option Addr) (len0 cap0 : Nat) (e0 : Int) (s1 : Bool) (a1 : Option Addr) (len1 cap1 : Nat) (e1 : Int) (s2 : Bool) (a2 : Option Addr) (len2 cap2 : Nat) (e2 : Int) (w : World) (x0 x1 x2 : Int) (hT : Tab w) (h0 : Wr w s0 a0 len0 cap0 x0) (h1 : Wr w s1 a1 len1 cap1 x1) (h2 : Wr w s2 a2 len2 cap2 x2) (f0 : fewB len0 e0 = true) (f1 : fewB len1 e1 = true) (f2 : fewB len2 e2 = true) :
    Calls Tryd.prog 5 #[.agg #[.bool s0, .slice a0 len0 cap0, .int .i64 e0], .agg #[.bool s1, .slice a1 len1 cap1, .int .i64 e1], .agg #[.bool s2, .slice a2 len2 cap2, .int .i64 e2]] w (PB w true) := by
  obtain ⟨j0, _, _⟩ := fewB_true f0
  obtain ⟨j1, _, _⟩ := fewB_true f1
  obtain ⟨j2, _, _⟩ := fewB_true f2
  have HF0 := Lib.hid f0
  have HF1 := Lib.hid f1
  have HF2 := Lib.hid f2
  obtain ⟨η, hη, fP⟩ := raw_fit' h0 f0
  obtain ⟨η1, hη1, fQ⟩ := raw_fit' h1 f1
  obtain ⟨η2, hη2, fR⟩ := raw_fit' h2 f2
  obtain ⟨P, hP⟩ : ∃ P, mk x0 e0 = P := ⟨_, rfl⟩
  obtain ⟨Q, hQ⟩ : ∃ Q, mk x1 e1 = Q := ⟨_, rfl⟩
  obtain ⟨R, hR⟩ : ∃ R, mk x2 e2 = R := ⟨_, rfl⟩
  rw [hP] at fP
  rw [hQ, show η1 = η by omega] at fQ
  rw [hR, show η2 = η by omega] at fR
  obtain ⟨X, Y1, Y, S1, S, T1, T2, T, Z, U1, U, W, F⟩ := ring_facts (p0 := (x0, e0)) (p1 := (x1, e1)) (p2 := (x2, e2)) (by omega) hP hQ hR fP fQ fR
  have HP := Lib.hid hP
  have HQ := Lib.hid hQ
  have HR := Lib.hid hR
  have HX := Lib.hid F.hX
  have HnX := Lib.hid F.nX
  have HLX := Lib.hid F.lX
  have HY1 := Lib.hid F.hY1
  have HnY1 := Lib.hid F.nY1
  have HLY1 := Lib.hid F.lY1
  have HY := Lib.hid F.hY
  have HnY := Lib.hid F.nY
  have HLY := Lib.hid F.lY
  have HS1 := Lib.hid F.hS1
  have HnS1 := Lib.hid F.nS1
  have HLS1 := Lib.hid F.lS1
  have HS := Lib.hid F.hS
  have HnS := Lib.hid F.nS
  have HLS := Lib.hid F.lS
  have HT1 := Lib.hid F.hT1
  have HnT1 := Lib.hid F.nT1
  have HLT1 := Lib.hid F.lT1
  have HT2 := Lib.hid F.hT2
  have HnT2 := Lib.hid F.nT2
  have HLT2 := Lib.hid F.lT2
  have HT := Lib.hid F.hT
  have HnT := Lib.hid F.nT
  have HLT := Lib.hid F.lT
  have HZ := Lib.hid F.hZ
  have HnZ := Lib.hid F.nZ
  have HLZ := Lib.hid F.lZ
  have HU1 := Lib.hid F.hU1
  have HnU1 := Lib.hid F.nU1
  have HLU1 := Lib.hid F.lU1
  have HU := Lib.hid F.hU
  have HnU := Lib.hid F.nU
  have HLU := Lib.hid F.lU
  have HW := Lib.hid F.hW
  have HnW := Lib.hid F.nW
  have HLW := Lib.hid F.lW
  have HcX := Lib.hid F.cX
  have HcY1 := Lib.hid F.cY1
  have HcY := Lib.hid F.cY
  have HcS1 := Lib.hid F.cS1
  have HcT := Lib.hid F.cT
  have HcZ := Lib.hid F.cZ
  have HC1 := Lib.hid F.c1
  have HC2 := Lib.hid F.c2
  have HC3 := Lib.hid F.c3
  have HC4 := Lib.hid F.c4
  clear f0 f1 f2 hη hη1 hη2 fP fQ fR hP hQ hR F
  go_enter Tryd.func5, Tryd.ntmps5
  go_upto_region 1 with (fail)
  have X0 := (Bo.newAt w (g := w.heap.size) (by simp) #[.bool s0, .slice a0 len0 cap0, .int .i64 e0] 27).below (bel2 _ (.cells #[.bool s1, .slice a1 len1 cap1, .int .i64 e1] 27) (.cells #[.bool s2, .slice a2 len2 cap2, .int .i64 e2] 27))
  have X1 := (Bo.newAt (w.alloc (.cells #[.bool s0, .slice a0 len0 cap0, .int .i64 e0] 27)) (g := w.heap.size + 1) (by simp) #[.bool s1, .slice a1 len1 cap1, .int .i64 e1] 27).below (bel1 _ (.cells #[.bool s2, .slice a2 len2 cap2, .int .i64 e2] 27))
  have X2 := (Bo.newAt ((w.alloc (.cells #[.bool s0, .slice a0 len0 cap0, .int .i64 e0] 27)).alloc (.cells #[.bool s1, .slice a1 len1 cap1, .int .i64 e1] 27)) (g := w.heap.size + 1 + 1) (by simp) #[.bool s2, .slice a2 len2 cap2, .int .i64 e2] 27)
  have HB := Lib.hid (bel3 w (.cells #[.bool s0, .slice a0 len0 cap0, .int .i64 e0] 27) (.cells #[.bool s1, .slice a1 len1 cap1, .int .i64 e1] 27) (.cells #[.bool s2, .slice a2 len2 cap2, .int .i64 e2] 27))
  replace hT := hT.below HB.out
  replace h0 := h0.below HB.out
  replace h1 := h1.below HB.out
  replace h2 := h2.below HB.out
  generalize hW1 : (((w.alloc (.cells #[.bool s0, .slice a0 len0 cap0, .int .i64 e0] 27)).alloc (.cells #[.bool s1, .slice a1 len1 cap1, .int .i64 e1] 27)).alloc (.cells #[.bool s2, .slice a2 len2 cap2, .int .i64 e2] 27)) = w1 at *
  clear hW1
  go_wp2_with fail
  refine (awake3 _ hT).mono ?_
  rintro ee w2 ⟨rfl, B⟩
  replace X0 := X0.below B
  replace X1 := X1.below B
  replace X2 := X2.below B
  replace hT := hT.below B
  replace h0 := h0.below B
  replace h1 := h1.below B
  replace h2 := h2.below B
  replace HB := Lib.hid (bt HB.out B)
  clear B
  have xX00 := X0.at (i := 0) (v := .bool s0) rfl
  have xX01 := X0.at (i := 1) (v := .slice a0 len0 cap0) rfl
  have xX02 := X0.at (i := 2) (v := .int .i64 e0) rfl
  go_wp2_with fail
  refine (few3E _ HF0.out).mono ?_
  rintro ee w3 ⟨rfl, B⟩
  clear xX00 xX01 xX02
  replace X0 := X0.below B
  replace X1 := X1.below B
  replace X2 := X2.below B
  replace hT := hT.below B
  replace h0 := h0.below B
  replace h1 := h1.below B
  replace h2 := h2.below B
  replace HB := Lib.hid (bt HB.out B)
  clear B
  have xX10 := X1.at (i := 0) (v := .bool s1) rfl
  have xX11 := X1.at (i := 1) (v := .slice a1 len1 cap1) rfl
  have xX12 := X1.at (i := 2) (v := .int .i64 e1) rfl
  go_wp2_with fail
  refine (few3E _ HF1.out).mono ?_
  rintro ee w4 ⟨rfl, B⟩
  clear xX10 xX11 xX12
  replace X0 := X0.below B
  replace X1 := X1.below B
  replace X2 := X2.below B
  replace hT := hT.below B
  replace h0 := h0.below B
  replace h1 := h1.below B
  replace h2 := h2.below B
  replace HB := Lib.hid (bt HB.out B)
  clear B
  have xX20 := X2.at (i := 0) (v := .bool s2) rfl
  have xX21 := X2.at (i := 1) (v := .slice a2 len2 cap2) rfl
  have xX22 := X2.at (i := 2) (v := .int .i64 e2) rfl
  go_wp2_with fail
  refine (few3E _ HF2.out).mono ?_
  rintro ee w5 ⟨rfl, B⟩
  clear xX20 xX21 xX22
  replace X0 := X0.below B
  replace X1 := X1.below B
  replace X2 := X2.below B
  replace hT := hT.below B
  replace h0 := h0.below B
  replace h1 := h1.below B
  replace h2 := h2.below B
  replace HB := Lib.hid (bt HB.out B)
  clear B
  have xX00 := X0.at (i := 0) (v := .bool s0) rfl
  have xX01 := X0.at (i := 1) (v := .slice a0 len0 cap0) rfl
  have xX02 := X0.at (i := 2) (v := .int .i64 e0) rfl
  have xX10 := X1.at (i := 0) (v := .bool s1) rfl
  have xX11 := X1.at (i := 1) (v := .slice a1 len1 cap1) rfl
  have xX12 := X1.at (i := 2) (v := .int .i64 e1) rfl
  have xX20 := X2.at (i := 0) (v := .bool s2) rfl
  have xX21 := X2.at (i := 1) (v := .slice a2 len2 cap2) rfl
  have xX22 := X2.at (i := 2) (v := .int .i64 e2) rfl
  go_upto_region 7 with (fail)
  clear xX00 xX01 xX02 xX10 xX11 xX12 xX20 xX21 xX22
  have xX00 := X0.at (i := 0) (v := .bool s0) rfl
  have xX01 := X0.at (i := 1) (v := .slice a0 len0 cap0) rfl
  have xX02 := X0.at (i := 2) (v := .int .i64 e0) rfl
  have xX10 := X1.at (i := 0) (v := .bool s1) rfl
  have xX11 := X1.at (i := 1) (v := .slice a1 len1 cap1) rfl
  have xX12 := X1.at (i := 2) (v := .int .i64 e1) rfl
  have xX20 := X2.at (i := 0) (v := .bool s2) rfl
  have xX21 := X2.at (i := 1) (v := .slice a2 len2 cap2) rfl
  have xX22 := X2.at (i := 2) (v := .int .i64 e2) rfl
  go_wp2_with fail
  refine (dAdd (K := 20000) (N := X.1) (E := X.2) (hT.below (bel1 _ _)) (Dl.lit3 rfl h0 h1 h2 (by omega) (by omega) (by omega)) (by omega) HcX.out (congrArg Prod.fst HX.out) (congrArg Prod.snd HX.out)).mono ?_
  rintro ee w6 ⟨s11, A11, n11, c11, rfl, p11, k11, B⟩
  replace B := bt (bel1 _ _) B
  clear xX00 xX01 xX02 xX10 xX11 xX12 xX20 xX21 xX22
  replace X0 := X0.below B
  replace X1 := X1.below B
  replace X2 := X2.below B
  replace hT := hT.below B
  replace h0 := h0.below B
  replace h1 := h1.below B
  replace h2 := h2.below B
  replace HB := Lib.hid (bt HB.out B)
  clear B
  go_upto_region 8 with (fail)
  have lX11 := Nat.le_refl (World.heap w6).size
  have nX11X0 := X0.lt
  have nX11X1 := X1.lt
  have nX11X2 := X2.lt
  replace X0 := X0.below (bel1 _ (.cells #[.bool s11, .slice A11 n11 c11, .int .i64 X.2] 27))
  replace X1 := X1.below (bel1 _ (.cells #[.bool s11, .slice A11 n11 c11, .int .i64 X.2] 27))
  replace X2 := X2.below (bel1 _ (.cells #[.bool s11, .slice A11 n11 c11, .int .i64 X.2] 27))
  replace hT := hT.below (bel1 _ (.cells #[.bool s11, .slice A11 n11 c11, .int .i64 X.2] 27))
  replace h0 := h0.below (bel1 _ (.cells #[.bool s11, .slice A11 n11 c11, .int .i64 X.2] 27))
  replace h1 := h1.below (bel1 _ (.cells #[.bool s11, .slice A11 n11 c11, .int .i64 X.2] 27))
  replace h2 := h2.below (bel1 _ (.cells #[.bool s11, .slice A11 n11 c11, .int .i64 X.2] 27))
  replace p11 := p11.below (bel1 _ (.cells #[.bool s11, .slice A11 n11 c11, .int .i64 X.2] 27))
  replace HB := Lib.hid (bt HB.out (bel1 _ (.cells #[.bool s11, .slice A11 n11 c11, .int .i64 X.2] 27)))
  have X11 := Bo.new w6 #[.bool s11, .slice A11 n11 c11, .int .i64 X.2] 27
  generalize hWn : World.alloc w6 (.cells #[.bool s11, .slice A11 n11 c11, .int .i64 X.2] 27) = w8 at *
  clear hWn
  have ltX0 := X0.lt
  have ltX1 := X1.lt
  have ltX2 := X2.lt
  have ltX11 := X11.lt
  refine Jo.region_joint (T := [0, 1, 2, 3, 4, 5, 6, 7]) (ds := [some 42, some 43, some 44, some 45, some 46, some 47, some 48, some 12, none]) (ls := [[], [], [], [1, 2], [3], [0, 4], [5], [], []]) (k := 9) (L := [(some 42, 0), (some 43, 1), (some 44, 2), (some 45, 3), (some 46, 4), (some 47, 5), (some 48, 6), (some 12, 7)]) (fuel := 1) (J := fun wj => Below (World.heap w8).size w8 wj)
    (F := [Jo.Fact.eq (.agg #[.bool s2, .slice a2 len2 cap2, .int .i64 e2]), Jo.Fact.eq (.agg #[.bool s1, .slice a1 len1 cap1, .int .i64 e1]), Jo.Fact.eq (.agg #[.bool s0, .slice a0 len0 cap0, .int .i64 e0]), Jo.Fact.dl 20000 2 [(x1, e1), (x0, e0)], Jo.Fact.dy Y1.1 Y1.2 20000, Jo.Fact.dl 20000 2 [(x2, e2), (Y1.1, Y1.2)], Jo.Fact.dy Y.1 Y.2 20000, Jo.Fact.bo w8.heap.size #[.bool false, .slice none 0 0, .int .i64 0] 27, Jo.Fact.any])
    (by kernel_rfl) (by kernel_rfl) (by decide) rfl rfl (fun _ _ h b => bt h b) ((Below.refl _ _).drew) ?_ (fun vs w9 hJ hd => ?_)
  · refine Jo.jcons (i := 0) (o := ⟨some 42, _, _, _, _, _⟩) (di := some 42) (L := []) (f := Jo.Fact.eq (.agg #[.bool s2, .slice a2 len2 cap2, .int .i64 e2])) rfl rfl rfl rfl (fun vs wj hJ hd K hK => ?_) ?_
    · clear hd
      simp only [Jo.putl, List.foldl_nil, Act.put, List.setIfInBounds_toArray, List.set_cons_zero, List.set_cons_succ] at hK ⊢
      have xX20 : World.cell? wj ⟨w.heap.size + 1 + 1, 0, none⟩ = some (.bool s2) := (X2.below hJ).cell 0
      have xX21 : World.cell? wj ⟨w.heap.size + 1 + 1, 1, none⟩ = some (.slice a2 len2 cap2) := (X2.below hJ).cell 1
      have xX22 : World.cell? wj ⟨w.heap.size + 1 + 1, 2, none⟩ = some (.int .i64 e2) := (X2.below hJ).cell 2
      go_simp
      exact hK.out _ _ rfl (Below.refl _ _)
    refine Jo.jcons (i := 1) (o := ⟨some 43, _, _, _, _, _⟩) (di := some 43) (L := []) (f := Jo.Fact.eq (.agg #[.bool s1, .slice a1 len1 cap1, .int .i64 e1])) rfl rfl rfl rfl (fun vs wj hJ hd K hK => ?_) ?_
    · clear hd
      simp only [Jo.putl, List.foldl_nil, Act.put, List.setIfInBounds_toArray, List.set_cons_zero, List.set_cons_succ] at hK ⊢
      have xX10 : World.cell? wj ⟨w.heap.size + 1, 0, none⟩ = some (.bool s1) := (X1.below hJ).cell 0
      have xX11 : World.cell? wj ⟨w.heap.size + 1, 1, none⟩ = some (.slice a1 len1 cap1) := (X1.below hJ).cell 1
      have xX12 : World.cell? wj ⟨w.heap.size + 1, 2, none⟩ = some (.int .i64 e1) := (X1.below hJ).cell 2
      go_simp
      exact hK.out _ _ rfl (Below.refl _ _)
    refine Jo.jcons (i := 2) (o := ⟨some 44, _, _, _, _, _⟩) (di := some 44) (L := []) (f := Jo.Fact.eq (.agg #[.bool s0, .slice a0 len0 cap0, .int .i64 e0])) rfl rfl rfl rfl (fun vs wj hJ hd K hK => ?_) ?_
    · clear hd
      simp only [Jo.putl, List.foldl_nil, Act.put, List.setIfInBounds_toArray, List.set_cons_zero, List.set_cons_succ] at hK ⊢
      have xX00 : World.cell? wj ⟨w.heap.size, 0, none⟩ = some (.bool s0) := (X0.below hJ).cell 0
      have xX01 : World.cell? wj ⟨w.heap.size, 1, none⟩ = some (.slice a0 len0 cap0) := (X0.below hJ).cell 1
      have xX02 : World.cell? wj ⟨w.heap.size, 2, none⟩ = some (.int .i64 e0) := (X0.below hJ).cell 2
      go_simp
      exact hK.out _ _ rfl (Below.refl _ _)
    refine Jo.jcons (i := 3) (o := ⟨some 45, _, _, _, _, _⟩) (di := some 45) (L := [(some 43, 1), (some 44, 2)]) (f := Jo.Fact.dl 20000 2 [(x1, e1), (x0, e0)]) rfl rfl rfl rfl (fun vs wj hJ hd K hK => ?_) ?_
    · have d1 : (Jo.Fact.eq (.agg #[.bool s1, .slice a1 len1 cap1, .int .i64 e1])).P (vs 1) wj := hd 1 (by decide)
      have d2 : (Jo.Fact.eq (.agg #[.bool s0, .slice a0 len0 cap0, .int .i64 e0])).P (vs 2) wj := hd 2 (by decide)
      clear hd
      simp only [Jo.putl, List.foldl_cons, List.foldl_nil, Act.put, List.setIfInBounds_toArray, List.set_cons_zero, List.set_cons_succ] at hK ⊢
      generalize vs 1 = u1 at hK d1 ⊢
      generalize vs 2 = u2 at hK d2 ⊢
      replace d1 : u1 = _ := d1
      subst d1
      replace d2 : u2 = _ := d2
      subst d2
      go_simp
      exact hK.out _ _ ⟨_, 2, rfl, Dl.lit2 rfl (h1.below hJ) (h0.below hJ) (by omega) (by omega)⟩ (bel1 _ _)
    refine Jo.jcons (i := 4) (o := ⟨some 46, _, _, _, _, _⟩) (di := some 46) (L := [(some 45, 3)]) (f := Jo.Fact.dy Y1.1 Y1.2 20000) rfl rfl rfl rfl (fun vs wj hJ hd K hK => ?_) ?_
    · have d3 : (Jo.Fact.dl 20000 2 [(x1, e1), (x0, e0)]).P (vs 3) wj := hd 3 (by decide)
      clear hd
      simp only [Jo.putl, List.foldl_cons, List.foldl_nil, Act.put, List.setIfInBounds_toArray, List.set_cons_zero, List.set_cons_succ] at hK ⊢
      generalize vs 3 = u3 at hK d3 ⊢
      obtain ⟨A20, c20, rfl, p20⟩ := d3
      go_simp
      refine (dAdd (hT.below hJ) p20 (by omega) HcY1.out (congrArg Prod.fst HY1.out) (congrArg Prod.snd HY1.out)).mono ?_
      rintro ee wk ⟨s21, A21, n21, c21, rfl, p21, k21, B⟩
      exact hK.out _ _ ⟨s21, A21, n21, c21, rfl, p21, p21.lm HLY1.out⟩ B
    refine Jo.jcons (i := 5) (o := ⟨some 47, _, _, _, _, _⟩) (di := some 47) (L := [(some 42, 0), (some 46, 4)]) (f := Jo.Fact.dl 20000 2 [(x2, e2), (Y1.1, Y1.2)]) rfl rfl rfl rfl (fun vs wj hJ hd K hK => ?_) ?_
    · have d0 : (Jo.Fact.eq (.agg #[.bool s2, .slice a2 len2 cap2, .int .i64 e2])).P (vs 0) wj := hd 0 (by decide)
      have d4 : (Jo.Fact.dy Y1.1 Y1.2 20000).P (vs 4) wj := hd 4 (by decide)
      clear hd
      simp only [Jo.putl, List.foldl_cons, List.foldl_nil, Act.put, List.setIfInBounds_toArray, List.set_cons_zero, List.set_cons_succ] at hK ⊢
      generalize vs 0 = u0 at hK d0 ⊢
      generalize vs 4 = u4 at hK d4 ⊢
      replace d0 : u0 = _ := d0
      subst d0
      obtain ⟨s21, A21, n21, c21, rfl, p21, k21⟩ := d4
      go_simp
      exact hK.out _ _ ⟨_, 2, rfl, Dl.lit2 rfl (h2.below hJ) p21.wr (by omega) (by omega)⟩ (bel1 _ _)
    refine Jo.jcons (i := 6) (o := ⟨some 48, _, _, _, _, _⟩) (di := some 48) (L := [(some 47, 5)]) (f := Jo.Fact.dy Y.1 Y.2 20000) rfl rfl rfl rfl (fun vs wj hJ hd K hK => ?_) ?_
    · have d5 : (Jo.Fact.dl 20000 2 [(x2, e2), (Y1.1, Y1.2)]).P (vs 5) wj := hd 5 (by decide)
      clear hd
      simp only [Jo.putl, List.foldl_cons, List.foldl_nil, Act.put, List.setIfInBounds_toArray, List.set_cons_zero, List.set_cons_succ] at hK ⊢
      generalize vs 5 = u5 at hK d5 ⊢
      obtain ⟨A22, c22, rfl, p22⟩ := d5
      go_simp
      refine (dAdd (hT.below hJ) p22 (by omega) HcY.out (congrArg Prod.fst HY.out) (congrArg Prod.snd HY.out)).mono ?_
      rintro ee wk ⟨s12, A12, n12, c12, rfl, p12, k12, B⟩
      exact hK.out _ _ ⟨s12, A12, n12, c12, rfl, p12, p12.lm HLY.out⟩ B
    refine Jo.jcons (i := 7) (o := ⟨some 12, _, _, _, _, _⟩) (di := some 12) (L := []) (f := Jo.Fact.bo w8.heap.size #[.bool false, .slice none 0 0, .int .i64 0] 27) rfl rfl rfl rfl (fun vs wj hJ hd K hK => ?_) ?_
    · clear hd
      simp only [Jo.putl, List.foldl_nil, Act.put, List.setIfInBounds_toArray, List.set_cons_zero, List.set_cons_succ] at hK ⊢
      go_simp
      exact hK.out _ _ ⟨_, rfl, hJ.size, Bo.new _ _ _⟩ (bel1 _ _)
    exact Jo.Steps.nil
  have d0 : (Jo.Fact.eq (.agg #[.bool s2, .slice a2 len2 cap2, .int .i64 e2])).P (vs 0) w9 := hd 0 (by decide)
  have d1 : (Jo.Fact.eq (.agg #[.bool s1, .slice a1 len1 cap1, .int .i64 e1])).P (vs 1) w9 := hd 1 (by decide)
  have d2 : (Jo.Fact.eq (.agg #[.bool s0, .slice a0 len0 cap0, .int .i64 e0])).P (vs 2) w9 := hd 2 (by decide)
  have d3 : (Jo.Fact.dl 20000 2 [(x1, e1), (x0, e0)]).P (vs 3) w9 := hd 3 (by decide)
  have d4 : (Jo.Fact.dy Y1.1 Y1.2 20000).P (vs 4) w9 := hd 4 (by decide)
  have d5 : (Jo.Fact.dl 20000 2 [(x2, e2), (Y1.1, Y1.2)]).P (vs 5) w9 := hd 5 (by decide)
  have d6 : (Jo.Fact.dy Y.1 Y.2 20000).P (vs 6) w9 := hd 6 (by decide)
  have d7 : (Jo.Fact.bo w8.heap.size #[.bool false, .slice none 0 0, .int .i64 0] 27).P (vs 7) w9 := hd 7 (by decide)
  clear hd
  simp only [Jo.putl, List.foldl_cons, List.foldl_nil, Act.put, List.setIfInBounds_toArray, List.set_cons_zero, List.set_cons_succ]
  generalize vs 0 = u0 at d0 ⊢
  generalize vs 1 = u1 at d1 ⊢
  generalize vs 2 = u2 at d2 ⊢
  generalize vs 3 = u3 at d3 ⊢
  generalize vs 4 = u4 at d4 ⊢
  generalize vs 5 = u5 at d5 ⊢
  generalize vs 6 = u6 at d6 ⊢
  generalize vs 7 = u7 at d7 ⊢
  clear vs
  replace d0 : u0 = _ := d0
  subst d0
  replace d1 : u1 = _ := d1
  subst d1
  replace d2 : u2 = _ := d2
  subst d2
  obtain ⟨A20, c20, rfl, _⟩ := d3
  obtain ⟨s21, A21, n21, c21, rfl, _, _⟩ := d4
  obtain ⟨A22, c22, rfl, _⟩ := d5
  obtain ⟨s12, A12, n12, c12, rfl, p12, k12⟩ := d6
  obtain ⟨g12, rfl, hg12, X12⟩ := d7
  replace X0 := X0.below hJ
  replace X1 := X1.below hJ
  replace X2 := X2.below hJ
  replace X11 := X11.below hJ
  replace hT := hT.below hJ
  replace h0 := h0.below hJ
  replace h1 := h1.below hJ
  replace h2 := h2.below hJ
  replace p11 := p11.below hJ
  replace HB := Lib.hid (bt HB.out hJ)
  have xX120 := X12.at (i := 0) (v := .bool false) rfl
  have zX120 := X12.frozen 0
  have xX121 := X12.at (i := 1) (v := .slice none 0 0) rfl
  have zX121 := X12.frozen 1
  have xX122 := X12.at (i := 2) (v := .int .i64 0) rfl
  have zX122 := X12.frozen 2
  refine Jo.jnext (i := 8) (o := ⟨none, _, _, _, _, _⟩) (by kernel_rfl) rfl (fun K hK => ?_)
  go_simp
  refine hK.out _ _ ?_
  clear hK K xX120 zX120 xX121 zX121 xX122 zX122
  have SX := StN.mk3 X12 (.bool s12) (.slice A12 n12 c12) (.int .i64 Y.2)
  replace X0 := X0.stn SX (by omega)
  replace X1 := X1.stn SX (by omega)
  replace X2 := X2.stn SX (by omega)
  replace X11 := X11.stn SX (by omega)
  replace hT := hT.stn SX (by simp [no8])
  replace h0 := h0.stn SX (by simp [no32])
  replace h1 := h1.stn SX (by simp [no32])
  replace h2 := h2.stn SX (by simp [no32])
  replace p11 := p11.stn SX (by simp [no32])
  replace p12 := p12.stn SX (by simp [no32])
  replace HB := Lib.hid (SX.below HB.out (by omega))
  replace X12 := SX.box
  clear SX
  generalize (World.setCell (World.setCell (World.setCell w9 ⟨g12, 0, none⟩ (.bool s12)) ⟨g12, 1, none⟩ (.slice A12 n12 c12)) ⟨g12, 2, none⟩ (.int .i64 Y.2)) = w10 at *
  refine Jo.jdone (by kernel_rfl) ?_
  go_upto_region 9 with (fail)
  clear ltX0
  clear ltX1
  clear ltX2
  clear ltX11
  have ltX0 := X0.lt
  have ltX1 := X1.lt
  have ltX2 := X2.lt
  have ltX11 := X11.lt
  have ltX12 := X12.lt
  refine Jo.region_joint (T := [0, 1, 2, 3, 4, 5, 6]) (ds := [some 49, some 50, some 51, some 52, some 53, some 54, some 13, none]) (ls := [[], [], [], [1, 2], [3], [0, 4], [], []]) (k := 8) (L := [(some 49, 0), (some 50, 1), (some 51, 2), (some 52, 3), (some 53, 4), (some 54, 5), (some 13, 6)]) (fuel := 1) (J := fun wj => Below (World.heap w10).size w10 wj)
    (F := [Jo.Fact.eq (.agg #[.bool s0, .slice a0 len0 cap0, .int .i64 e0]), Jo.Fact.eq (.agg #[.bool s1, .slice a1 len1 cap1, .int .i64 e1]), Jo.Fact.eq (.agg #[.bool s2, .slice a2 len2 cap2, .int .i64 e2]), Jo.Fact.dl 20000 2 [(x1, e1), (x2, e2)], Jo.Fact.dy S1.1 S1.2 20000, Jo.Fact.dy S.1 S.2 20000, Jo.Fact.bo w10.heap.size #[.bool false, .slice none 0 0, .int .i64 0] 27, Jo.Fact.any])
    (by kernel_rfl) (by kernel_rfl) (by decide) rfl rfl (fun _ _ h b => bt h b) ((Below.refl _ _).drew) ?_ (fun vs w11 hJ hd => ?_)
  · refine Jo.jcons (i := 0) (o := ⟨some 49, _, _, _, _, _⟩) (di := some 49) (L := []) (f := Jo.Fact.eq (.agg #[.bool s0, .slice a0 len0 cap0, .int .i64 e0])) rfl rfl rfl rfl (fun vs wj hJ hd K hK => ?_) ?_
    · clear hd
      simp only [Jo.putl, List.foldl_nil, Act.put, List.setIfInBounds_toArray, List.set_cons_zero, List.set_cons_succ] at hK ⊢
      have xX00 : World.cell? wj ⟨w.heap.size, 0, none⟩ = some (.bool s0) := (X0.below hJ).cell 0
      have xX01 : World.cell? wj ⟨w.heap.size, 1, none⟩ = some (.slice a0 len0 cap0) := (X0.below hJ).cell 1
      have xX02 : World.cell? wj ⟨w.heap.size, 2, none⟩ = some (.int .i64 e0) := (X0.below hJ).cell 2
      go_simp
      exact hK.out _ _ rfl (Below.refl _ _)
    refine Jo.jcons (i := 1) (o := ⟨some 50, _, _, _, _, _⟩) (di := some 50) (L := []) (f := Jo.Fact.eq (.agg #[.bool s1, .slice a1 len1 cap1, .int .i64 e1])) rfl rfl rfl rfl (fun vs wj hJ hd K hK => ?_) ?_
    · clear hd
      simp only [Jo.putl, List.foldl_nil, Act.put, List.setIfInBounds_toArray, List.set_cons_zero, List.set_cons_succ] at hK ⊢
      have xX10 : World.cell? wj ⟨w.heap.size + 1, 0, none⟩ = some (.bool s1) := (X1.below hJ).cell 0
      have xX11 : World.cell? wj ⟨w.heap.size + 1, 1, none⟩ = some (.slice a1 len1 cap1) := (X1.below hJ).cell 1
      have xX12 : World.cell? wj ⟨w.heap.size + 1, 2, none⟩ = some (.int .i64 e1) := (X1.below hJ).cell 2
      go_simp
      exact hK.out _ _ rfl (Below.refl _ _)
    refine Jo.jcons (i := 2) (o := ⟨some 51, _, _, _, _, _⟩) (di := some 51) (L := []) (f := Jo.Fact.eq (.agg #[.bool s2, .slice a2 len2 cap2, .int .i64 e2])) rfl rfl rfl rfl (fun vs wj hJ hd K hK => ?_) ?_
    · clear hd
      simp only [Jo.putl, List.foldl_nil, Act.put, List.setIfInBounds_toArray, List.set_cons_zero, List.set_cons_succ] at hK ⊢
      have xX20 : World.cell? wj ⟨w.heap.size + 1 + 1, 0, none⟩ = some (.bool s2) := (X2.below hJ).cell 0
      have xX21 : World.cell? wj ⟨w.heap.size + 1 + 1, 1, none⟩ = some (.slice a2 len2 cap2) := (X2.below hJ).cell 1
      have xX22 : World.cell? wj ⟨w.heap.size + 1 + 1, 2, none⟩ = some (.int .i64 e2) := (X2.below hJ).cell 2
      go_simp
      exact hK.out _ _ rfl (Below.refl _ _)
    refine Jo.jcons (i := 3) (o := ⟨some 52, _, _, _, _, _⟩) (di := some 52) (L := [(some 50, 1), (some 51, 2)]) (f := Jo.Fact.dl 20000 2 [(x1, e1), (x2, e2)]) rfl rfl rfl rfl (fun vs wj hJ hd K hK => ?_) ?_
    · have d1 : (Jo.Fact.eq (.agg #[.bool s1, .slice a1 len1 cap1, .int .i64 e1])).P (vs 1) wj := hd 1 (by decide)
      have d2 : (Jo.Fact.eq (.agg #[.bool s2, .slice a2 len2 cap2, .int .i64 e2])).P (vs 2) wj := hd 2 (by decide)
      clear hd
      simp only [Jo.putl, List.foldl_cons, List.foldl_nil, Act.put, List.setIfInBounds_toArray, List.set_cons_zero, List.set_cons_succ] at hK ⊢
      generalize vs 1 = u1 at hK d1 ⊢
      generalize vs 2 = u2 at hK d2 ⊢
      replace d1 : u1 = _ := d1
      subst d1
      replace d2 : u2 = _ := d2
      subst d2
      go_simp
      exact hK.out _ _ ⟨_, 2, rfl, Dl.lit2 rfl (h1.below hJ) (h2.below hJ) (by omega) (by omega)⟩ (bel1 _ _)
    refine Jo.jcons (i := 4) (o := ⟨some 53, _, _, _, _, _⟩) (di := some 53) (L := [(some 52, 3)]) (f := Jo.Fact.dy S1.1 S1.2 20000) rfl rfl rfl rfl (fun vs wj hJ hd K hK => ?_) ?_
    · have d3 : (Jo.Fact.dl 20000 2 [(x1, e1), (x2, e2)]).P (vs 3) wj := hd 3 (by decide)
      clear hd
      simp only [Jo.putl, List.foldl_cons, List.foldl_nil, Act.put, List.setIfInBounds_toArray, List.set_cons_zero, List.set_cons_succ] at hK ⊢
      generalize vs 3 = u3 at hK d3 ⊢
      obtain ⟨A23, c23, rfl, p23⟩ := d3
      go_simp
      refine (dAdd (hT.below hJ) p23 (by omega) HcS1.out (congrArg Prod.fst HS1.out) (congrArg Prod.snd HS1.out)).mono ?_
      rintro ee wk ⟨s24, A24, n24, c24, rfl, p24, k24, B⟩
      exact hK.out _ _ ⟨s24, A24, n24, c24, rfl, p24, p24.lm HLS1.out⟩ B
    refine Jo.jcons (i := 5) (o := ⟨some 54, _, _, _, _, _⟩) (di := some 54) (L := [(some 49, 0), (some 53, 4)]) (f := Jo.Fact.dy S.1 S.2 20000) rfl rfl rfl rfl (fun vs wj hJ hd K hK => ?_) ?_
    · have d0 : (Jo.Fact.eq (.agg #[.bool s0, .slice a0 len0 cap0, .int .i64 e0])).P (vs 0) wj := hd 0 (by decide)
      have d4 : (Jo.Fact.dy S1.1 S1.2 20000).P (vs 4) wj := hd 4 (by decide)
      clear hd
      simp only [Jo.putl, List.foldl_cons, List.foldl_nil, Act.put, List.setIfInBounds_toArray, List.set_cons_zero, List.set_cons_succ] at hK ⊢
      generalize vs 0 = u0 at hK d0 ⊢
      generalize vs 4 = u4 at hK d4 ⊢
      replace d0 : u0 = _ := d0
      subst d0
      obtain ⟨s24, A24, n24, c24, rfl, p24, k24⟩ := d4
      go_simp
      refine (dMul (hT.below hJ) (h0.below hJ) p24.wr (by omega) (by omega) (by rw [HP.out, HnS1.out, HS.out]) (by rw [HP.out, HnS1.out, HS.out])).mono ?_
      rintro ee wk ⟨s13, A13, n13, c13, rfl, p13, k13, B⟩
      exact hK.out _ _ ⟨s13, A13, n13, c13, rfl, p13, p13.lm HLS.out⟩ B
    refine Jo.jcons (i := 6) (o := ⟨some 13, _, _, _, _, _⟩) (di := some 13) (L := []) (f := Jo.Fact.bo w10.heap.size #[.bool false, .slice none 0 0, .int .i64 0] 27) rfl rfl rfl rfl (fun vs wj hJ hd K hK => ?_) ?_
    · clear hd
      simp only [Jo.putl, List.foldl_nil, Act.put, List.setIfInBounds_toArray, List.set_cons_zero, List.set_cons_succ] at hK ⊢
      go_simp
      exact hK.out _ _ ⟨_, rfl, hJ.size, Bo.new _ _ _⟩ (bel1 _ _)
    exact Jo.Steps.nil
  have d0 : (Jo.Fact.eq (.agg #[.bool s0, .slice a0 len0 cap0, .int .i64 e0])).P (vs 0) w11 := hd 0 (by decide)
  have d1 : (Jo.Fact.eq (.agg #[.bool s1, .slice a1 len1 cap1, .int .i64 e1])).P (vs 1) w11 := hd 1 (by decide)
  have d2 : (Jo.Fact.eq (.agg #[.bool s2, .slice a2 len2 cap2, .int .i64 e2])).P (vs 2) w11 := hd 2 (by decide)
  have d3 : (Jo.Fact.dl 20000 2 [(x1, e1), (x2, e2)]).P (vs 3) w11 := hd 3 (by decide)
  have d4 : (Jo.Fact.dy S1.1 S1.2 20000).P (vs 4) w11 := hd 4 (by decide)
  have d5 : (Jo.Fact.dy S.1 S.2 20000).P (vs 5) w11 := hd 5 (by decide)
  have d6 : (Jo.Fact.bo w10.heap.size #[.bool false, .slice none 0 0, .int .i64 0] 27).P (vs 6) w11 := hd 6 (by decide)
  clear hd
  simp only [Jo.putl, List.foldl_cons, List.foldl_nil, Act.put, List.setIfInBounds_toArray, List.set_cons_zero, List.set_cons_succ]
  generalize vs 0 = u0 at d0 ⊢
  generalize vs 1 = u1 at d1 ⊢
  generalize vs 2 = u2 at d2 ⊢
  generalize vs 3 = u3 at d3 ⊢
  generalize vs 4 = u4 at d4 ⊢
  generalize vs 5 = u5 at d5 ⊢
  generalize vs 6 = u6 at d6 ⊢
  clear vs
  replace d0 : u0 = _ := d0
  subst d0
  replace d1 : u1 = _ := d1
  subst d1
  replace d2 : u2 = _ := d2
  subst d2
  obtain ⟨A23, c23, rfl, _⟩ := d3
  obtain ⟨s24, A24, n24, c24, rfl, _, _⟩ := d4
  obtain ⟨s13, A13, n13, c13, rfl, p13, k13⟩ := d5
  obtain ⟨g13, rfl, hg13, X13⟩ := d6
  replace X0 := X0.below hJ
  replace X1 := X1.below hJ
  replace X2 := X2.below hJ
  replace X11 := X11.below hJ
  replace X12 := X12.below hJ
  replace hT := hT.below hJ
  replace h0 := h0.below hJ
  replace h1 := h1.below hJ
  replace h2 := h2.below hJ
  replace p11 := p11.below hJ
  replace p12 := p12.below hJ
  replace HB := Lib.hid (bt HB.out hJ)
  have xX130 := X13.at (i := 0) (v := .bool false) rfl
  have zX130 := X13.frozen 0
  have xX131 := X13.at (i := 1) (v := .slice none 0 0) rfl
  have zX131 := X13.frozen 1
  have xX132 := X13.at (i := 2) (v := .int .i64 0) rfl
  have zX132 := X13.frozen 2
  refine Jo.jnext (i := 7) (o := ⟨none, _, _, _, _, _⟩) (by kernel_rfl) rfl (fun K hK => ?_)
  go_simp
  refine hK.out _ _ ?_
  clear hK K xX130 zX130 xX131 zX131 xX132 zX132
  have SX := StN.mk3 X13 (.bool s13) (.slice A13 n13 c13) (.int .i64 S.2)
  replace X0 := X0.stn SX (by omega)
  replace X1 := X1.stn SX (by omega)
  replace X2 := X2.stn SX (by omega)
  replace X11 := X11.stn SX (by omega)
  replace X12 := X12.stn SX (by omega)
  replace hT := hT.stn SX (by simp [no8])
  replace h0 := h0.stn SX (by simp [no32])
  replace h1 := h1.stn SX (by simp [no32])
  replace h2 := h2.stn SX (by simp [no32])
  replace p11 := p11.stn SX (by simp [no32])
  replace p12 := p12.stn SX (by simp [no32])
  replace p13 := p13.stn SX (by simp [no32])
  replace HB := Lib.hid (SX.below HB.out (by omega))
  replace X13 := SX.box
  clear SX
  generalize (World.setCell (World.setCell (World.setCell w11 ⟨g13, 0, none⟩ (.bool s13)) ⟨g13, 1, none⟩ (.slice A13 n13 c13)) ⟨g13, 2, none⟩ (.int .i64 S.2)) = w12 at *
  refine Jo.jdone (by kernel_rfl) ?_
  go_upto_region 10 with (fail)
  clear ltX0
  clear ltX1
  clear ltX2
  clear ltX11
  clear ltX12
  have ltX0 := X0.lt
  have ltX1 := X1.lt
  have ltX2 := X2.lt
  have ltX11 := X11.lt
  have ltX12 := X12.lt
  have ltX13 := X13.lt
  refine Jo.region_joint (T := [0, 1, 2, 3, 4, 5, 6, 7, 8]) (ds := [some 55, some 56, some 57, some 58, some 59, some 60, some 61, some 62, some 14, none]) (ls := [[], [], [0, 1], [], [], [3, 4], [2, 5], [6], [], []]) (k := 10) (L := [(some 55, 0), (some 56, 1), (some 57, 2), (some 58, 3), (some 59, 4), (some 60, 5), (some 61, 6), (some 62, 7), (some 14, 8)]) (fuel := 1) (J := fun wj => Below (World.heap w12).size w12 wj)
    (F := [Jo.Fact.eq (.agg #[.bool s0, .slice a0 len0 cap0, .int .i64 e0]), Jo.Fact.eq (.agg #[.bool s1, .slice a1 len1 cap1, .int .i64 e1]), Jo.Fact.dy T1.1 T1.2 20000, Jo.Fact.eq (.agg #[.bool s2, .slice a2 len2 cap2, .int .i64 e2]), Jo.Fact.eq (.agg #[.bool s0, .slice a0 len0 cap0, .int .i64 e0]), Jo.Fact.dy T2.1 T2.2 20000, Jo.Fact.dl 20000 2 [(T1.1, T1.2), (T2.1, T2.2)], Jo.Fact.dy T.1 T.2 20000, Jo.Fact.bo w12.heap.size #[.bool false, .slice none 0 0, .int .i64 0] 27, Jo.Fact.any])
    (by kernel_rfl) (by kernel_rfl) (by decide) rfl rfl (fun _ _ h b => bt h b) ((Below.refl _ _).drew) ?_ (fun vs w13 hJ hd => ?_)
  · refine Jo.jcons (i := 0) (o := ⟨some 55, _, _, _, _, _⟩) (di := some 55) (L := []) (f := Jo.Fact.eq (.agg #[.bool s0, .slice a0 len0 cap0, .int .i64 e0])) rfl rfl rfl rfl (fun vs wj hJ hd K hK => ?_) ?_
    · clear hd
      simp only [Jo.putl, List.foldl_nil, Act.put, List.setIfInBounds_toArray, List.set_cons_zero, List.set_cons_succ] at hK ⊢
      have xX00 : World.cell? wj ⟨w.heap.size, 0, none⟩ = some (.bool s0) := (X0.below hJ).cell 0
      have xX01 : World.cell? wj ⟨w.heap.size, 1, none⟩ = some (.slice a0 len0 cap0) := (X0.below hJ).cell 1
      have xX02 : World.cell? wj ⟨w.heap.size, 2, none⟩ = some (.int .i64 e0) := (X0.below hJ).cell 2
      go_simp
      exact hK.out _ _ rfl (Below.refl _ _)
    refine Jo.jcons (i := 1) (o := ⟨some 56, _, _, _, _, _⟩) (di := some 56) (L := []) (f := Jo.Fact.eq (.agg #[.bool s1, .slice a1 len1 cap1, .int .i64 e1])) rfl rfl rfl rfl (fun vs wj hJ hd K hK => ?_) ?_
    · clear hd
      simp only [Jo.putl, List.foldl_nil, Act.put, List.setIfInBounds_toArray, List.set_cons_zero, List.set_cons_succ] at hK ⊢
      have xX10 : World.cell? wj ⟨w.heap.size + 1, 0, none⟩ = some (.bool s1) := (X1.below hJ).cell 0
      have xX11 : World.cell? wj ⟨w.heap.size + 1, 1, none⟩ = some (.slice a1 len1 cap1) := (X1.below hJ).cell 1
      have xX12 : World.cell? wj ⟨w.heap.size + 1, 2, none⟩ = some (.int .i64 e1) := (X1.below hJ).cell 2
      go_simp
      exact hK.out _ _ rfl (Below.refl _ _)
    refine Jo.jcons (i := 2) (o := ⟨some 57, _, _, _, _, _⟩) (di := some 57) (L := [(some 55, 0), (some 56, 1)]) (f := Jo.Fact.dy T1.1 T1.2 20000) rfl rfl rfl rfl (fun vs wj hJ hd K hK => ?_) ?_
    · have d0 : (Jo.Fact.eq (.agg #[.bool s0, .slice a0 len0 cap0, .int .i64 e0])).P (vs 0) wj := hd 0 (by decide)
      have d1 : (Jo.Fact.eq (.agg #[.bool s1, .slice a1 len1 cap1, .int .i64 e1])).P (vs 1) wj := hd 1 (by decide)
      clear hd
      simp only [Jo.putl, List.foldl_cons, List.foldl_nil, Act.put, List.setIfInBounds_toArray, List.set_cons_zero, List.set_cons_succ] at hK ⊢
      generalize vs 0 = u0 at hK d0 ⊢
      generalize vs 1 = u1 at hK d1 ⊢
      replace d0 : u0 = _ := d0
      subst d0
      replace d1 : u1 = _ := d1
      subst d1
      go_simp
      refine (dMul (hT.below hJ) (h0.below hJ) (h1.below hJ) (by omega) (by omega) (by rw [HP.out, HQ.out, HT1.out]) (by rw [HP.out, HQ.out, HT1.out])).mono ?_
      rintro ee wk ⟨s25, A25, n25, c25, rfl, p25, k25, B⟩
      exact hK.out _ _ ⟨s25, A25, n25, c25, rfl, p25, p25.lm HLT1.out⟩ B
    refine Jo.jcons (i := 3) (o := ⟨some 58, _, _, _, _, _⟩) (di := some 58) (L := []) (f := Jo.Fact.eq (.agg #[.bool s2, .slice a2 len2 cap2, .int .i64 e2])) rfl rfl rfl rfl (fun vs wj hJ hd K hK => ?_) ?_
    · clear hd
      simp only [Jo.putl, List.foldl_nil, Act.put, List.setIfInBounds_toArray, List.set_cons_zero, List.set_cons_succ] at hK ⊢
      have xX20 : World.cell? wj ⟨w.heap.size + 1 + 1, 0, none⟩ = some (.bool s2) := (X2.below hJ).cell 0
      have xX21 : World.cell? wj ⟨w.heap.size + 1 + 1, 1, none⟩ = some (.slice a2 len2 cap2) := (X2.below hJ).cell 1
      have xX22 : World.cell? wj ⟨w.heap.size + 1 + 1, 2, none⟩ = some (.int .i64 e2) := (X2.below hJ).cell 2
      go_simp
      exact hK.out _ _ rfl (Below.refl _ _)
    refine Jo.jcons (i := 4) (o := ⟨some 59, _, _, _, _, _⟩) (di := some 59) (L := []) (f := Jo.Fact.eq (.agg #[.bool s0, .slice a0 len0 cap0, .int .i64 e0])) rfl rfl rfl rfl (fun vs wj hJ hd K hK => ?_) ?_
    · clear hd
      simp only [Jo.putl, List.foldl_nil, Act.put, List.setIfInBounds_toArray, List.set_cons_zero, List.set_cons_succ] at hK ⊢
      have xX00 : World.cell? wj ⟨w.heap.size, 0, none⟩ = some (.bool s0) := (X0.below hJ).cell 0
      have xX01 : World.cell? wj ⟨w.heap.size, 1, none⟩ = some (.slice a0 len0 cap0) := (X0.below hJ).cell 1
      have xX02 : World.cell? wj ⟨w.heap.size, 2, none⟩ = some (.int .i64 e0) := (X0.below hJ).cell 2
      go_simp
      exact hK.out _ _ rfl (Below.refl _ _)
    refine Jo.jcons (i := 5) (o := ⟨some 60, _, _, _, _, _⟩) (di := some 60) (L := [(some 58, 3), (some 59, 4)]) (f := Jo.Fact.dy T2.1 T2.2 20000) rfl rfl rfl rfl (fun vs wj hJ hd K hK => ?_) ?_
    · have d3 : (Jo.Fact.eq (.agg #[.bool s2, .slice a2 len2 cap2, .int .i64 e2])).P (vs 3) wj := hd 3 (by decide)
      have d4 : (Jo.Fact.eq (.agg #[.bool s0, .slice a0 len0 cap0, .int .i64 e0])).P (vs 4) wj := hd 4 (by decide)
      clear hd
      simp only [Jo.putl, List.foldl_cons, List.foldl_nil, Act.put, List.setIfInBounds_toArray, List.set_cons_zero, List.set_cons_succ] at hK ⊢
      generalize vs 3 = u3 at hK d3 ⊢
      generalize vs 4 = u4 at hK d4 ⊢
      replace d3 : u3 = _ := d3
      subst d3
      replace d4 : u4 = _ := d4
      subst d4
      go_simp
      refine (dMul (hT.below hJ) (h2.below hJ) (h0.below hJ) (by omega) (by omega) (by rw [HR.out, HP.out, HT2.out]) (by rw [HR.out, HP.out, HT2.out])).mono ?_
      rintro ee wk ⟨s26, A26, n26, c26, rfl, p26, k26, B⟩
      exact hK.out _ _ ⟨s26, A26, n26, c26, rfl, p26, p26.lm HLT2.out⟩ B
    refine Jo.jcons (i := 6) (o := ⟨some 61, _, _, _, _, _⟩) (di := some 61) (L := [(some 57, 2), (some 60, 5)]) (f := Jo.Fact.dl 20000 2 [(T1.1, T1.2), (T2.1, T2.2)]) rfl rfl rfl rfl (fun vs wj hJ hd K hK => ?_) ?_
    · have d2 : (Jo.Fact.dy T1.1 T1.2 20000).P (vs 2) wj := hd 2 (by decide)
      have d5 : (Jo.Fact.dy T2.1 T2.2 20000).P (vs 5) wj := hd 5 (by decide)
      clear hd
      simp only [Jo.putl, List.foldl_cons, List.foldl_nil, Act.put, List.setIfInBounds_toArray, List.set_cons_zero, List.set_cons_succ] at hK ⊢
      generalize vs 2 = u2 at hK d2 ⊢
      generalize vs 5 = u5 at hK d5 ⊢
      obtain ⟨s25, A25, n25, c25, rfl, p25, k25⟩ := d2
      obtain ⟨s26, A26, n26, c26, rfl, p26, k26⟩ := d5
      go_simp
      exact hK.out _ _ ⟨_, 2, rfl, Dl.lit2 rfl p25.wr p26.wr (by omega) (by omega)⟩ (bel1 _ _)
    refine Jo.jcons (i := 7) (o := ⟨some 62, _, _, _, _, _⟩) (di := some 62) (L := [(some 61, 6)]) (f := Jo.Fact.dy T.1 T.2 20000) rfl rfl rfl rfl (fun vs wj hJ hd K hK => ?_) ?_
    · have d6 : (Jo.Fact.dl 20000 2 [(T1.1, T1.2), (T2.1, T2.2)]).P (vs 6) wj := hd 6 (by decide)
      clear hd
      simp only [Jo.putl, List.foldl_cons, List.foldl_nil, Act.put, List.setIfInBounds_toArray, List.set_cons_zero, List.set_cons_succ] at hK ⊢
      generalize vs 6 = u6 at hK d6 ⊢
      obtain ⟨A27, c27, rfl, p27⟩ := d6
      go_simp
      refine (dAdd (hT.below hJ) p27 (by omega) HcT.out (congrArg Prod.fst HT.out) (congrArg Prod.snd HT.out)).mono ?_
      rintro ee wk ⟨s14, A14, n14, c14, rfl, p14, k14, B⟩
      exact hK.out _ _ ⟨s14, A14, n14, c14, rfl, p14, p14.lm HLT.out⟩ B
    refine Jo.jcons (i := 8) (o := ⟨some 14, _, _, _, _, _⟩) (di := some 14) (L := []) (f := Jo.Fact.bo w12.heap.size #[.bool false, .slice none 0 0, .int .i64 0] 27) rfl rfl rfl rfl (fun vs wj hJ hd K hK => ?_) ?_
    · clear hd
      simp only [Jo.putl, List.foldl_nil, Act.put, List.setIfInBounds_toArray, List.set_cons_zero, List.set_cons_succ] at hK ⊢
      go_simp
      exact hK.out _ _ ⟨_, rfl, hJ.size, Bo.new _ _ _⟩ (bel1 _ _)
    exact Jo.Steps.nil
  have d0 : (Jo.Fact.eq (.agg #[.bool s0, .slice a0 len0 cap0, .int .i64 e0])).P (vs 0) w13 := hd 0 (by decide)
  have d1 : (Jo.Fact.eq (.agg #[.bool s1, .slice a1 len1 cap1, .int .i64 e1])).P (vs 1) w13 := hd 1 (by decide)
  have d2 : (Jo.Fact.dy T1.1 T1.2 20000).P (vs 2) w13 := hd 2 (by decide)
  have d3 : (Jo.Fact.eq (.agg #[.bool s2, .slice a2 len2 cap2, .int .i64 e2])).P (vs 3) w13 := hd 3 (by decide)
  have d4 : (Jo.Fact.eq (.agg #[.bool s0, .slice a0 len0 cap0, .int .i64 e0])).P (vs 4) w13 := hd 4 (by decide)
  have d5 : (Jo.Fact.dy T2.1 T2.2 20000).P (vs 5) w13 := hd 5 (by decide)
  have d6 : (Jo.Fact.dl 20000 2 [(T1.1, T1.2), (T2.1, T2.2)]).P (vs 6) w13 := hd 6 (by decide)
  have d7 : (Jo.Fact.dy T.1 T.2 20000).P (vs 7) w13 := hd 7 (by decide)
  have d8 : (Jo.Fact.bo w12.heap.size #[.bool false, .slice none 0 0, .int .i64 0] 27).P (vs 8) w13 := hd 8 (by decide)
  clear hd
  simp only [Jo.putl, List.foldl_cons, List.foldl_nil, Act.put, List.setIfInBounds_toArray, List.set_cons_zero, List.set_cons_succ]
  generalize vs 0 = u0 at d0 ⊢
  generalize vs 1 = u1 at d1 ⊢
  generalize vs 2 = u2 at d2 ⊢
  generalize vs 3 = u3 at d3 ⊢
  generalize vs 4 = u4 at d4 ⊢
  generalize vs 5 = u5 at d5 ⊢
  generalize vs 6 = u6 at d6 ⊢
  generalize vs 7 = u7 at d7 ⊢
  generalize vs 8 = u8 at d8 ⊢
  clear vs
  replace d0 : u0 = _ := d0
  subst d0
  replace d1 : u1 = _ := d1
  subst d1
  obtain ⟨s25, A25, n25, c25, rfl, _, _⟩ := d2
  replace d3 : u3 = _ := d3
  subst d3
  replace d4 : u4 = _ := d4
  subst d4
  obtain ⟨s26, A26, n26, c26, rfl, _, _⟩ := d5
  obtain ⟨A27, c27, rfl, _⟩ := d6
  obtain ⟨s14, A14, n14, c14, rfl, p14, k14⟩ := d7
  obtain ⟨g14, rfl, hg14, X14⟩ := d8
  replace X0 := X0.below hJ
  replace X1 := X1.below hJ
  replace X2 := X2.below hJ
  replace X11 := X11.below hJ
  replace X12 := X12.below hJ
  replace X13 := X13.below hJ
  replace hT := hT.below hJ
  replace h0 := h0.below hJ
  replace h1 := h1.below hJ
  replace h2 := h2.below hJ
  replace p11 := p11.below hJ
  replace p12 := p12.below hJ
  replace p13 := p13.below hJ
  replace HB := Lib.hid (bt HB.out hJ)
  have xX140 := X14.at (i := 0) (v := .bool false) rfl
  have zX140 := X14.frozen 0
  have xX141 := X14.at (i := 1) (v := .slice none 0 0) rfl
  have zX141 := X14.frozen 1
  have xX142 := X14.at (i := 2) (v := .int .i64 0) rfl
  have zX142 := X14.frozen 2
  refine Jo.jnext (i := 9) (o := ⟨none, _, _, _, _, _⟩) (by kernel_rfl) rfl (fun K hK => ?_)
  go_simp
  refine hK.out _ _ ?_
  clear hK K xX140 zX140 xX141 zX141 xX142 zX142
  have SX := StN.mk3 X14 (.bool s14) (.slice A14 n14 c14) (.int .i64 T.2)
  replace X0 := X0.stn SX (by omega)
  replace X1 := X1.stn SX (by omega)
  replace X2 := X2.stn SX (by omega)
  replace X11 := X11.stn SX (by omega)
  replace X12 := X12.stn SX (by omega)
  replace X13 := X13.stn SX (by omega)
  replace hT := hT.stn SX (by simp [no8])
  replace h0 := h0.stn SX (by simp [no32])
  replace h1 := h1.stn SX (by simp [no32])
  replace h2 := h2.stn SX (by simp [no32])
  replace p11 := p11.stn SX (by simp [no32])
  replace p12 := p12.stn SX (by simp [no32])
  replace p13 := p13.stn SX (by simp [no32])
  replace p14 := p14.stn SX (by simp [no32])
  replace HB := Lib.hid (SX.below HB.out (by omega))
  replace X14 := SX.box
  clear SX
  generalize (World.setCell (World.setCell (World.setCell w13 ⟨g14, 0, none⟩ (.bool s14)) ⟨g14, 1, none⟩ (.slice A14 n14 c14)) ⟨g14, 2, none⟩ (.int .i64 T.2)) = w14 at *
  refine Jo.jdone (by kernel_rfl) ?_
  go_upto_region 11 with (fail)
  refine Jo.region_joint (T := [0, 1, 2, 3, 4, 5, 6, 7, 8, 9, 10, 11, 12, 13, 14, 15, 16, 17, 18, 19, 20, 21, 22, 23, 24, 25, 26, 27, 28, 29, 30, 31, 32, 33, 34, 35, 36, 37, 38, 39]) (ds := [some 63, some 64, some 65, some 66, some 67, some 68, some 69, some 70, some 71, some 72, some 73, some 74, some 75, some 76, some 77, some 78, some 79, some 80, some 81, some 82, some 83, some 84, some 85, some 86, some 87, some 88, some 89, some 90, some 91, some 92, some 93, some 94, some 95, some 96, some 97, some 98, some 99, some 100, some 101, some 6]) (ls := [[], [], [0, 1], [2], [3], [4], [4], [4, 5, 6], [4, 7], [4, 8], [9], [10], [10], [10, 11, 12], [10, 13], [10, 14], [10, 15], [16], [17], [17, 18], [17, 19], [20], [21], [21, 22], [21, 23], [24], [25], [25], [25], [25, 27, 28], [25, 26, 29], [25], [25], [25, 31, 32], [25], [25, 33, 34], [25, 30, 35], [25, 36], [25, 37], [38]]) (k := 40) (L := [(some 63, 0), (some 64, 1), (some 65, 2), (some 66, 3), (some 67, 4), (some 68, 5), (some 69, 6), (some 70, 7), (some 71, 8), (some 72, 9), (some 73, 10), (some 74, 11), (some 75, 12), (some 76, 13), (some 77, 14), (some 78, 15), (some 79, 16), (some 80, 17), (some 81, 18), (some 82, 19), (some 83, 20), (some 84, 21), (some 85, 22), (some 86, 23), (some 87, 24), (some 88, 25), (some 89, 26), (some 90, 27), (some 91, 28), (some 92, 29), (some 93, 30), (some 94, 31), (some 95, 32), (some 96, 33), (some 97, 34), (some 98, 35), (some 99, 36), (some 100, 37), (some 101, 38), (some 6, 39)]) (fuel := 0) (J := fun wj => Below (World.heap w14).size w14 wj)
    (F := [Jo.Fact.eq (.agg #[.bool s11, .slice A11 n11 c11, .int .i64 X.2]), Jo.Fact.eq (.agg #[.bool s12, .slice A12 n12 c12, .int .i64 Y.2]), Jo.Fact.eq (.int .i64 0), Jo.Fact.eq (.bool true), Jo.Fact.eq (.bool true), Jo.Fact.eq (.agg #[.bool s13, .slice A13 n13 c13, .int .i64 S.2]), Jo.Fact.eq (.agg #[.bool s14, .slice A14 n14 c14, .int .i64 T.2]), Jo.Fact.eq (.int .i64 0), Jo.Fact.eq (.bool true), Jo.Fact.eq (.bool true), Jo.Fact.eq (.bool true), Jo.Fact.eq (.agg #[.bool s0, .slice a0 len0 cap0, .int .i64 e0]), Jo.Fact.eq (.agg #[.bool s0, .slice a0 len0 cap0, .int .i64 e0]), Jo.Fact.dy Z.1 Z.2 20000, Jo.Fact.eq (.int .i64 0), Jo.Fact.eq (.bool true), Jo.Fact.eq (.bool true), Jo.Fact.eq (.bool true), Jo.Fact.eq (.agg #[.bool s11, .slice A11 n11 c11, .int .i64 X.2]), Jo.Fact.eq (.bool true), Jo.Fact.eq (.bool true), Jo.Fact.eq (.bool true), Jo.Fact.eq (.agg #[.bool s13, .slice A13 n13 c13, .int .i64 S.2]), Jo.Fact.eq (.bool true), Jo.Fact.eq (.bool true), Jo.Fact.eq (.bool true), Jo.Fact.eq (.agg #[.bool s0, .slice a0 len0 cap0, .int .i64 e0]), Jo.Fact.eq (.agg #[.bool s1, .slice a1 len1 cap1, .int .i64 e1]), Jo.Fact.eq (.agg #[.bool s2, .slice a2 len2 cap2, .int .i64 e2]), Jo.Fact.dy U1.1 U1.2 20000, Jo.Fact.dy U.1 U.2 20000, Jo.Fact.eq (.agg #[.bool s0, .slice a0 len0 cap0, .int .i64 e0]), Jo.Fact.eq (.agg #[.bool s1, .slice a1 len1 cap1, .int .i64 e1]), Jo.Fact.dy T1.1 T1.2 20000, Jo.Fact.eq (.agg #[.bool s2, .slice a2 len2 cap2, .int .i64 e2]), Jo.Fact.dy W.1 W.2 20000, Jo.Fact.eq (.int .i64 0), Jo.Fact.eq (.bool true), Jo.Fact.eq (.bool true), Jo.Fact.eq (.bool true)])
    (by kernel_rfl) (by kernel_rfl) (by decide) rfl rfl (fun _ _ h b => bt h b) ((Below.refl _ _).drew) ?_ (fun vs w15 hJ hd => ?_)
  · refine Jo.jcons (i := 0) (o := ⟨some 63, _, _, _, _, _⟩) (di := some 63) (L := []) (f := Jo.Fact.eq (.agg #[.bool s11, .slice A11 n11 c11, .int .i64 X.2])) rfl rfl rfl rfl (fun vs wj hJ hd K hK => ?_) ?_
    · clear hd
      simp only [Jo.putl, List.foldl_nil, Act.put, List.setIfInBounds_toArray, List.set_cons_zero, List.set_cons_succ] at hK ⊢
      have xX110 : World.cell? wj ⟨w6.heap.size, 0, none⟩ = some (.bool s11) := (X11.below hJ).cell 0
      have xX111 : World.cell? wj ⟨w6.heap.size, 1, none⟩ = some (.slice A11 n11 c11) := (X11.below hJ).cell 1
      have xX112 : World.cell? wj ⟨w6.heap.size, 2, none⟩ = some (.int .i64 X.2) := (X11.below hJ).cell 2
      go_simp
      exact hK.out _ _ rfl (Below.refl _ _)
    refine Jo.jcons (i := 1) (o := ⟨some 64, _, _, _, _, _⟩) (di := some 64) (L := []) (f := Jo.Fact.eq (.agg #[.bool s12, .slice A12 n12 c12, .int .i64 Y.2])) rfl rfl rfl rfl (fun vs wj hJ hd K hK => ?_) ?_
    · clear hd
      simp only [Jo.putl, List.foldl_nil, Act.put, List.setIfInBounds_toArray, List.set_cons_zero, List.set_cons_succ] at hK ⊢
      have xX120 : World.cell? wj ⟨g12, 0, none⟩ = some (.bool s12) := (X12.below hJ).cell 0
      have xX121 : World.cell? wj ⟨g12, 1, none⟩ = some (.slice A12 n12 c12) := (X12.below hJ).cell 1
      have xX122 : World.cell? wj ⟨g12, 2, none⟩ = some (.int .i64 Y.2) := (X12.below hJ).cell 2
      go_simp
      exact hK.out _ _ rfl (Below.refl _ _)
    refine Jo.jcons (i := 2) (o := ⟨some 65, _, _, _, _, _⟩) (di := some 65) (L := [(some 63, 0), (some 64, 1)]) (f := Jo.Fact.eq (.int .i64 0)) rfl rfl rfl rfl (fun vs wj hJ hd K hK => ?_) ?_
    · have d0 : (Jo.Fact.eq (.agg #[.bool s11, .slice A11 n11 c11, .int .i64 X.2])).P (vs 0) wj := hd 0 (by decide)
      have d1 : (Jo.Fact.eq (.agg #[.bool s12, .slice A12 n12 c12, .int .i64 Y.2])).P (vs 1) wj := hd 1 (by decide)
      clear hd
      simp only [Jo.putl, List.foldl_cons, List.foldl_nil, Act.put, List.setIfInBounds_toArray, List.set_cons_zero, List.set_cons_succ] at hK ⊢
      generalize vs 0 = u0 at hK d0 ⊢
      generalize vs 1 = u1 at hK d1 ⊢
      replace d0 : u0 = _ := d0
      subst d0
      replace d1 : u1 = _ := d1
      subst d1
      go_simp
      refine (dCmp (r := 0) (hT.below hJ) (p11.below hJ).wr (p12.below hJ).wr (by omega) (by omega) (by rw [HnX.out, HnY.out]; exact HC1.out)).mono ?_
      rintro ee wk ⟨rfl, B⟩
      exact hK.out _ _ rfl B
    refine Jo.jcons (i := 3) (o := ⟨some 66, _, _, _, _, _⟩) (di := some 66) (L := [(some 65, 2)]) (f := Jo.Fact.eq (.bool true)) rfl rfl rfl rfl (fun vs wj hJ hd K hK => ?_) ?_
    · have d2 : (Jo.Fact.eq (.int .i64 0)).P (vs 2) wj := hd 2 (by decide)
      clear hd
      simp only [Jo.putl, List.foldl_cons, List.foldl_nil, Act.put, List.setIfInBounds_toArray, List.set_cons_zero, List.set_cons_succ] at hK ⊢
      generalize vs 2 = u2 at hK d2 ⊢
      replace d2 : u2 = _ := d2
      subst d2
      go_simp
      exact hK.out _ _ (by first | rfl | simp) (Below.refl _ _)
    refine Jo.jcons (i := 4) (o := ⟨some 67, _, _, _, _, _⟩) (di := some 67) (L := [(some 66, 3)]) (f := Jo.Fact.eq (.bool true)) rfl rfl rfl rfl (fun vs wj hJ hd K hK => ?_) ?_
    · have d3 : (Jo.Fact.eq (.bool true)).P (vs 3) wj := hd 3 (by decide)
      clear hd
      simp only [Jo.putl, List.foldl_cons, List.foldl_nil, Act.put, List.setIfInBounds_toArray, List.set_cons_zero, List.set_cons_succ] at hK ⊢
      generalize vs 3 = u3 at hK d3 ⊢
      replace d3 : u3 = _ := d3
      subst d3
      go_simp
      exact hK.out _ _ rfl (Below.refl _ _)
    refine Jo.jcons (i := 5) (o := ⟨some 68, _, _, _, _, _⟩) (di := some 68) (L := [(some 67, 4)]) (f := Jo.Fact.eq (.agg #[.bool s13, .slice A13 n13 c13, .int .i64 S.2])) rfl rfl rfl rfl (fun vs wj hJ hd K hK => ?_) ?_
    · have d4 : (Jo.Fact.eq (.bool true)).P (vs 4) wj := hd 4 (by decide)
      clear hd
      simp only [Jo.putl, List.foldl_cons, List.foldl_nil, Act.put, List.setIfInBounds_toArray, List.set_cons_zero, List.set_cons_succ] at hK ⊢
      generalize vs 4 = u4 at hK d4 ⊢
      replace d4 : u4 = _ := d4
      subst d4
      have xX130 : World.cell? wj ⟨g13, 0, none⟩ = some (.bool s13) := (X13.below hJ).cell 0
      have xX131 : World.cell? wj ⟨g13, 1, none⟩ = some (.slice A13 n13 c13) := (X13.below hJ).cell 1
      have xX132 : World.cell? wj ⟨g13, 2, none⟩ = some (.int .i64 S.2) := (X13.below hJ).cell 2
      go_simp
      exact hK.out _ _ rfl (Below.refl _ _)
    refine Jo.jcons (i := 6) (o := ⟨some 69, _, _, _, _, _⟩) (di := some 69) (L := [(some 67, 4)]) (f := Jo.Fact.eq (.agg #[.bool s14, .slice A14 n14 c14, .int .i64 T.2])) rfl rfl rfl rfl (fun vs wj hJ hd K hK => ?_) ?_
    · have d4 : (Jo.Fact.eq (.bool true)).P (vs 4) wj := hd 4 (by decide)
      clear hd
      simp only [Jo.putl, List.foldl_cons, List.foldl_nil, Act.put, List.setIfInBounds_toArray, List.set_cons_zero, List.set_cons_succ] at hK ⊢
      generalize vs 4 = u4 at hK d4 ⊢
      replace d4 : u4 = _ := d4
      subst d4
      have xX140 : World.cell? wj ⟨g14, 0, none⟩ = some (.bool s14) := (X14.below hJ).cell 0
      have xX141 : World.cell? wj ⟨g14, 1, none⟩ = some (.slice A14 n14 c14) := (X14.below hJ).cell 1
      have xX142 : World.cell? wj ⟨g14, 2, none⟩ = some (.int .i64 T.2) := (X14.below hJ).cell 2
      go_simp
      exact hK.out _ _ rfl (Below.refl _ _)
    refine Jo.jcons (i := 7) (o := ⟨some 70, _, _, _, _, _⟩) (di := some 70) (L := [(some 67, 4), (some 68, 5), (some 69, 6)]) (f := Jo.Fact.eq (.int .i64 0)) rfl rfl rfl rfl (fun vs wj hJ hd K hK => ?_) ?_
    · have d4 : (Jo.Fact.eq (.bool true)).P (vs 4) wj := hd 4 (by decide)
      have d5 : (Jo.Fact.eq (.agg #[.bool s13, .slice A13 n13 c13, .int .i64 S.2])).P (vs 5) wj := hd 5 (by decide)
      have d6 : (Jo.Fact.eq (.agg #[.bool s14, .slice A14 n14 c14, .int .i64 T.2])).P (vs 6) wj := hd 6 (by decide)
      clear hd
      simp only [Jo.putl, List.foldl_cons, List.foldl_nil, Act.put, List.setIfInBounds_toArray, List.set_cons_zero, List.set_cons_succ] at hK ⊢
      generalize vs 4 = u4 at hK d4 ⊢
      generalize vs 5 = u5 at hK d5 ⊢
      generalize vs 6 = u6 at hK d6 ⊢
      replace d4 : u4 = _ := d4
      subst d4
      replace d5 : u5 = _ := d5
      subst d5
      replace d6 : u6 = _ := d6
      subst d6
      go_simp
      refine (dCmp (r := 0) (hT.below hJ) (p13.below hJ).wr (p14.below hJ).wr (by omega) (by omega) (by rw [HnS.out, HnT.out]; exact HC2.out)).mono ?_
      rintro ee wk ⟨rfl, B⟩
      exact hK.out _ _ rfl B
    refine Jo.jcons (i := 8) (o := ⟨some 71, _, _, _, _, _⟩) (di := some 71) (L := [(some 67, 4), (some 70, 7)]) (f := Jo.Fact.eq (.bool true)) rfl rfl rfl rfl (fun vs wj hJ hd K hK => ?_) ?_
    · have d4 : (Jo.Fact.eq (.bool true)).P (vs 4) wj := hd 4 (by decide)
      have d7 : (Jo.Fact.eq (.int .i64 0)).P (vs 7) wj := hd 7 (by decide)
      clear hd
      simp only [Jo.putl, List.foldl_cons, List.foldl_nil, Act.put, List.setIfInBounds_toArray, List.set_cons_zero, List.set_cons_succ] at hK ⊢
      generalize vs 4 = u4 at hK d4 ⊢
      generalize vs 7 = u7 at hK d7 ⊢
      replace d4 : u4 = _ := d4
      subst d4
      replace d7 : u7 = _ := d7
      subst d7
      go_simp
      exact hK.out _ _ (by first | rfl | simp) (Below.refl _ _)
    refine Jo.jcons (i := 9) (o := ⟨some 72, _, _, _, _, _⟩) (di := some 72) (L := [(some 67, 4), (some 71, 8)]) (f := Jo.Fact.eq (.bool true)) rfl rfl rfl rfl (fun vs wj hJ hd K hK => ?_) ?_
    · have d4 : (Jo.Fact.eq (.bool true)).P (vs 4) wj := hd 4 (by decide)
      have d8 : (Jo.Fact.eq (.bool true)).P (vs 8) wj := hd 8 (by decide)
      clear hd
      simp only [Jo.putl, List.foldl_cons, List.foldl_nil, Act.put, List.setIfInBounds_toArray, List.set_cons_zero, List.set_cons_succ] at hK ⊢
      generalize vs 4 = u4 at hK d4 ⊢
      generalize vs 8 = u8 at hK d8 ⊢
      replace d4 : u4 = _ := d4
      subst d4
      replace d8 : u8 = _ := d8
      subst d8
      go_simp
      exact hK.out _ _ rfl (Below.refl _ _)
    refine Jo.jcons (i := 10) (o := ⟨some 73, _, _, _, _, _⟩) (di := some 73) (L := [(some 72, 9)]) (f := Jo.Fact.eq (.bool true)) rfl rfl rfl rfl (fun vs wj hJ hd K hK => ?_) ?_
    · have d9 : (Jo.Fact.eq (.bool true)).P (vs 9) wj := hd 9 (by decide)
      clear hd
      simp only [Jo.putl, List.foldl_cons, List.foldl_nil, Act.put, List.setIfInBounds_toArray, List.set_cons_zero, List.set_cons_succ] at hK ⊢
      generalize vs 9 = u9 at hK d9 ⊢
      replace d9 : u9 = _ := d9
      subst d9
      go_simp
      exact hK.out _ _ rfl (Below.refl _ _)
    refine Jo.jcons (i := 11) (o := ⟨some 74, _, _, _, _, _⟩) (di := some 74) (L := [(some 73, 10)]) (f := Jo.Fact.eq (.agg #[.bool s0, .slice a0 len0 cap0, .int .i64 e0])) rfl rfl rfl rfl (fun vs wj hJ hd K hK => ?_) ?_
    · have d10 : (Jo.Fact.eq (.bool true)).P (vs 10) wj := hd 10 (by decide)
      clear hd
      simp only [Jo.putl, List.foldl_cons, List.foldl_nil, Act.put, List.setIfInBounds_toArray, List.set_cons_zero, List.set_cons_succ] at hK ⊢
      generalize vs 10 = u10 at hK d10 ⊢
      replace d10 : u10 = _ := d10
      subst d10
      have xX00 : World.cell? wj ⟨w.heap.size, 0, none⟩ = some (.bool s0) := (X0.below hJ).cell 0
      have xX01 : World.cell? wj ⟨w.heap.size, 1, none⟩ = some (.slice a0 len0 cap0) := (X0.below hJ).cell 1
      have xX02 : World.cell? wj ⟨w.heap.size, 2, none⟩ = some (.int .i64 e0) := (X0.below hJ).cell 2
      go_simp
      exact hK.out _ _ rfl (Below.refl _ _)
    refine Jo.jcons (i := 12) (o := ⟨some 75, _, _, _, _, _⟩) (di := some 75) (L := [(some 73, 10)]) (f := Jo.Fact.eq (.agg #[.bool s0, .slice a0 len0 cap0, .int .i64 e0])) rfl rfl rfl rfl (fun vs wj hJ hd K hK => ?_) ?_
    · have d10 : (Jo.Fact.eq (.bool true)).P (vs 10) wj := hd 10 (by decide)
      clear hd
      simp only [Jo.putl, List.foldl_cons, List.foldl_nil, Act.put, List.setIfInBounds_toArray, List.set_cons_zero, List.set_cons_succ] at hK ⊢
      generalize vs 10 = u10 at hK d10 ⊢
      replace d10 : u10 = _ := d10
      subst d10
      have xX00 : World.cell? wj ⟨w.heap.size, 0, none⟩ = some (.bool s0) := (X0.below hJ).cell 0
      have xX01 : World.cell? wj ⟨w.heap.size, 1, none⟩ = some (.slice a0 len0 cap0) := (X0.below hJ).cell 1
      have xX02 : World.cell? wj ⟨w.heap.size, 2, none⟩ = some (.int .i64 e0) := (X0.below hJ).cell 2
      go_simp
      exact hK.out _ _ rfl (Below.refl _ _)
    refine Jo.jcons (i := 13) (o := ⟨some 76, _, _, _, _, _⟩) (di := some 76) (L := [(some 73, 10), (some 74, 11), (some 75, 12)]) (f := Jo.Fact.dy Z.1 Z.2 20000) rfl rfl rfl rfl (fun vs wj hJ hd K hK => ?_) ?_
    · have d10 : (Jo.Fact.eq (.bool true)).P (vs 10) wj := hd 10 (by decide)
      have d11 : (Jo.Fact.eq (.agg #[.bool s0, .slice a0 len0 cap0, .int .i64 e0])).P (vs 11) wj := hd 11 (by decide)
      have d12 : (Jo.Fact.eq (.agg #[.bool s0, .slice a0 len0 cap0, .int .i64 e0])).P (vs 12) wj := hd 12 (by decide)
      clear hd
      simp only [Jo.putl, List.foldl_cons, List.foldl_nil, Act.put, List.setIfInBounds_toArray, List.set_cons_zero, List.set_cons_succ] at hK ⊢
      generalize vs 10 = u10 at hK d10 ⊢
      generalize vs 11 = u11 at hK d11 ⊢
      generalize vs 12 = u12 at hK d12 ⊢
      replace d10 : u10 = _ := d10
      subst d10
      replace d11 : u11 = _ := d11
      subst d11
      replace d12 : u12 = _ := d12
      subst d12
      go_simp
      refine (dSub (hT.below hJ) (h0.below hJ) (h0.below hJ) (by omega) (by omega) (by rw [HP.out]; exact HcZ.out) (by rw [HP.out, HZ.out]) (by rw [HP.out, HZ.out])).mono ?_
      rintro ee wk ⟨s28, A28, n28, c28, rfl, p28, k28, B⟩
      exact hK.out _ _ ⟨s28, A28, n28, c28, rfl, p28, p28.lm HLZ.out⟩ B
    refine Jo.jcons (i := 14) (o := ⟨some 77, _, _, _, _, _⟩) (di := some 77) (L := [(some 73, 10), (some 76, 13)]) (f := Jo.Fact.eq (.int .i64 0)) rfl rfl rfl rfl (fun vs wj hJ hd K hK => ?_) ?_
    · have d10 : (Jo.Fact.eq (.bool true)).P (vs 10) wj := hd 10 (by decide)
      have d13 : (Jo.Fact.dy Z.1 Z.2 20000).P (vs 13) wj := hd 13 (by decide)
      clear hd
      simp only [Jo.putl, List.foldl_cons, List.foldl_nil, Act.put, List.setIfInBounds_toArray, List.set_cons_zero, List.set_cons_succ] at hK ⊢
      generalize vs 10 = u10 at hK d10 ⊢
      generalize vs 13 = u13 at hK d13 ⊢
      replace d10 : u10 = _ := d10
      subst d10
      obtain ⟨s28, A28, n28, c28, rfl, p28, k28⟩ := d13
      go_simp
      refine (dSign (r := 0) (hT.below hJ) p28.wr (by omega) (by rw [HnZ.out]; exact HC3.out)).mono ?_
      rintro ee wk ⟨rfl, B⟩
      exact hK.out _ _ rfl B
    refine Jo.jcons (i := 15) (o := ⟨some 78, _, _, _, _, _⟩) (di := some 78) (L := [(some 73, 10), (some 77, 14)]) (f := Jo.Fact.eq (.bool true)) rfl rfl rfl rfl (fun vs wj hJ hd K hK => ?_) ?_
    · have d10 : (Jo.Fact.eq (.bool true)).P (vs 10) wj := hd 10 (by decide)
      have d14 : (Jo.Fact.eq (.int .i64 0)).P (vs 14) wj := hd 14 (by decide)
      clear hd
      simp only [Jo.putl, List.foldl_cons, List.foldl_nil, Act.put, List.setIfInBounds_toArray, List.set_cons_zero, List.set_cons_succ] at hK ⊢
      generalize vs 10 = u10 at hK d10 ⊢
      generalize vs 14 = u14 at hK d14 ⊢
      replace d10 : u10 = _ := d10
      subst d10
      replace d14 : u14 = _ := d14
      subst d14
      go_simp
      exact hK.out _ _ (by first | rfl | simp) (Below.refl _ _)
    refine Jo.jcons (i := 16) (o := ⟨some 79, _, _, _, _, _⟩) (di := some 79) (L := [(some 73, 10), (some 78, 15)]) (f := Jo.Fact.eq (.bool true)) rfl rfl rfl rfl (fun vs wj hJ hd K hK => ?_) ?_
    · have d10 : (Jo.Fact.eq (.bool true)).P (vs 10) wj := hd 10 (by decide)
      have d15 : (Jo.Fact.eq (.bool true)).P (vs 15) wj := hd 15 (by decide)
      clear hd
      simp only [Jo.putl, List.foldl_cons, List.foldl_nil, Act.put, List.setIfInBounds_toArray, List.set_cons_zero, List.set_cons_succ] at hK ⊢
      generalize vs 10 = u10 at hK d10 ⊢
      generalize vs 15 = u15 at hK d15 ⊢
      replace d10 : u10 = _ := d10
      subst d10
      replace d15 : u15 = _ := d15
      subst d15
      go_simp
      exact hK.out _ _ rfl (Below.refl _ _)
    refine Jo.jcons (i := 17) (o := ⟨some 80, _, _, _, _, _⟩) (di := some 80) (L := [(some 79, 16)]) (f := Jo.Fact.eq (.bool true)) rfl rfl rfl rfl (fun vs wj hJ hd K hK => ?_) ?_
    · have d16 : (Jo.Fact.eq (.bool true)).P (vs 16) wj := hd 16 (by decide)
      clear hd
      simp only [Jo.putl, List.foldl_cons, List.foldl_nil, Act.put, List.setIfInBounds_toArray, List.set_cons_zero, List.set_cons_succ] at hK ⊢
      generalize vs 16 = u16 at hK d16 ⊢
      replace d16 : u16 = _ := d16
      subst d16
      go_simp
      exact hK.out _ _ rfl (Below.refl _ _)
    refine Jo.jcons (i := 18) (o := ⟨some 81, _, _, _, _, _⟩) (di := some 81) (L := [(some 80, 17)]) (f := Jo.Fact.eq (.agg #[.bool s11, .slice A11 n11 c11, .int .i64 X.2])) rfl rfl rfl rfl (fun vs wj hJ hd K hK => ?_) ?_
    · have d17 : (Jo.Fact.eq (.bool true)).P (vs 17) wj := hd 17 (by decide)
      clear hd
      simp only [Jo.putl, List.foldl_cons, List.foldl_nil, Act.put, List.setIfInBounds_toArray, List.set_cons_zero, List.set_cons_succ] at hK ⊢
      generalize vs 17 = u17 at hK d17 ⊢
      replace d17 : u17 = _ := d17
      subst d17
      have xX110 : World.cell? wj ⟨w6.heap.size, 0, none⟩ = some (.bool s11) := (X11.below hJ).cell 0
      have xX111 : World.cell? wj ⟨w6.heap.size, 1, none⟩ = some (.slice A11 n11 c11) := (X11.below hJ).cell 1
      have xX112 : World.cell? wj ⟨w6.heap.size, 2, none⟩ = some (.int .i64 X.2) := (X11.below hJ).cell 2
      go_simp
      exact hK.out _ _ rfl (Below.refl _ _)
    refine Jo.jcons (i := 19) (o := ⟨some 82, _, _, _, _, _⟩) (di := some 82) (L := [(some 80, 17), (some 81, 18)]) (f := Jo.Fact.eq (.bool true)) rfl rfl rfl rfl (fun vs wj hJ hd K hK => ?_) ?_
    · have d17 : (Jo.Fact.eq (.bool true)).P (vs 17) wj := hd 17 (by decide)
      have d18 : (Jo.Fact.eq (.agg #[.bool s11, .slice A11 n11 c11, .int .i64 X.2])).P (vs 18) wj := hd 18 (by decide)
      clear hd
      simp only [Jo.putl, List.foldl_cons, List.foldl_nil, Act.put, List.setIfInBounds_toArray, List.set_cons_zero, List.set_cons_succ] at hK ⊢
      generalize vs 17 = u17 at hK d17 ⊢
      generalize vs 18 = u18 at hK d18 ⊢
      replace d17 : u17 = _ := d17
      subst d17
      replace d18 : u18 = _ := d18
      subst d18
      go_simp
      refine (dMay (r := true) (p11.below hJ).1.rd (mayD_nf (p11.below hJ) HnX.out)).mono ?_
      rintro ee wk ⟨rfl, B⟩
      exact hK.out _ _ rfl B
    refine Jo.jcons (i := 20) (o := ⟨some 83, _, _, _, _, _⟩) (di := some 83) (L := [(some 80, 17), (some 82, 19)]) (f := Jo.Fact.eq (.bool true)) rfl rfl rfl rfl (fun vs wj hJ hd K hK => ?_) ?_
    · have d17 : (Jo.Fact.eq (.bool true)).P (vs 17) wj := hd 17 (by decide)
      have d19 : (Jo.Fact.eq (.bool true)).P (vs 19) wj := hd 19 (by decide)
      clear hd
      simp only [Jo.putl, List.foldl_cons, List.foldl_nil, Act.put, List.setIfInBounds_toArray, List.set_cons_zero, List.set_cons_succ] at hK ⊢
      generalize vs 17 = u17 at hK d17 ⊢
      generalize vs 19 = u19 at hK d19 ⊢
      replace d17 : u17 = _ := d17
      subst d17
      replace d19 : u19 = _ := d19
      subst d19
      go_simp
      exact hK.out _ _ rfl (Below.refl _ _)
    refine Jo.jcons (i := 21) (o := ⟨some 84, _, _, _, _, _⟩) (di := some 84) (L := [(some 83, 20)]) (f := Jo.Fact.eq (.bool true)) rfl rfl rfl rfl (fun vs wj hJ hd K hK => ?_) ?_
    · have d20 : (Jo.Fact.eq (.bool true)).P (vs 20) wj := hd 20 (by decide)
      clear hd
      simp only [Jo.putl, List.foldl_cons, List.foldl_nil, Act.put, List.setIfInBounds_toArray, List.set_cons_zero, List.set_cons_succ] at hK ⊢
      generalize vs 20 = u20 at hK d20 ⊢
      replace d20 : u20 = _ := d20
      subst d20
      go_simp
      exact hK.out _ _ rfl (Below.refl _ _)
    refine Jo.jcons (i := 22) (o := ⟨some 85, _, _, _, _, _⟩) (di := some 85) (L := [(some 84, 21)]) (f := Jo.Fact.eq (.agg #[.bool s13, .slice A13 n13 c13, .int .i64 S.2])) rfl rfl rfl rfl (fun vs wj hJ hd K hK => ?_) ?_
    · have d21 : (Jo.Fact.eq (.bool true)).P (vs 21) wj := hd 21 (by decide)
      clear hd
      simp only [Jo.putl, List.foldl_cons, List.foldl_nil, Act.put, List.setIfInBounds_toArray, List.set_cons_zero, List.set_cons_succ] at hK ⊢
      generalize vs 21 = u21 at hK d21 ⊢
      replace d21 : u21 = _ := d21
      subst d21
      have xX130 : World.cell? wj ⟨g13, 0, none⟩ = some (.bool s13) := (X13.below hJ).cell 0
      have xX131 : World.cell? wj ⟨g13, 1, none⟩ = some (.slice A13 n13 c13) := (X13.below hJ).cell 1
      have xX132 : World.cell? wj ⟨g13, 2, none⟩ = some (.int .i64 S.2) := (X13.below hJ).cell 2
      go_simp
      exact hK.out _ _ rfl (Below.refl _ _)
    refine Jo.jcons (i := 23) (o := ⟨some 86, _, _, _, _, _⟩) (di := some 86) (L := [(some 84, 21), (some 85, 22)]) (f := Jo.Fact.eq (.bool true)) rfl rfl rfl rfl (fun vs wj hJ hd K hK => ?_) ?_
    · have d21 : (Jo.Fact.eq (.bool true)).P (vs 21) wj := hd 21 (by decide)
      have d22 : (Jo.Fact.eq (.agg #[.bool s13, .slice A13 n13 c13, .int .i64 S.2])).P (vs 22) wj := hd 22 (by decide)
      clear hd
      simp only [Jo.putl, List.foldl_cons, List.foldl_nil, Act.put, List.setIfInBounds_toArray, List.set_cons_zero, List.set_cons_succ] at hK ⊢
      generalize vs 21 = u21 at hK d21 ⊢
      generalize vs 22 = u22 at hK d22 ⊢
      replace d21 : u21 = _ := d21
      subst d21
      replace d22 : u22 = _ := d22
      subst d22
      go_simp
      refine (dMay (r := true) (p13.below hJ).1.rd (mayD_nf (p13.below hJ) HnS.out)).mono ?_
      rintro ee wk ⟨rfl, B⟩
      exact hK.out _ _ rfl B
    refine Jo.jcons (i := 24) (o := ⟨some 87, _, _, _, _, _⟩) (di := some 87) (L := [(some 84, 21), (some 86, 23)]) (f := Jo.Fact.eq (.bool true)) rfl rfl rfl rfl (fun vs wj hJ hd K hK => ?_) ?_
    · have d21 : (Jo.Fact.eq (.bool true)).P (vs 21) wj := hd 21 (by decide)
      have d23 : (Jo.Fact.eq (.bool true)).P (vs 23) wj := hd 23 (by decide)
      clear hd
      simp only [Jo.putl, List.foldl_cons, List.foldl_nil, Act.put, List.setIfInBounds_toArray, List.set_cons_zero, List.set_cons_succ] at hK ⊢
      generalize vs 21 = u21 at hK d21 ⊢
      generalize vs 23 = u23 at hK d23 ⊢
      replace d21 : u21 = _ := d21
      subst d21
      replace d23 : u23 = _ := d23
      subst d23
      go_simp
      exact hK.out _ _ rfl (Below.refl _ _)
    refine Jo.jcons (i := 25) (o := ⟨some 88, _, _, _, _, _⟩) (di := some 88) (L := [(some 87, 24)]) (f := Jo.Fact.eq (.bool true)) rfl rfl rfl rfl (fun vs wj hJ hd K hK => ?_) ?_
    · have d24 : (Jo.Fact.eq (.bool true)).P (vs 24) wj := hd 24 (by decide)
      clear hd
      simp only [Jo.putl, List.foldl_cons, List.foldl_nil, Act.put, List.setIfInBounds_toArray, List.set_cons_zero, List.set_cons_succ] at hK ⊢
      generalize vs 24 = u24 at hK d24 ⊢
      replace d24 : u24 = _ := d24
      subst d24
      go_simp
      exact hK.out _ _ rfl (Below.refl _ _)
    refine Jo.jcons (i := 26) (o := ⟨some 89, _, _, _, _, _⟩) (di := some 89) (L := [(some 88, 25)]) (f := Jo.Fact.eq (.agg #[.bool s0, .slice a0 len0 cap0, .int .i64 e0])) rfl rfl rfl rfl (fun vs wj hJ hd K hK => ?_) ?_
    · have d25 : (Jo.Fact.eq (.bool true)).P (vs 25) wj := hd 25 (by decide)
      clear hd
      simp only [Jo.putl, List.foldl_cons, List.foldl_nil, Act.put, List.setIfInBounds_toArray, List.set_cons_zero, List.set_cons_succ] at hK ⊢
      generalize vs 25 = u25 at hK d25 ⊢
      replace d25 : u25 = _ := d25
      subst d25
      have xX00 : World.cell? wj ⟨w.heap.size, 0, none⟩ = some (.bool s0) := (X0.below hJ).cell 0
      have xX01 : World.cell? wj ⟨w.heap.size, 1, none⟩ = some (.slice a0 len0 cap0) := (X0.below hJ).cell 1
      have xX02 : World.cell? wj ⟨w.heap.size, 2, none⟩ = some (.int .i64 e0) := (X0.below hJ).cell 2
      go_simp
      exact hK.out _ _ rfl (Below.refl _ _)
    refine Jo.jcons (i := 27) (o := ⟨some 90, _, _, _, _, _⟩) (di := some 90) (L := [(some 88, 25)]) (f := Jo.Fact.eq (.agg #[.bool s1, .slice a1 len1 cap1, .int .i64 e1])) rfl rfl rfl rfl (fun vs wj hJ hd K hK => ?_) ?_
    · have d25 : (Jo.Fact.eq (.bool true)).P (vs 25) wj := hd 25 (by decide)
      clear hd
      simp only [Jo.putl, List.foldl_cons, List.foldl_nil, Act.put, List.setIfInBounds_toArray, List.set_cons_zero, List.set_cons_succ] at hK ⊢
      generalize vs 25 = u25 at hK d25 ⊢
      replace d25 : u25 = _ := d25
      subst d25
      have xX10 : World.cell? wj ⟨w.heap.size + 1, 0, none⟩ = some (.bool s1) := (X1.below hJ).cell 0
      have xX11 : World.cell? wj ⟨w.heap.size + 1, 1, none⟩ = some (.slice a1 len1 cap1) := (X1.below hJ).cell 1
      have xX12 : World.cell? wj ⟨w.heap.size + 1, 2, none⟩ = some (.int .i64 e1) := (X1.below hJ).cell 2
      go_simp
      exact hK.out _ _ rfl (Below.refl _ _)
    refine Jo.jcons (i := 28) (o := ⟨some 91, _, _, _, _, _⟩) (di := some 91) (L := [(some 88, 25)]) (f := Jo.Fact.eq (.agg #[.bool s2, .slice a2 len2 cap2, .int .i64 e2])) rfl rfl rfl rfl (fun vs wj hJ hd K hK => ?_) ?_
    · have d25 : (Jo.Fact.eq (.bool true)).P (vs 25) wj := hd 25 (by decide)
      clear hd
      simp only [Jo.putl, List.foldl_cons, List.foldl_nil, Act.put, List.setIfInBounds_toArray, List.set_cons_zero, List.set_cons_succ] at hK ⊢
      generalize vs 25 = u25 at hK d25 ⊢
      replace d25 : u25 = _ := d25
      subst d25
      have xX20 : World.cell? wj ⟨w.heap.size + 1 + 1, 0, none⟩ = some (.bool s2) := (X2.below hJ).cell 0
      have xX21 : World.cell? wj ⟨w.heap.size + 1 + 1, 1, none⟩ = some (.slice a2 len2 cap2) := (X2.below hJ).cell 1
      have xX22 : World.cell? wj ⟨w.heap.size + 1 + 1, 2, none⟩ = some (.int .i64 e2) := (X2.below hJ).cell 2
      go_simp
      exact hK.out _ _ rfl (Below.refl _ _)
    refine Jo.jcons (i := 29) (o := ⟨some 92, _, _, _, _, _⟩) (di := some 92) (L := [(some 88, 25), (some 90, 27), (some 91, 28)]) (f := Jo.Fact.dy U1.1 U1.2 20000) rfl rfl rfl rfl (fun vs wj hJ hd K hK => ?_) ?_
    · have d25 : (Jo.Fact.eq (.bool true)).P (vs 25) wj := hd 25 (by decide)
      have d27 : (Jo.Fact.eq (.agg #[.bool s1, .slice a1 len1 cap1, .int .i64 e1])).P (vs 27) wj := hd 27 (by decide)
      have d28 : (Jo.Fact.eq (.agg #[.bool s2, .slice a2 len2 cap2, .int .i64 e2])).P (vs 28) wj := hd 28 (by decide)
      clear hd
      simp only [Jo.putl, List.foldl_cons, List.foldl_nil, Act.put, List.setIfInBounds_toArray, List.set_cons_zero, List.set_cons_succ] at hK ⊢
      generalize vs 25 = u25 at hK d25 ⊢
      generalize vs 27 = u27 at hK d27 ⊢
      generalize vs 28 = u28 at hK d28 ⊢
      replace d25 : u25 = _ := d25
      subst d25
      replace d27 : u27 = _ := d27
      subst d27
      replace d28 : u28 = _ := d28
      subst d28
      go_simp
      refine (dMul (hT.below hJ) (h1.below hJ) (h2.below hJ) (by omega) (by omega) (by rw [HQ.out, HR.out, HU1.out]) (by rw [HQ.out, HR.out, HU1.out])).mono ?_
      rintro ee wk ⟨s29, A29, n29, c29, rfl, p29, k29, B⟩
      exact hK.out _ _ ⟨s29, A29, n29, c29, rfl, p29, p29.lm HLU1.out⟩ B
    refine Jo.jcons (i := 30) (o := ⟨some 93, _, _, _, _, _⟩) (di := some 93) (L := [(some 88, 25), (some 89, 26), (some 92, 29)]) (f := Jo.Fact.dy U.1 U.2 20000) rfl rfl rfl rfl (fun vs wj hJ hd K hK => ?_) ?_
    · have d25 : (Jo.Fact.eq (.bool true)).P (vs 25) wj := hd 25 (by decide)
      have d26 : (Jo.Fact.eq (.agg #[.bool s0, .slice a0 len0 cap0, .int .i64 e0])).P (vs 26) wj := hd 26 (by decide)
      have d29 : (Jo.Fact.dy U1.1 U1.2 20000).P (vs 29) wj := hd 29 (by decide)
      clear hd
      simp only [Jo.putl, List.foldl_cons, List.foldl_nil, Act.put, List.setIfInBounds_toArray, List.set_cons_zero, List.set_cons_succ] at hK ⊢
      generalize vs 25 = u25 at hK d25 ⊢
      generalize vs 26 = u26 at hK d26 ⊢
      generalize vs 29 = u29 at hK d29 ⊢
      replace d25 : u25 = _ := d25
      subst d25
      replace d26 : u26 = _ := d26
      subst d26
      obtain ⟨s29, A29, n29, c29, rfl, p29, k29⟩ := d29
      go_simp
      refine (dMul (hT.below hJ) (h0.below hJ) p29.wr (by omega) (by omega) (by rw [HP.out, HnU1.out, HU.out]) (by rw [HP.out, HnU1.out, HU.out])).mono ?_
      rintro ee wk ⟨s30, A30, n30, c30, rfl, p30, k30, B⟩
      exact hK.out _ _ ⟨s30, A30, n30, c30, rfl, p30, p30.lm HLU.out⟩ B
    refine Jo.jcons (i := 31) (o := ⟨some 94, _, _, _, _, _⟩) (di := some 94) (L := [(some 88, 25)]) (f := Jo.Fact.eq (.agg #[.bool s0, .slice a0 len0 cap0, .int .i64 e0])) rfl rfl rfl rfl (fun vs wj hJ hd K hK => ?_) ?_
    · have d25 : (Jo.Fact.eq (.bool true)).P (vs 25) wj := hd 25 (by decide)
      clear hd
      simp only [Jo.putl, List.foldl_cons, List.foldl_nil, Act.put, List.setIfInBounds_toArray, List.set_cons_zero, List.set_cons_succ] at hK ⊢
      generalize vs 25 = u25 at hK d25 ⊢
      replace d25 : u25 = _ := d25
      subst d25
      have xX00 : World.cell? wj ⟨w.heap.size, 0, none⟩ = some (.bool s0) := (X0.below hJ).cell 0
      have xX01 : World.cell? wj ⟨w.heap.size, 1, none⟩ = some (.slice a0 len0 cap0) := (X0.below hJ).cell 1
      have xX02 : World.cell? wj ⟨w.heap.size, 2, none⟩ = some (.int .i64 e0) := (X0.below hJ).cell 2
      go_simp
      exact hK.out _ _ rfl (Below.refl _ _)
    refine Jo.jcons (i := 32) (o := ⟨some 95, _, _, _, _, _⟩) (di := some 95) (L := [(some 88, 25)]) (f := Jo.Fact.eq (.agg #[.bool s1, .slice a1 len1 cap1, .int .i64 e1])) rfl rfl rfl rfl (fun vs wj hJ hd K hK => ?_) ?_
    · have d25 : (Jo.Fact.eq (.bool true)).P (vs 25) wj := hd 25 (by decide)
      clear hd
      simp only [Jo.putl, List.foldl_cons, List.foldl_nil, Act.put, List.setIfInBounds_toArray, List.set_cons_zero, List.set_cons_succ] at hK ⊢
      generalize vs 25 = u25 at hK d25 ⊢
      replace d25 : u25 = _ := d25
      subst d25
      have xX10 : World.cell? wj ⟨w.heap.size + 1, 0, none⟩ = some (.bool s1) := (X1.below hJ).cell 0
      have xX11 : World.cell? wj ⟨w.heap.size + 1, 1, none⟩ = some (.slice a1 len1 cap1) := (X1.below hJ).cell 1
      have xX12 : World.cell? wj ⟨w.heap.size + 1, 2, none⟩ = some (.int .i64 e1) := (X1.below hJ).cell 2
      go_simp
      exact hK.out _ _ rfl (Below.refl _ _)
    refine Jo.jcons (i := 33) (o := ⟨some 96, _, _, _, _, _⟩) (di := some 96) (L := [(some 88, 25), (some 94, 31), (some 95, 32)]) (f := Jo.Fact.dy T1.1 T1.2 20000) rfl rfl rfl rfl (fun vs wj hJ hd K hK => ?_) ?_
    · have d25 : (Jo.Fact.eq (.bool true)).P (vs 25) wj := hd 25 (by decide)
      have d31 : (Jo.Fact.eq (.agg #[.bool s0, .slice a0 len0 cap0, .int .i64 e0])).P (vs 31) wj := hd 31 (by decide)
      have d32 : (Jo.Fact.eq (.agg #[.bool s1, .slice a1 len1 cap1, .int .i64 e1])).P (vs 32) wj := hd 32 (by decide)
      clear hd
      simp only [Jo.putl, List.foldl_cons, List.foldl_nil, Act.put, List.setIfInBounds_toArray, List.set_cons_zero, List.set_cons_succ] at hK ⊢
      generalize vs 25 = u25 at hK d25 ⊢
      generalize vs 31 = u31 at hK d31 ⊢
      generalize vs 32 = u32 at hK d32 ⊢
      replace d25 : u25 = _ := d25
      subst d25
      replace d31 : u31 = _ := d31
      subst d31
      replace d32 : u32 = _ := d32
      subst d32
      go_simp
      refine (dMul (hT.below hJ) (h0.below hJ) (h1.below hJ) (by omega) (by omega) (by rw [HP.out, HQ.out, HT1.out]) (by rw [HP.out, HQ.out, HT1.out])).mono ?_
      rintro ee wk ⟨s31, A31, n31, c31, rfl, p31, k31, B⟩
      exact hK.out _ _ ⟨s31, A31, n31, c31, rfl, p31, p31.lm HLT1.out⟩ B
    refine Jo.jcons (i := 34) (o := ⟨some 97, _, _, _, _, _⟩) (di := some 97) (L := [(some 88, 25)]) (f := Jo.Fact.eq (.agg #[.bool s2, .slice a2 len2 cap2, .int .i64 e2])) rfl rfl rfl rfl (fun vs wj hJ hd K hK => ?_) ?_
    · have d25 : (Jo.Fact.eq (.bool true)).P (vs 25) wj := hd 25 (by decide)
      clear hd
      simp only [Jo.putl, List.foldl_cons, List.foldl_nil, Act.put, List.setIfInBounds_toArray, List.set_cons_zero, List.set_cons_succ] at hK ⊢
      generalize vs 25 = u25 at hK d25 ⊢
      replace d25 : u25 = _ := d25
      subst d25
      have xX20 : World.cell? wj ⟨w.heap.size + 1 + 1, 0, none⟩ = some (.bool s2) := (X2.below hJ).cell 0
      have xX21 : World.cell? wj ⟨w.heap.size + 1 + 1, 1, none⟩ = some (.slice a2 len2 cap2) := (X2.below hJ).cell 1
      have xX22 : World.cell? wj ⟨w.heap.size + 1 + 1, 2, none⟩ = some (.int .i64 e2) := (X2.below hJ).cell 2
      go_simp
      exact hK.out _ _ rfl (Below.refl _ _)
    refine Jo.jcons (i := 35) (o := ⟨some 98, _, _, _, _, _⟩) (di := some 98) (L := [(some 88, 25), (some 96, 33), (some 97, 34)]) (f := Jo.Fact.dy W.1 W.2 20000) rfl rfl rfl rfl (fun vs wj hJ hd K hK => ?_) ?_
    · have d25 : (Jo.Fact.eq (.bool true)).P (vs 25) wj := hd 25 (by decide)
      have d33 : (Jo.Fact.dy T1.1 T1.2 20000).P (vs 33) wj := hd 33 (by decide)
      have d34 : (Jo.Fact.eq (.agg #[.bool s2, .slice a2 len2 cap2, .int .i64 e2])).P (vs 34) wj := hd 34 (by decide)
      clear hd
      simp only [Jo.putl, List.foldl_cons, List.foldl_nil, Act.put, List.setIfInBounds_toArray, List.set_cons_zero, List.set_cons_succ] at hK ⊢
      generalize vs 25 = u25 at hK d25 ⊢
      generalize vs 33 = u33 at hK d33 ⊢
      generalize vs 34 = u34 at hK d34 ⊢
      replace d25 : u25 = _ := d25
      subst d25
      obtain ⟨s31, A31, n31, c31, rfl, p31, k31⟩ := d33
      replace d34 : u34 = _ := d34
      subst d34
      go_simp
      refine (dMul (hT.below hJ) p31.wr (h2.below hJ) (by omega) (by omega) (by rw [HnT1.out, HR.out, HW.out]) (by rw [HnT1.out, HR.out, HW.out])).mono ?_
      rintro ee wk ⟨s32, A32, n32, c32, rfl, p32, k32, B⟩
      exact hK.out _ _ ⟨s32, A32, n32, c32, rfl, p32, p32.lm HLW.out⟩ B
    refine Jo.jcons (i := 36) (o := ⟨some 99, _, _, _, _, _⟩) (di := some 99) (L := [(some 88, 25), (some 93, 30), (some 98, 35)]) (f := Jo.Fact.eq (.int .i64 0)) rfl rfl rfl rfl (fun vs wj hJ hd K hK => ?_) ?_
    · have d25 : (Jo.Fact.eq (.bool true)).P (vs 25) wj := hd 25 (by decide)
      have d30 : (Jo.Fact.dy U.1 U.2 20000).P (vs 30) wj := hd 30 (by decide)
      have d35 : (Jo.Fact.dy W.1 W.2 20000).P (vs 35) wj := hd 35 (by decide)
      clear hd
      simp only [Jo.putl, List.foldl_cons, List.foldl_nil, Act.put, List.setIfInBounds_toArray, List.set_cons_zero, List.set_cons_succ] at hK ⊢
      generalize vs 25 = u25 at hK d25 ⊢
      generalize vs 30 = u30 at hK d30 ⊢
      generalize vs 35 = u35 at hK d35 ⊢
      replace d25 : u25 = _ := d25
      subst d25
      obtain ⟨s30, A30, n30, c30, rfl, p30, k30⟩ := d30
      obtain ⟨s32, A32, n32, c32, rfl, p32, k32⟩ := d35
      go_simp
      refine (dCmp (r := 0) (hT.below hJ) p30.wr p32.wr (by omega) (by omega) (by rw [HnU.out, HnW.out]; exact HC4.out)).mono ?_
      rintro ee wk ⟨rfl, B⟩
      exact hK.out _ _ rfl B
    refine Jo.jcons (i := 37) (o := ⟨some 100, _, _, _, _, _⟩) (di := some 100) (L := [(some 88, 25), (some 99, 36)]) (f := Jo.Fact.eq (.bool true)) rfl rfl rfl rfl (fun vs wj hJ hd K hK => ?_) ?_
    · have d25 : (Jo.Fact.eq (.bool true)).P (vs 25) wj := hd 25 (by decide)
      have d36 : (Jo.Fact.eq (.int .i64 0)).P (vs 36) wj := hd 36 (by decide)
      clear hd
      simp only [Jo.putl, List.foldl_cons, List.foldl_nil, Act.put, List.setIfInBounds_toArray, List.set_cons_zero, List.set_cons_succ] at hK ⊢
      generalize vs 25 = u25 at hK d25 ⊢
      generalize vs 36 = u36 at hK d36 ⊢
      replace d25 : u25 = _ := d25
      subst d25
      replace d36 : u36 = _ := d36
      subst d36
      go_simp
      exact hK.out _ _ (by first | rfl | simp) (Below.refl _ _)
    refine Jo.jcons (i := 38) (o := ⟨some 101, _, _, _, _, _⟩) (di := some 101) (L := [(some 88, 25), (some 100, 37)]) (f := Jo.Fact.eq (.bool true)) rfl rfl rfl rfl (fun vs wj hJ hd K hK => ?_) ?_
    · have d25 : (Jo.Fact.eq (.bool true)).P (vs 25) wj := hd 25 (by decide)
      have d37 : (Jo.Fact.eq (.bool true)).P (vs 37) wj := hd 37 (by decide)
      clear hd
      simp only [Jo.putl, List.foldl_cons, List.foldl_nil, Act.put, List.setIfInBounds_toArray, List.set_cons_zero, List.set_cons_succ] at hK ⊢
      generalize vs 25 = u25 at hK d25 ⊢
      generalize vs 37 = u37 at hK d37 ⊢
      replace d25 : u25 = _ := d25
      subst d25
      replace d37 : u37 = _ := d37
      subst d37
      go_simp
      exact hK.out _ _ rfl (Below.refl _ _)
    refine Jo.jcons (i := 39) (o := ⟨some 6, _, _, _, _, _⟩) (di := some 6) (L := [(some 101, 38)]) (f := Jo.Fact.eq (.bool true)) rfl rfl rfl rfl (fun vs wj hJ hd K hK => ?_) ?_
    · have d38 : (Jo.Fact.eq (.bool true)).P (vs 38) wj := hd 38 (by decide)
      clear hd
      simp only [Jo.putl, List.foldl_cons, List.foldl_nil, Act.put, List.setIfInBounds_toArray, List.set_cons_zero, List.set_cons_succ] at hK ⊢
      generalize vs 38 = u38 at hK d38 ⊢
      replace d38 : u38 = _ := d38
      subst d38
      go_simp
      exact hK.out _ _ rfl (Below.refl _ _)
    exact Jo.Steps.nil
  have d0 : (Jo.Fact.eq (.agg #[.bool s11, .slice A11 n11 c11, .int .i64 X.2])).P (vs 0) w15 := hd 0 (by decide)
  have d1 : (Jo.Fact.eq (.agg #[.bool s12, .slice A12 n12 c12, .int .i64 Y.2])).P (vs 1) w15 := hd 1 (by decide)
  have d2 : (Jo.Fact.eq (.int .i64 0)).P (vs 2) w15 := hd 2 (by decide)
  have d3 : (Jo.Fact.eq (.bool true)).P (vs 3) w15 := hd 3 (by decide)
  have d4 : (Jo.Fact.eq (.bool true)).P (vs 4) w15 := hd 4 (by decide)
  have d5 : (Jo.Fact.eq (.agg #[.bool s13, .slice A13 n13 c13, .int .i64 S.2])).P (vs 5) w15 := hd 5 (by decide)
  have d6 : (Jo.Fact.eq (.agg #[.bool s14, .slice A14 n14 c14, .int .i64 T.2])).P (vs 6) w15 := hd 6 (by decide)
  have d7 : (Jo.Fact.eq (.int .i64 0)).P (vs 7) w15 := hd 7 (by decide)
  have d8 : (Jo.Fact.eq (.bool true)).P (vs 8) w15 := hd 8 (by decide)
  have d9 : (Jo.Fact.eq (.bool true)).P (vs 9) w15 := hd 9 (by decide)
  have d10 : (Jo.Fact.eq (.bool true)).P (vs 10) w15 := hd 10 (by decide)
  have d11 : (Jo.Fact.eq (.agg #[.bool s0, .slice a0 len0 cap0, .int .i64 e0])).P (vs 11) w15 := hd 11 (by decide)
  have d12 : (Jo.Fact.eq (.agg #[.bool s0, .slice a0 len0 cap0, .int .i64 e0])).P (vs 12) w15 := hd 12 (by decide)
  have d13 : (Jo.Fact.dy Z.1 Z.2 20000).P (vs 13) w15 := hd 13 (by decide)
  have d14 : (Jo.Fact.eq (.int .i64 0)).P (vs 14) w15 := hd 14 (by decide)
  have d15 : (Jo.Fact.eq (.bool true)).P (vs 15) w15 := hd 15 (by decide)
  have d16 : (Jo.Fact.eq (.bool true)).P (vs 16) w15 := hd 16 (by decide)
  have d17 : (Jo.Fact.eq (.bool true)).P (vs 17) w15 := hd 17 (by decide)
  have d18 : (Jo.Fact.eq (.agg #[.bool s11, .slice A11 n11 c11, .int .i64 X.2])).P (vs 18) w15 := hd 18 (by decide)
  have d19 : (Jo.Fact.eq (.bool true)).P (vs 19) w15 := hd 19 (by decide)
  have d20 : (Jo.Fact.eq (.bool true)).P (vs 20) w15 := hd 20 (by decide)
  have d21 : (Jo.Fact.eq (.bool true)).P (vs 21) w15 := hd 21 (by decide)
  have d22 : (Jo.Fact.eq (.agg #[.bool s13, .slice A13 n13 c13, .int .i64 S.2])).P (vs 22) w15 := hd 22 (by decide)
  have d23 : (Jo.Fact.eq (.bool true)).P (vs 23) w15 := hd 23 (by decide)
  have d24 : (Jo.Fact.eq (.bool true)).P (vs 24) w15 := hd 24 (by decide)
  have d25 : (Jo.Fact.eq (.bool true)).P (vs 25) w15 := hd 25 (by decide)
  have d26 : (Jo.Fact.eq (.agg #[.bool s0, .slice a0 len0 cap0, .int .i64 e0])).P (vs 26) w15 := hd 26 (by decide)
  have d27 : (Jo.Fact.eq (.agg #[.bool s1, .slice a1 len1 cap1, .int .i64 e1])).P (vs 27) w15 := hd 27 (by decide)
  have d28 : (Jo.Fact.eq (.agg #[.bool s2, .slice a2 len2 cap2, .int .i64 e2])).P (vs 28) w15 := hd 28 (by decide)
  have d29 : (Jo.Fact.dy U1.1 U1.2 20000).P (vs 29) w15 := hd 29 (by decide)
  have d30 : (Jo.Fact.dy U.1 U.2 20000).P (vs 30) w15 := hd 30 (by decide)
  have d31 : (Jo.Fact.eq (.agg #[.bool s0, .slice a0 len0 cap0, .int .i64 e0])).P (vs 31) w15 := hd 31 (by decide)
  have d32 : (Jo.Fact.eq (.agg #[.bool s1, .slice a1 len1 cap1, .int .i64 e1])).P (vs 32) w15 := hd 32 (by decide)
  have d33 : (Jo.Fact.dy T1.1 T1.2 20000).P (vs 33) w15 := hd 33 (by decide)
  have d34 : (Jo.Fact.eq (.agg #[.bool s2, .slice a2 len2 cap2, .int .i64 e2])).P (vs 34) w15 := hd 34 (by decide)
  have d35 : (Jo.Fact.dy W.1 W.2 20000).P (vs 35) w15 := hd 35 (by decide)
  have d36 : (Jo.Fact.eq (.int .i64 0)).P (vs 36) w15 := hd 36 (by decide)
  have d37 : (Jo.Fact.eq (.bool true)).P (vs 37) w15 := hd 37 (by decide)
  have d38 : (Jo.Fact.eq (.bool true)).P (vs 38) w15 := hd 38 (by decide)
  have d39 : (Jo.Fact.eq (.bool true)).P (vs 39) w15 := hd 39 (by decide)
  clear hd
  simp only [Jo.putl, List.foldl_cons, List.foldl_nil, Act.put, List.setIfInBounds_toArray, List.set_cons_zero, List.set_cons_succ]
  generalize vs 0 = u0 at d0 ⊢
  generalize vs 1 = u1 at d1 ⊢
  generalize vs 2 = u2 at d2 ⊢
  generalize vs 3 = u3 at d3 ⊢
  generalize vs 4 = u4 at d4 ⊢
  generalize vs 5 = u5 at d5 ⊢
  generalize vs 6 = u6 at d6 ⊢
  generalize vs 7 = u7 at d7 ⊢
  generalize vs 8 = u8 at d8 ⊢
  generalize vs 9 = u9 at d9 ⊢
  generalize vs 10 = u10 at d10 ⊢
  generalize vs 11 = u11 at d11 ⊢
  generalize vs 12 = u12 at d12 ⊢
  generalize vs 13 = u13 at d13 ⊢
  generalize vs 14 = u14 at d14 ⊢
  generalize vs 15 = u15 at d15 ⊢
  generalize vs 16 = u16 at d16 ⊢
  generalize vs 17 = u17 at d17 ⊢
  generalize vs 18 = u18 at d18 ⊢
  generalize vs 19 = u19 at d19 ⊢
  generalize vs 20 = u20 at d20 ⊢
  generalize vs 21 = u21 at d21 ⊢
  generalize vs 22 = u22 at d22 ⊢
  generalize vs 23 = u23 at d23 ⊢
  generalize vs 24 = u24 at d24 ⊢
  generalize vs 25 = u25 at d25 ⊢
  generalize vs 26 = u26 at d26 ⊢
  generalize vs 27 = u27 at d27 ⊢
  generalize vs 28 = u28 at d28 ⊢
  generalize vs 29 = u29 at d29 ⊢
  generalize vs 30 = u30 at d30 ⊢
  generalize vs 31 = u31 at d31 ⊢
  generalize vs 32 = u32 at d32 ⊢
  generalize vs 33 = u33 at d33 ⊢
  generalize vs 34 = u34 at d34 ⊢
  generalize vs 35 = u35 at d35 ⊢
  generalize vs 36 = u36 at d36 ⊢
  generalize vs 37 = u37 at d37 ⊢
  generalize vs 38 = u38 at d38 ⊢
  generalize vs 39 = u39 at d39 ⊢
  clear vs
  replace d0 : u0 = _ := d0
  subst d0
  replace d1 : u1 = _ := d1
  subst d1
  replace d2 : u2 = _ := d2
  subst d2
  replace d3 : u3 = _ := d3
  subst d3
  replace d4 : u4 = _ := d4
  subst d4
  replace d5 : u5 = _ := d5
  subst d5
  replace d6 : u6 = _ := d6
  subst d6
  replace d7 : u7 = _ := d7
  subst d7
  replace d8 : u8 = _ := d8
  subst d8
  replace d9 : u9 = _ := d9
  subst d9
  replace d10 : u10 = _ := d10
  subst d10
  replace d11 : u11 = _ := d11
  subst d11
  replace d12 : u12 = _ := d12
  subst d12
  obtain ⟨s28, A28, n28, c28, rfl, _, _⟩ := d13
  replace d14 : u14 = _ := d14
  subst d14
  replace d15 : u15 = _ := d15
  subst d15
  replace d16 : u16 = _ := d16
  subst d16
  replace d17 : u17 = _ := d17
  subst d17
  replace d18 : u18 = _ := d18
  subst d18
  replace d19 : u19 = _ := d19
  subst d19
  replace d20 : u20 = _ := d20
  subst d20
  replace d21 : u21 = _ := d21
  subst d21
  replace d22 : u22 = _ := d22
  subst d22
  replace d23 : u23 = _ := d23
  subst d23
  replace d24 : u24 = _ := d24
  subst d24
  replace d25 : u25 = _ := d25
  subst d25
  replace d26 : u26 = _ := d26
  subst d26
  replace d27 : u27 = _ := d27
  subst d27
  replace d28 : u28 = _ := d28
  subst d28
  obtain ⟨s29, A29, n29, c29, rfl, _, _⟩ := d29
  obtain ⟨s30, A30, n30, c30, rfl, _, _⟩ := d30
  replace d31 : u31 = _ := d31
  subst d31
  replace d32 : u32 = _ := d32
  subst d32
  obtain ⟨s31, A31, n31, c31, rfl, _, _⟩ := d33
  replace d34 : u34 = _ := d34
  subst d34
  obtain ⟨s32, A32, n32, c32, rfl, _, _⟩ := d35
  replace d36 : u36 = _ := d36
  subst d36
  replace d37 : u37 = _ := d37
  subst d37
  replace d38 : u38 = _ := d38
  subst d38
  replace d39 : u39 = _ := d39
  subst d39
  replace X0 := X0.below hJ
  replace X1 := X1.below hJ
  replace X2 := X2.below hJ
  replace X11 := X11.below hJ
  replace X12 := X12.below hJ
  replace X13 := X13.below hJ
  replace X14 := X14.below hJ
  replace hT := hT.below hJ
  replace h0 := h0.below hJ
  replace h1 := h1.below hJ
  replace h2 := h2.below hJ
  replace p11 := p11.below hJ
  replace p12 := p12.below hJ
  replace p13 := p13.below hJ
  replace p14 := p14.below hJ
  replace HB := Lib.hid (bt HB.out hJ)
  refine Jo.jdone (by kernel_rfl) ?_
  go_wp2
  go_ret
  exact ⟨rfl, HB.out⟩

set_option maxHeartbeats 4000000 in
theorem dyRing_far0 (s0 : Bool) (a0 : Option Addr) (len0 cap0 : Nat) (e0 : Int) (s1 : Bool) (a1 : Option Addr) (len1 cap1 : Nat) (e1 : Int) (s2 : Bool) (a2 : Option Addr) (len2 cap2 : Nat) (e2 : Int) (w : World) (hT : Tab w) (q r : Bool) (f0 : fewB len0 e0 = false) (f1 : fewB len1 e1 = q) (f2 : fewB len2 e2 = r) :
    Calls Tryd.prog 5 #[.agg #[.bool s0, .slice a0 len0 cap0, .int .i64 e0], .agg #[.bool s1, .slice a1 len1 cap1, .int .i64 e1], .agg #[.bool s2, .slice a2 len2 cap2, .int .i64 e2]] w (PB w true) := by
  have HF0 := Lib.hid f0
  have HF1 := Lib.hid f1
  have HF2 := Lib.hid f2
  clear f0 f1 f2
  go_enter Tryd.func5, Tryd.ntmps5
  go_upto_region 1 with (fail)
  have X0 := (Bo.newAt w (g := w.heap.size) (by simp) #[.bool s0, .slice a0 len0 cap0, .int .i64 e0] 27).below (bel2 _ (.cells #[.bool s1, .slice a1 len1 cap1, .int .i64 e1] 27) (.cells #[.bool s2, .slice a2 len2 cap2, .int .i64 e2] 27))
  have X1 := (Bo.newAt (w.alloc (.cells #[.bool s0, .slice a0 len0 cap0, .int .i64 e0] 27)) (g := w.heap.size + 1) (by simp) #[.bool s1, .slice a1 len1 cap1, .int .i64 e1] 27).below (bel1 _ (.cells #[.bool s2, .slice a2 len2 cap2, .int .i64 e2] 27))
  have X2 := (Bo.newAt ((w.alloc (.cells #[.bool s0, .slice a0 len0 cap0, .int .i64 e0] 27)).alloc (.cells #[.bool s1, .slice a1 len1 cap1, .int .i64 e1] 27)) (g := w.heap.size + 1 + 1) (by simp) #[.bool s2, .slice a2 len2 cap2, .int .i64 e2] 27)
  have HB := Lib.hid (bel3 w (.cells #[.bool s0, .slice a0 len0 cap0, .int .i64 e0] 27) (.cells #[.bool s1, .slice a1 len1 cap1, .int .i64 e1] 27) (.cells #[.bool s2, .slice a2 len2 cap2, .int .i64 e2] 27))
  replace hT := hT.below HB.out
  generalize hW1 : (((w.alloc (.cells #[.bool s0, .slice a0 len0 cap0, .int .i64 e0] 27)).alloc (.cells #[.bool s1, .slice a1 len1 cap1, .int .i64 e1] 27)).alloc (.cells #[.bool s2, .slice a2 len2 cap2, .int .i64 e2] 27)) = w1 at *
  clear hW1
  go_wp2_with fail
  refine (awake3 _ hT).mono ?_
  rintro ee w2 ⟨rfl, B⟩
  replace X0 := X0.below B
  replace X1 := X1.below B
  replace X2 := X2.below B
  replace hT := hT.below B
  replace HB := Lib.hid (bt HB.out B)
  clear B
  have xX00 := X0.at (i := 0) (v := .bool s0) rfl
  have xX01 := X0.at (i := 1) (v := .slice a0 len0 cap0) rfl
  have xX02 := X0.at (i := 2) (v := .int .i64 e0) rfl
  go_wp2_with fail
  refine (few3E _ HF0.out).mono ?_
  rintro ee w3 ⟨rfl, B⟩
  clear xX00 xX01 xX02
  replace X0 := X0.below B
  replace X1 := X1.below B
  replace X2 := X2.below B
  replace hT := hT.below B
  replace HB := Lib.hid (bt HB.out B)
  clear B
  have xX10 := X1.at (i := 0) (v := .bool s1) rfl
  have xX11 := X1.at (i := 1) (v := .slice a1 len1 cap1) rfl
  have xX12 := X1.at (i := 2) (v := .int .i64 e1) rfl
  go_wp2_with fail
  refine (few3E _ HF1.out).mono ?_
  rintro ee w4 ⟨rfl, B⟩
  clear xX10 xX11 xX12
  replace X0 := X0.below B
  replace X1 := X1.below B
  replace X2 := X2.below B
  replace hT := hT.below B
  replace HB := Lib.hid (bt HB.out B)
  clear B
  have xX20 := X2.at (i := 0) (v := .bool s2) rfl
  have xX21 := X2.at (i := 1) (v := .slice a2 len2 cap2) rfl
  have xX22 := X2.at (i := 2) (v := .int .i64 e2) rfl
  go_wp2_with fail
  refine (few3E _ HF2.out).mono ?_
  rintro ee w5 ⟨rfl, B⟩
  clear xX20 xX21 xX22
  replace X0 := X0.below B
  replace X1 := X1.below B
  replace X2 := X2.below B
  replace hT := hT.below B
  replace HB := Lib.hid (bt HB.out B)
  clear B
  go_wp2
  go_ret
  exact ⟨rfl, HB.out⟩

set_option maxHeartbeats 4000000 in
theorem dyRing_far1 (s0 : Bool) (a0 : Option Addr) (len0 cap0 : Nat) (e0 : Int) (s1 : Bool) (a1 : Option Addr) (len1 cap1 : Nat) (e1 : Int) (s2 : Bool) (a2 : Option Addr) (len2 cap2 : Nat) (e2 : Int) (w : World) (hT : Tab w) (r : Bool) (f0 : fewB len0 e0 = true) (f1 : fewB len1 e1 = false) (f2 : fewB len2 e2 = r) :
    Calls Tryd.prog 5 #[.agg #[.bool s0, .slice a0 len0 cap0, .int .i64 e0], .agg #[.bool s1, .slice a1 len1 cap1, .int .i64 e1], .agg #[.bool s2, .slice a2 len2 cap2, .int .i64 e2]] w (PB w true) := by
  have HF0 := Lib.hid f0
  have HF1 := Lib.hid f1
  have HF2 := Lib.hid f2
  clear f0 f1 f2
  go_enter Tryd.func5, Tryd.ntmps5
  go_upto_region 1 with (fail)
  have X0 := (Bo.newAt w (g := w.heap.size) (by simp) #[.bool s0, .slice a0 len0 cap0, .int .i64 e0] 27).below (bel2 _ (.cells #[.bool s1, .slice a1 len1 cap1, .int .i64 e1] 27) (.cells #[.bool s2, .slice a2 len2 cap2, .int .i64 e2] 27))
  have X1 := (Bo.newAt (w.alloc (.cells #[.bool s0, .slice a0 len0 cap0, .int .i64 e0] 27)) (g := w.heap.size + 1) (by simp) #[.bool s1, .slice a1 len1 cap1, .int .i64 e1] 27).below (bel1 _ (.cells #[.bool s2, .slice a2 len2 cap2, .int .i64 e2] 27))
  have X2 := (Bo.newAt ((w.alloc (.cells #[.bool s0, .slice a0 len0 cap0, .int .i64 e0] 27)).alloc (.cells #[.bool s1, .slice a1 len1 cap1, .int .i64 e1] 27)) (g := w.heap.size + 1 + 1) (by simp) #[.bool s2, .slice a2 len2 cap2, .int .i64 e2] 27)
  have HB := Lib.hid (bel3 w (.cells #[.bool s0, .slice a0 len0 cap0, .int .i64 e0] 27) (.cells #[.bool s1, .slice a1 len1 cap1, .int .i64 e1] 27) (.cells #[.bool s2, .slice a2 len2 cap2, .int .i64 e2] 27))
  replace hT := hT.below HB.out
  generalize hW1 : (((w.alloc (.cells #[.bool s0, .slice a0 len0 cap0, .int .i64 e0] 27)).alloc (.cells #[.bool s1, .slice a1 len1 cap1, .int .i64 e1] 27)).alloc (.cells #[.bool s2, .slice a2 len2 cap2, .int .i64 e2] 27)) = w1 at *
  clear hW1
  go_wp2_with fail
  refine (awake3 _ hT).mono ?_
  rintro ee w2 ⟨rfl, B⟩
  replace X0 := X0.below B
  replace X1 := X1.below B
  replace X2 := X2.below B
  replace hT := hT.below B
  replace HB := Lib.hid (bt HB.out B)
  clear B
  have xX00 := X0.at (i := 0) (v := .bool s0) rfl
  have xX01 := X0.at (i := 1) (v := .slice a0 len0 cap0) rfl
  have xX02 := X0.at (i := 2) (v := .int .i64 e0) rfl
  go_wp2_with fail
  refine (few3E _ HF0.out).mono ?_
  rintro ee w3 ⟨rfl, B⟩
  clear xX00 xX01 xX02
  replace X0 := X0.below B
  replace X1 := X1.below B
  replace X2 := X2.below B
  replace hT := hT.below B
  replace HB := Lib.hid (bt HB.out B)
  clear B
  have xX10 := X1.at (i := 0) (v := .bool s1) rfl
  have xX11 := X1.at (i := 1) (v := .slice a1 len1 cap1) rfl
  have xX12 := X1.at (i := 2) (v := .int .i64 e1) rfl
  go_wp2_with fail
  refine (few3E _ HF1.out).mono ?_
  rintro ee w4 ⟨rfl, B⟩
  clear xX10 xX11 xX12
  replace X0 := X0.below B
  replace X1 := X1.below B
  replace X2 := X2.below B
  replace hT := hT.below B
  replace HB := Lib.hid (bt HB.out B)
  clear B
  have xX20 := X2.at (i := 0) (v := .bool s2) rfl
  have xX21 := X2.at (i := 1) (v := .slice a2 len2 cap2) rfl
  have xX22 := X2.at (i := 2) (v := .int .i64 e2) rfl
  go_wp2_with fail
  refine (few3E _ HF2.out).mono ?_
  rintro ee w5 ⟨rfl, B⟩
  clear xX20 xX21 xX22
  replace X0 := X0.below B
  replace X1 := X1.below B
  replace X2 := X2.below B
  replace hT := hT.below B
  replace HB := Lib.hid (bt HB.out B)
  clear B
  go_wp2
  go_ret
  exact ⟨rfl, HB.out⟩

set_option maxHeartbeats 4000000 in
theorem dyRing_far2 (s0 : Bool) (a0 : Option Addr) (len0 cap0 : Nat) (e0 : Int) (s1 : Bool) (a1 : Option Addr) (len1 cap1 : Nat) (e1 : Int) (s2 : Bool) (a2 : Option Addr) (len2 cap2 : Nat) (e2 : Int) (w : World) (hT : Tab w) (f0 : fewB len0 e0 = true) (f1 : fewB len1 e1 = true) (f2 : fewB len2 e2 = false) :
    Calls Tryd.prog 5 #[.agg #[.bool s0, .slice a0 len0 cap0, .int .i64 e0], .agg #[.bool s1, .slice a1 len1 cap1, .int .i64 e1], .agg #[.bool s2, .slice a2 len2 cap2, .int .i64 e2]] w (PB w true) := by
  have HF0 := Lib.hid f0
  have HF1 := Lib.hid f1
  have HF2 := Lib.hid f2
  clear f0 f1 f2
  go_enter Tryd.func5, Tryd.ntmps5
  go_upto_region 1 with (fail)
  have X0 := (Bo.newAt w (g := w.heap.size) (by simp) #[.bool s0, .slice a0 len0 cap0, .int .i64 e0] 27).below (bel2 _ (.cells #[.bool s1, .slice a1 len1 cap1, .int .i64 e1] 27) (.cells #[.bool s2, .slice a2 len2 cap2, .int .i64 e2] 27))
  have X1 := (Bo.newAt (w.alloc (.cells #[.bool s0, .slice a0 len0 cap0, .int .i64 e0] 27)) (g := w.heap.size + 1) (by simp) #[.bool s1, .slice a1 len1 cap1, .int .i64 e1] 27).below (bel1 _ (.cells #[.bool s2, .slice a2 len2 cap2, .int .i64 e2] 27))
  have X2 := (Bo.newAt ((w.alloc (.cells #[.bool s0, .slice a0 len0 cap0, .int .i64 e0] 27)).alloc (.cells #[.bool s1, .slice a1 len1 cap1, .int .i64 e1] 27)) (g := w.heap.size + 1 + 1) (by simp) #[.bool s2, .slice a2 len2 cap2, .int .i64 e2] 27)
  have HB := Lib.hid (bel3 w (.cells #[.bool s0, .slice a0 len0 cap0, .int .i64 e0] 27) (.cells #[.bool s1, .slice a1 len1 cap1, .int .i64 e1] 27) (.cells #[.bool s2, .slice a2 len2 cap2, .int .i64 e2] 27))
  replace hT := hT.below HB.out
  generalize hW1 : (((w.alloc (.cells #[.bool s0, .slice a0 len0 cap0, .int .i64 e0] 27)).alloc (.cells #[.bool s1, .slice a1 len1 cap1, .int .i64 e1] 27)).alloc (.cells #[.bool s2, .slice a2 len2 cap2, .int .i64 e2] 27)) = w1 at *
  clear hW1
  go_wp2_with fail
  refine (awake3 _ hT).mono ?_
  rintro ee w2 ⟨rfl, B⟩
  replace X0 := X0.below B
  replace X1 := X1.below B
  replace X2 := X2.below B
  replace hT := hT.below B
  replace HB := Lib.hid (bt HB.out B)
  clear B
  have xX00 := X0.at (i := 0) (v := .bool s0) rfl
  have xX01 := X0.at (i := 1) (v := .slice a0 len0 cap0) rfl
  have xX02 := X0.at (i := 2) (v := .int .i64 e0) rfl
  go_wp2_with fail
  refine (few3E _ HF0.out).mono ?_
  rintro ee w3 ⟨rfl, B⟩
  clear xX00 xX01 xX02
  replace X0 := X0.below B
  replace X1 := X1.below B
  replace X2 := X2.below B
  replace hT := hT.below B
  replace HB := Lib.hid (bt HB.out B)
  clear B
  have xX10 := X1.at (i := 0) (v := .bool s1) rfl
  have xX11 := X1.at (i := 1) (v := .slice a1 len1 cap1) rfl
  have xX12 := X1.at (i := 2) (v := .int .i64 e1) rfl
  go_wp2_with fail
  refine (few3E _ HF1.out).mono ?_
  rintro ee w4 ⟨rfl, B⟩
  clear xX10 xX11 xX12
  replace X0 := X0.below B
  replace X1 := X1.below B
  replace X2 := X2.below B
  replace hT := hT.below B
  replace HB := Lib.hid (bt HB.out B)
  clear B
  have xX20 := X2.at (i := 0) (v := .bool s2) rfl
  have xX21 := X2.at (i := 1) (v := .slice a2 len2 cap2) rfl
  have xX22 := X2.at (i := 2) (v := .int .i64 e2) rfl
  go_wp2_with fail
  refine (few3E _ HF2.out).mono ?_
  rintro ee w5 ⟨rfl, B⟩
  clear xX20 xX21 xX22
  replace X0 := X0.below B
  replace X1 := X1.below B
  replace X2 := X2.below B
  replace hT := hT.below B
  replace HB := Lib.hid (bt HB.out B)
  clear B
  go_wp2
  go_ret
  exact ⟨rfl, HB.out⟩

theorem dyRing_walk (s0 : Bool) (a0 : Option Addr) (len0 cap0 : Nat) (y0 : List Int) (e0 : Int) (s1 : Bool) (a1 : Option Addr) (len1 cap1 : Nat) (y1 : List Int) (e1 : Int) (s2 : Bool) (a2 : Option Addr) (len2 cap2 : Nat) (y2 : List Int) (e2 : Int) (w : World) (hT : Tab w) (w0 : RowIn w a0 len0 cap0 y0) (w1 : RowIn w a1 len1 cap1 y1) (w2 : RowIn w a2 len2 cap2 y2) :
    Calls Tryd.prog 5 #[.agg #[.bool s0, .slice a0 len0 cap0, .int .i64 e0], .agg #[.bool s1, .slice a1 len1 cap1, .int .i64 e1], .agg #[.bool s2, .slice a2 len2 cap2, .int .i64 e2]] w fun e w' => e = .returned (.bool true) ∧ Below w.heap.size w w' := by
  by_cases f0 : fewB len0 e0 = true
  · by_cases f1 : fewB len1 e1 = true
    · by_cases f2 : fewB len2 e2 = true
      · obtain ⟨u, r0⟩ := w0.rd (by have := (fewB_true f0).1; omega)
        obtain ⟨v, r1⟩ := w1.rd (by have := (fewB_true f1).1; omega)
        obtain ⟨t, r2⟩ := w2.rd (by have := (fewB_true f2).1; omega)
        exact dyRing_main s0 a0 len0 cap0 e0 s1 a1 len1 cap1 e1 s2 a2 len2 cap2 e2 w _ _ _ hT (r0.wr s0) (r1.wr s1) (r2.wr s2) f0 f1 f2
      · exact dyRing_far2 s0 a0 len0 cap0 e0 s1 a1 len1 cap1 e1 s2 a2 len2 cap2 e2 w hT f0 f1 (by simpa using f2)
    · exact dyRing_far1 s0 a0 len0 cap0 e0 s1 a1 len1 cap1 e1 s2 a2 len2 cap2 e2 w hT _ f0 (by simpa using f1) rfl
  · exact dyRing_far0 s0 a0 len0 cap0 e0 s1 a1 len1 cap1 e1 s2 a2 len2 cap2 e2 w hT _ _ (by simpa using f0) rfl rfl
end Go.Proofs.YteoeoppkefcmdaaDoor

/-
  The walk of DyMoves: for all arguments, where the table lies as it was laid, the call answers true, and nothing that was there has turned.
-/
import Derived.Test.YteoeoppkefcmdaaDoorZa
import Derived.Test.YteoeoppkefcmdaaDoorZb
import Derived.Test.YteoeoppkefcmdaaDoorZc
import Derived.Test.YteoeoppkefcmdaaDoorZd
namespace Go.Proofs.YteoeoppkefcmdaaDoor
open Go.RowKit
set_option linter.unusedVariables false

set_option maxRecDepth 100000 in
set_option maxHeartbeats 8000000 in
theorem dyMoves_main (s0 : Bool) (a0 : Option Addr) (len0 cap0 : Nat) (e0 : Int) (s1 : Bool) (a1 : Option Addr) (len1 cap1 : Nat) (e1 : Int) (e2 : Int) (e3 : Int) (w : World) (z y : Int) (hT : Tab w) (h0 : Wr w s0 a0 len0 cap0 z) (h1 : Wr w s1 a1 len1 cap1 y) (hf : fewB len0 e0 = true) (hg : fewB len1 e1 = true) (i0 : -1000 ≤ e2) (i1 : e2 ≤ 1000) (i2 : -1000 ≤ e3) (i3 : e3 ≤ 1000) :
    Calls Tryd.prog 7 #[.agg #[.bool s0, .slice a0 len0 cap0, .int .i64 e0], .agg #[.bool s1, .slice a1 len1 cap1, .int .i64 e1], .int .i64 e2, .int .i64 e3] w (PB w true) := by
  obtain ⟨hn, _, _⟩ := fewB_true hf
  obtain ⟨hm, _, _⟩ := fewB_true hg
  have HF := Lib.hid hf
  have HG := Lib.hid hg
  obtain ⟨η, hη, fP⟩ := raw_fit' h0 hf
  obtain ⟨η', hη', fQ⟩ := raw_fit' h1 hg
  have hηη : η' = η := by omega
  rw [hηη] at fQ
  obtain ⟨P, hP⟩ : ∃ P, mk z e0 = P := ⟨_, rfl⟩
  rw [hP] at fP
  obtain ⟨Q, hQ⟩ : ∃ Q, mk y e1 = Q := ⟨_, rfl⟩
  rw [hQ] at fQ
  obtain ⟨j, hj⟩ : ∃ j : Nat, j = 2000 := ⟨_, rfl⟩
  obtain ⟨fV, vV⟩ := mvs_fit (j := j) (k := e2) (by omega) fP (by omega) (by omega)
  obtain ⟨fW, vW⟩ := mvs_fit (j := j) (k := e2) (by omega) fQ (by omega) (by omega)
  obtain ⟨fY, vY⟩ := mvs_fit (j := j) (k := e2 + e3) (by omega) fP (by omega) (by omega)
  obtain ⟨fG, vG⟩ := mvs_fit (j := j) (k := 1) (by omega) fP (by omega) (by omega)
  obtain ⟨V, hV⟩ : ∃ V, mvs P e2 = V := ⟨_, rfl⟩
  obtain ⟨W, hW⟩ : ∃ W, mvs Q e2 = W := ⟨_, rfl⟩
  obtain ⟨Y, hY⟩ : ∃ Y, mvs P (e2 + e3) = Y := ⟨_, rfl⟩
  obtain ⟨G, hG⟩ : ∃ G, mvs P 1 = G := ⟨_, rfl⟩
  rw [hV] at fV vV
  rw [hW] at fW vW
  rw [hY] at fY vY
  rw [hG] at fG vG
  obtain ⟨fX, vX⟩ := mvs_fit (j := j) (k := e3) (by omega) fV (by omega) (by omega)
  obtain ⟨X, hX⟩ : ∃ X, mvs V e3 = X := ⟨_, rfl⟩
  rw [hX] at fX vX
  obtain ⟨fD, vD, cD⟩ := two_fit (h := η) (a := (z, e0)) (b := (z, e0)) (by omega) (by rw [hP]; exact fP) (by rw [hP]; exact fP)
  obtain ⟨D, hD⟩ : ∃ D, smd [(z, e0), (z, e0)] = D := ⟨_, rfl⟩
  rw [hD, hP] at vD
  rw [hD] at fD
  have hq := p2pos j
  have vXP : vl X * (2 ^ j * 2 ^ j) = vl P * 2 ^ (j + e2 + (j + e3)).toNat := by
    rw [← Int.mul_assoc, vX, Int.mul_assoc, Int.mul_comm (2 ^ _), ← Int.mul_assoc, vV, Int.mul_assoc, ← Int.pow_add]
    congr 2
    omega
  have hq2 : (0 : Int) < 2 ^ j * 2 ^ j := Int.mul_pos hq hq
  have c1 : cmpI (vl X) (vl Y) = 0 := by
    refine cmpI_eq ?_
    refine Int.eq_of_mul_eq_mul_right (a := 2 ^ j * 2 ^ j) (by omega) ?_
    rw [vXP, ← Int.mul_assoc, vY, Int.mul_assoc, ← Int.pow_add]
    congr 2
    omega
  obtain ⟨σ, hσ⟩ : ∃ x, cmpI P.1 0 = x := ⟨_, rfl⟩
  have hσX : cmpI X.1 0 = σ := by
    rw [← hσ, ← vl_sign, ← vl_sign, ← cmpI_scale hq2 (a := vl X), Int.zero_mul, vXP]
    have := cmpI_scale (a := vl P) (b := 0) (p2pos (j + e2 + (j + e3)).toNat)
    rw [Int.zero_mul] at this
    exact this
  obtain ⟨κ, hκ⟩ : ∃ x, cmpI (vl P) (vl Q) = x := ⟨_, rfl⟩
  have hκV : cmpI (vl V) (vl W) = κ := by
    rw [← hκ, ← cmpI_scale hq (a := vl V), vV, vW]
    exact cmpI_scale (p2pos _)
  have c2 : cmpI (vl D) (vl G) = 0 := by
    refine cmpI_eq ?_
    refine Int.eq_of_mul_eq_mul_right (a := 2 ^ j) (by omega) ?_
    rw [vG, vD, show ((j : Int) + 1).toNat = j + 1 by omega, Int.pow_succ, Int.add_mul]
    have := Int.mul_comm (2 ^ j * 2) (vl P)
    rw [← Int.mul_assoc]
    omega
  have bκ : (κ == κ) = true := by simp
  have bσ : (σ == σ) = true := by simp
  have HP := Lib.hid hP
  have HQ := Lib.hid hQ
  have HV := Lib.hid hV
  have HW := Lib.hid hW
  have HX := Lib.hid hX
  have HY := Lib.hid hY
  have HG' := Lib.hid hG
  have HD := Lib.hid hD
  have HcD := Lib.hid cD
  have HnV : Hid (mk V.1 V.2 = V) := Lib.hid fV.nf
  have HnW : Hid (mk W.1 W.2 = W) := Lib.hid fW.nf
  have HnX : Hid (mk X.1 X.2 = X) := Lib.hid fX.nf
  have HnY : Hid (mk Y.1 Y.2 = Y) := Lib.hid fY.nf
  have HnG : Hid (mk G.1 G.2 = G) := Lib.hid fG.nf
  have HnD : Hid (mk D.1 D.2 = D) := Lib.hid fD.nf
  have HC1 := Lib.hid c1
  have HC2 := Lib.hid c2
  have Hσ := Lib.hid hσ
  have HσX := Lib.hid hσX
  have Hκ := Lib.hid hκ
  have HκV := Lib.hid hκV
  have HLV := Lib.hid (fV.lm (by omega))
  have HLW := Lib.hid (fW.lm (by omega))
  have HLX := Lib.hid (fX.lm (by omega))
  have HLY := Lib.hid (fY.lm (by omega))
  have HLG := Lib.hid (fG.lm (by omega))
  have HLD := Lib.hid (fD.lm (by omega))
  have HS : Hid (IntKind.i64.wrap (e2 + e3) = e2 + e3) := Lib.hid (IntWalk.i64_in _ (by omega))
  clear hf hg fP hP fQ hQ hη hη' hηη hj fV vV fW vW fY vY fG vG hV hW hY hG fX vX hX fD vD cD hD hq vXP hq2 c1 hσ hσX hκ hκV c2
  go_enter Tryd.func7, Tryd.ntmps7
  go_upto_region 1 with (fail)
  have X0 := (Bo.newAt w (g := w.heap.size) (by simp) #[.bool s0, .slice a0 len0 cap0, .int .i64 e0] 27).below (bel1 _ (.cells #[.bool s1, .slice a1 len1 cap1, .int .i64 e1] 27))
  have X1 := (Bo.newAt (w.alloc (.cells #[.bool s0, .slice a0 len0 cap0, .int .i64 e0] 27)) (g := w.heap.size + 1) (by simp) #[.bool s1, .slice a1 len1 cap1, .int .i64 e1] 27)
  have HB := Lib.hid (bel2 w (.cells #[.bool s0, .slice a0 len0 cap0, .int .i64 e0] 27) (.cells #[.bool s1, .slice a1 len1 cap1, .int .i64 e1] 27))
  replace hT := hT.below HB.out
  replace h0 := h0.below HB.out
  replace h1 := h1.below HB.out
  generalize hW1 : ((w.alloc (.cells #[.bool s0, .slice a0 len0 cap0, .int .i64 e0] 27)).alloc (.cells #[.bool s1, .slice a1 len1 cap1, .int .i64 e1] 27)) = w1 at *
  clear hW1
  go_wp2_with fail
  refine (awake3 _ hT).mono ?_
  rintro ee w2 ⟨rfl, B⟩
  replace X0 := X0.below B
  replace X1 := X1.below B
  replace hT := hT.below B
  replace h0 := h0.below B
  replace h1 := h1.below B
  replace HB := Lib.hid (bt HB.out B)
  clear B
  have xX00 := X0.at (i := 0) (v := .bool s0) rfl
  have xX01 := X0.at (i := 1) (v := .slice a0 len0 cap0) rfl
  have xX02 := X0.at (i := 2) (v := .int .i64 e0) rfl
  go_wp2_with fail
  refine (few3E _ HF.out).mono ?_
  rintro ee w3 ⟨rfl, B⟩
  clear xX00 xX01 xX02
  replace X0 := X0.below B
  replace X1 := X1.below B
  replace hT := hT.below B
  replace h0 := h0.below B
  replace h1 := h1.below B
  replace HB := Lib.hid (bt HB.out B)
  clear B
  have xX10 := X1.at (i := 0) (v := .bool s1) rfl
  have xX11 := X1.at (i := 1) (v := .slice a1 len1 cap1) rfl
  have xX12 := X1.at (i := 2) (v := .int .i64 e1) rfl
  go_wp2_with fail
  refine (few3E _ HG.out).mono ?_
  rintro ee w4 ⟨rfl, B⟩
  clear xX10 xX11 xX12
  replace X0 := X0.below B
  replace X1 := X1.below B
  replace hT := hT.below B
  replace h0 := h0.below B
  replace h1 := h1.below B
  replace HB := Lib.hid (bt HB.out B)
  clear B
  have xX00 := X0.at (i := 0) (v := .bool s0) rfl
  have xX01 := X0.at (i := 1) (v := .slice a0 len0 cap0) rfl
  have xX02 := X0.at (i := 2) (v := .int .i64 e0) rfl
  go_upto_region 6 with (fail)
  clear xX00 xX01 xX02
  have xX00 := X0.at (i := 0) (v := .bool s0) rfl
  have xX01 := X0.at (i := 1) (v := .slice a0 len0 cap0) rfl
  have xX02 := X0.at (i := 2) (v := .int .i64 e0) rfl
  go_wp2_with fail
  refine (dMove hT h0 (by omega) (by omega) (by omega) (by rw [HP.out, HV.out]) (by rw [HP.out, HV.out])).mono ?_
  rintro ee w5 ⟨s2, A2, n2, c2, rfl, p2, k2, B⟩
  clear xX00 xX01 xX02
  replace X0 := X0.below B
  replace X1 := X1.below B
  replace hT := hT.below B
  replace h0 := h0.below B
  replace h1 := h1.below B
  replace HB := Lib.hid (bt HB.out B)
  clear B
  go_wp2_with fail
  refine (dMove hT p2.wr (by omega) (by omega) (by omega) (by rw [HnV.out, HX.out]) (by rw [HnV.out, HX.out])).mono ?_
  rintro ee w6 ⟨s3, A3, n3, c3, rfl, p3, k3, B⟩
  replace X0 := X0.below B
  replace X1 := X1.below B
  replace hT := hT.below B
  replace h0 := h0.below B
  replace h1 := h1.below B
  replace p2 := p2.below B
  replace HB := Lib.hid (bt HB.out B)
  clear B
  clear p2
  go_upto_region 7 with (fail)
  have j3 := p3.lm HLX.out
  clear k2 k3
  have lX12 := Nat.le_refl (World.heap w6).size
  have nX12X0 := X0.lt
  have nX12X1 := X1.lt
  replace X0 := X0.below (bel1 _ (.cells #[.bool s3, .slice A3 n3 c3, .int .i64 X.2] 27))
  replace X1 := X1.below (bel1 _ (.cells #[.bool s3, .slice A3 n3 c3, .int .i64 X.2] 27))
  replace hT := hT.below (bel1 _ (.cells #[.bool s3, .slice A3 n3 c3, .int .i64 X.2] 27))
  replace h0 := h0.below (bel1 _ (.cells #[.bool s3, .slice A3 n3 c3, .int .i64 X.2] 27))
  replace h1 := h1.below (bel1 _ (.cells #[.bool s3, .slice A3 n3 c3, .int .i64 X.2] 27))
  replace p3 := p3.below (bel1 _ (.cells #[.bool s3, .slice A3 n3 c3, .int .i64 X.2] 27))
  replace HB := Lib.hid (bt HB.out (bel1 _ (.cells #[.bool s3, .slice A3 n3 c3, .int .i64 X.2] 27)))
  have X12 := Bo.new w6 #[.bool s3, .slice A3 n3 c3, .int .i64 X.2] 27
  generalize hWn : World.alloc w6 (.cells #[.bool s3, .slice A3 n3 c3, .int .i64 X.2] 27) = w8 at *
  clear hWn
  refine Jo.region_joint (T := [0, 1, 2, 3, 4, 5, 6, 7, 8, 9, 10, 11, 12, 13, 14, 15, 16, 17, 18, 19, 20, 21, 22, 23, 24, 25, 26, 27, 28, 29, 30, 31, 32, 33, 34, 35, 36, 37, 38]) (ds := [some 50, some 51, some 52, some 53, some 54, some 55, some 56, some 57, some 58, some 59, some 60, some 61, some 62, some 63, some 64, some 65, some 66, some 67, some 68, some 69, some 70, some 71, some 72, some 73, some 74, some 75, some 76, some 77, some 78, some 79, some 80, some 81, some 82, some 83, some 84, some 85, some 86, some 87, some 8]) (ls := [[], [], [], [], [2, 3], [1, 4], [0, 5], [6], [7], [8], [8, 9], [8], [8, 11], [8, 10, 12], [8, 13], [14], [15], [15], [15, 16, 17], [15], [15], [15, 19, 20], [15, 18, 21], [15], [15], [15, 23, 24], [15, 22, 25], [15, 26], [27], [28], [28], [28, 29, 30], [28, 31], [28], [28, 33], [28, 32, 34], [28, 35], [28, 36], [37]]) (k := 39) (L := [(some 50, 0), (some 51, 1), (some 52, 2), (some 53, 3), (some 54, 4), (some 55, 5), (some 56, 6), (some 57, 7), (some 58, 8), (some 59, 9), (some 60, 10), (some 61, 11), (some 62, 12), (some 63, 13), (some 64, 14), (some 65, 15), (some 66, 16), (some 67, 17), (some 68, 18), (some 69, 19), (some 70, 20), (some 71, 21), (some 72, 22), (some 73, 23), (some 74, 24), (some 75, 25), (some 76, 26), (some 77, 27), (some 78, 28), (some 79, 29), (some 80, 30), (some 81, 31), (some 82, 32), (some 83, 33), (some 84, 34), (some 85, 35), (some 86, 36), (some 87, 37), (some 8, 38)]) (fuel := 0) (J := fun wj => Below (World.heap w8).size w8 wj)
    (F := [Jo.Fact.eq (.agg #[.bool s3, .slice A3 n3 c3, .int .i64 X.2]), Jo.Fact.eq (.agg #[.bool s0, .slice a0 len0 cap0, .int .i64 e0]), Jo.Fact.eq (.int .i64 e2), Jo.Fact.eq (.int .i64 e3), Jo.Fact.eq (.int .i64 (e2 + e3)), Jo.Fact.dy Y.1 Y.2 20000, Jo.Fact.eq (.int .i64 0), Jo.Fact.eq (.bool true), Jo.Fact.eq (.bool true), Jo.Fact.eq (.agg #[.bool s3, .slice A3 n3 c3, .int .i64 X.2]), Jo.Fact.eq (.int .i64 σ), Jo.Fact.eq (.agg #[.bool s0, .slice a0 len0 cap0, .int .i64 e0]), Jo.Fact.eq (.int .i64 σ), Jo.Fact.eq (.bool true), Jo.Fact.eq (.bool true), Jo.Fact.eq (.bool true), Jo.Fact.eq (.agg #[.bool s0, .slice a0 len0 cap0, .int .i64 e0]), Jo.Fact.eq (.int .i64 e2), Jo.Fact.dy V.1 V.2 20000, Jo.Fact.eq (.agg #[.bool s1, .slice a1 len1 cap1, .int .i64 e1]), Jo.Fact.eq (.int .i64 e2), Jo.Fact.dy W.1 W.2 20000, Jo.Fact.eq (.int .i64 κ), Jo.Fact.eq (.agg #[.bool s0, .slice a0 len0 cap0, .int .i64 e0]), Jo.Fact.eq (.agg #[.bool s1, .slice a1 len1 cap1, .int .i64 e1]), Jo.Fact.eq (.int .i64 κ), Jo.Fact.eq (.bool true), Jo.Fact.eq (.bool true), Jo.Fact.eq (.bool true), Jo.Fact.eq (.agg #[.bool s0, .slice a0 len0 cap0, .int .i64 e0]), Jo.Fact.eq (.agg #[.bool s0, .slice a0 len0 cap0, .int .i64 e0]), Jo.Fact.dl 20000 2 [(z, e0), (z, e0)], Jo.Fact.dy D.1 D.2 20000, Jo.Fact.eq (.agg #[.bool s0, .slice a0 len0 cap0, .int .i64 e0]), Jo.Fact.dy G.1 G.2 20000, Jo.Fact.eq (.int .i64 0), Jo.Fact.eq (.bool true), Jo.Fact.eq (.bool true), Jo.Fact.eq (.bool true)])
    (by kernel_rfl) (by kernel_rfl) (by decide) rfl rfl (fun _ _ h b => bt h b) ((Below.refl _ _).drew) ?_ (fun vs w9 hJ hd => ?_)
  · refine Jo.jcons (i := 0) (o := ⟨some 50, _, _, _, _, _⟩) (di := some 50) (L := []) (f := Jo.Fact.eq (.agg #[.bool s3, .slice A3 n3 c3, .int .i64 X.2])) rfl rfl rfl rfl (fun vs wj hJ hd K hK => ?_) ?_
    · clear hd
      simp only [Jo.putl, List.foldl_nil, Act.put, List.setIfInBounds_toArray, List.set_cons_zero, List.set_cons_succ] at hK ⊢
      have xX120 : World.cell? wj ⟨w6.heap.size, 0, none⟩ = some (.bool s3) := (X12.below hJ).cell 0
      have xX121 : World.cell? wj ⟨w6.heap.size, 1, none⟩ = some (.slice A3 n3 c3) := (X12.below hJ).cell 1
      have xX122 : World.cell? wj ⟨w6.heap.size, 2, none⟩ = some (.int .i64 X.2) := (X12.below hJ).cell 2
      go_simp
      exact hK.out _ _ rfl (Below.refl _ _)
    refine Jo.jcons (i := 1) (o := ⟨some 51, _, _, _, _, _⟩) (di := some 51) (L := []) (f := Jo.Fact.eq (.agg #[.bool s0, .slice a0 len0 cap0, .int .i64 e0])) rfl rfl rfl rfl (fun vs wj hJ hd K hK => ?_) ?_
    · clear hd
      simp only [Jo.putl, List.foldl_nil, Act.put, List.setIfInBounds_toArray, List.set_cons_zero, List.set_cons_succ] at hK ⊢
      have xX00 : World.cell? wj ⟨w.heap.size, 0, none⟩ = some (.bool s0) := (X0.below hJ).cell 0
      have xX01 : World.cell? wj ⟨w.heap.size, 1, none⟩ = some (.slice a0 len0 cap0) := (X0.below hJ).cell 1
      have xX02 : World.cell? wj ⟨w.heap.size, 2, none⟩ = some (.int .i64 e0) := (X0.below hJ).cell 2
      go_simp
      exact hK.out _ _ rfl (Below.refl _ _)
    refine Jo.jcons (i := 2) (o := ⟨some 52, _, _, _, _, _⟩) (di := some 52) (L := []) (f := Jo.Fact.eq (.int .i64 e2)) rfl rfl rfl rfl (fun vs wj hJ hd K hK => ?_) ?_
    · clear hd
      simp only [Jo.putl, List.foldl_nil, Act.put, List.setIfInBounds_toArray, List.set_cons_zero, List.set_cons_succ] at hK ⊢
      go_simp
      exact hK.out _ _ rfl (Below.refl _ _)
    refine Jo.jcons (i := 3) (o := ⟨some 53, _, _, _, _, _⟩) (di := some 53) (L := []) (f := Jo.Fact.eq (.int .i64 e3)) rfl rfl rfl rfl (fun vs wj hJ hd K hK => ?_) ?_
    · clear hd
      simp only [Jo.putl, List.foldl_nil, Act.put, List.setIfInBounds_toArray, List.set_cons_zero, List.set_cons_succ] at hK ⊢
      go_simp
      exact hK.out _ _ rfl (Below.refl _ _)
    refine Jo.jcons (i := 4) (o := ⟨some 54, _, _, _, _, _⟩) (di := some 54) (L := [(some 52, 2), (some 53, 3)]) (f := Jo.Fact.eq (.int .i64 (e2 + e3))) rfl rfl rfl rfl (fun vs wj hJ hd K hK => ?_) ?_
    · have d2 : (Jo.Fact.eq (.int .i64 e2)).P (vs 2) wj := hd 2 (by decide)
      have d3 : (Jo.Fact.eq (.int .i64 e3)).P (vs 3) wj := hd 3 (by decide)
      clear hd
      simp only [Jo.putl, List.foldl_cons, List.foldl_nil, Act.put, List.setIfInBounds_toArray, List.set_cons_zero, List.set_cons_succ] at hK ⊢
      generalize vs 2 = u2 at hK d2 ⊢
      generalize vs 3 = u3 at hK d3 ⊢
      replace d2 : u2 = _ := d2
      subst d2
      replace d3 : u3 = _ := d3
      subst d3
      have hw := HS.out
      go_simp
      exact hK.out _ _ rfl (Below.refl _ _)
    refine Jo.jcons (i := 5) (o := ⟨some 55, _, _, _, _, _⟩) (di := some 55) (L := [(some 51, 1), (some 54, 4)]) (f := Jo.Fact.dy Y.1 Y.2 20000) rfl rfl rfl rfl (fun vs wj hJ hd K hK => ?_) ?_
    · have d1 : (Jo.Fact.eq (.agg #[.bool s0, .slice a0 len0 cap0, .int .i64 e0])).P (vs 1) wj := hd 1 (by decide)
      have d4 : (Jo.Fact.eq (.int .i64 (e2 + e3))).P (vs 4) wj := hd 4 (by decide)
      clear hd
      simp only [Jo.putl, List.foldl_cons, List.foldl_nil, Act.put, List.setIfInBounds_toArray, List.set_cons_zero, List.set_cons_succ] at hK ⊢
      generalize vs 1 = u1 at hK d1 ⊢
      generalize vs 4 = u4 at hK d4 ⊢
      replace d1 : u1 = _ := d1
      subst d1
      replace d4 : u4 = _ := d4
      subst d4
      go_simp
      refine (dMove (hT.below hJ) (h0.below hJ) (by omega) (by omega) (by omega) (by rw [HP.out, HY.out]) (by rw [HP.out, HY.out])).mono ?_
      rintro ee wk ⟨s15, A15, n15, c15, rfl, p15, k15, B⟩
      exact hK.out _ _ ⟨s15, A15, n15, c15, rfl, p15, p15.lm HLY.out⟩ B
    refine Jo.jcons (i := 6) (o := ⟨some 56, _, _, _, _, _⟩) (di := some 56) (L := [(some 50, 0), (some 55, 5)]) (f := Jo.Fact.eq (.int .i64 0)) rfl rfl rfl rfl (fun vs wj hJ hd K hK => ?_) ?_
    · have d0 : (Jo.Fact.eq (.agg #[.bool s3, .slice A3 n3 c3, .int .i64 X.2])).P (vs 0) wj := hd 0 (by decide)
      have d5 : (Jo.Fact.dy Y.1 Y.2 20000).P (vs 5) wj := hd 5 (by decide)
      clear hd
      simp only [Jo.putl, List.foldl_cons, List.foldl_nil, Act.put, List.setIfInBounds_toArray, List.set_cons_zero, List.set_cons_succ] at hK ⊢
      generalize vs 0 = u0 at hK d0 ⊢
      generalize vs 5 = u5 at hK d5 ⊢
      replace d0 : u0 = _ := d0
      subst d0
      obtain ⟨s15, A15, n15, c15, rfl, p15, k15⟩ := d5
      go_simp
      refine (dCmp (r := 0) (hT.below hJ) (p3.below hJ).wr p15.wr (by omega) (by omega) (by rw [HnX.out, HnY.out]; exact HC1.out)).mono ?_
      rintro ee wk ⟨rfl, B⟩
      exact hK.out _ _ rfl B
    refine Jo.jcons (i := 7) (o := ⟨some 57, _, _, _, _, _⟩) (di := some 57) (L := [(some 56, 6)]) (f := Jo.Fact.eq (.bool true)) rfl rfl rfl rfl (fun vs wj hJ hd K hK => ?_) ?_
    · have d6 : (Jo.Fact.eq (.int .i64 0)).P (vs 6) wj := hd 6 (by decide)
      clear hd
      simp only [Jo.putl, List.foldl_cons, List.foldl_nil, Act.put, List.setIfInBounds_toArray, List.set_cons_zero, List.set_cons_succ] at hK ⊢
      generalize vs 6 = u6 at hK d6 ⊢
      replace d6 : u6 = _ := d6
      subst d6
      go_simp
      exact hK.out _ _ (by first | rfl | simp) (Below.refl _ _)
    refine Jo.jcons (i := 8) (o := ⟨some 58, _, _, _, _, _⟩) (di := some 58) (L := [(some 57, 7)]) (f := Jo.Fact.eq (.bool true)) rfl rfl rfl rfl (fun vs wj hJ hd K hK => ?_) ?_
    · have d7 : (Jo.Fact.eq (.bool true)).P (vs 7) wj := hd 7 (by decide)
      clear hd
      simp only [Jo.putl, List.foldl_cons, List.foldl_nil, Act.put, List.setIfInBounds_toArray, List.set_cons_zero, List.set_cons_succ] at hK ⊢
      generalize vs 7 = u7 at hK d7 ⊢
      replace d7 : u7 = _ := d7
      subst d7
      go_simp
      exact hK.out _ _ rfl (Below.refl _ _)
    refine Jo.jcons (i := 9) (o := ⟨some 59, _, _, _, _, _⟩) (di := some 59) (L := [(some 58, 8)]) (f := Jo.Fact.eq (.agg #[.bool s3, .slice A3 n3 c3, .int .i64 X.2])) rfl rfl rfl rfl (fun vs wj hJ hd K hK => ?_) ?_
    · have d8 : (Jo.Fact.eq (.bool true)).P (vs 8) wj := hd 8 (by decide)
      clear hd
      simp only [Jo.putl, List.foldl_cons, List.foldl_nil, Act.put, List.setIfInBounds_toArray, List.set_cons_zero, List.set_cons_succ] at hK ⊢
      generalize vs 8 = u8 at hK d8 ⊢
      replace d8 : u8 = _ := d8
      subst d8
      have xX120 : World.cell? wj ⟨w6.heap.size, 0, none⟩ = some (.bool s3) := (X12.below hJ).cell 0
      have xX121 : World.cell? wj ⟨w6.heap.size, 1, none⟩ = some (.slice A3 n3 c3) := (X12.below hJ).cell 1
      have xX122 : World.cell? wj ⟨w6.heap.size, 2, none⟩ = some (.int .i64 X.2) := (X12.below hJ).cell 2
      go_simp
      exact hK.out _ _ rfl (Below.refl _ _)
    refine Jo.jcons (i := 10) (o := ⟨some 60, _, _, _, _, _⟩) (di := some 60) (L := [(some 58, 8), (some 59, 9)]) (f := Jo.Fact.eq (.int .i64 σ)) rfl rfl rfl rfl (fun vs wj hJ hd K hK => ?_) ?_
    · have d8 : (Jo.Fact.eq (.bool true)).P (vs 8) wj := hd 8 (by decide)
      have d9 : (Jo.Fact.eq (.agg #[.bool s3, .slice A3 n3 c3, .int .i64 X.2])).P (vs 9) wj := hd 9 (by decide)
      clear hd
      simp only [Jo.putl, List.foldl_cons, List.foldl_nil, Act.put, List.setIfInBounds_toArray, List.set_cons_zero, List.set_cons_succ] at hK ⊢
      generalize vs 8 = u8 at hK d8 ⊢
      generalize vs 9 = u9 at hK d9 ⊢
      replace d8 : u8 = _ := d8
      subst d8
      replace d9 : u9 = _ := d9
      subst d9
      go_simp
      refine (dSign (r := σ) (hT.below hJ) (p3.below hJ).wr (by omega) (by rw [HnX.out]; exact HσX.out)).mono ?_
      rintro ee wk ⟨rfl, B⟩
      exact hK.out _ _ rfl B
    refine Jo.jcons (i := 11) (o := ⟨some 61, _, _, _, _, _⟩) (di := some 61) (L := [(some 58, 8)]) (f := Jo.Fact.eq (.agg #[.bool s0, .slice a0 len0 cap0, .int .i64 e0])) rfl rfl rfl rfl (fun vs wj hJ hd K hK => ?_) ?_
    · have d8 : (Jo.Fact.eq (.bool true)).P (vs 8) wj := hd 8 (by decide)
      clear hd
      simp only [Jo.putl, List.foldl_cons, List.foldl_nil, Act.put, List.setIfInBounds_toArray, List.set_cons_zero, List.set_cons_succ] at hK ⊢
      generalize vs 8 = u8 at hK d8 ⊢
      replace d8 : u8 = _ := d8
      subst d8
      have xX00 : World.cell? wj ⟨w.heap.size, 0, none⟩ = some (.bool s0) := (X0.below hJ).cell 0
      have xX01 : World.cell? wj ⟨w.heap.size, 1, none⟩ = some (.slice a0 len0 cap0) := (X0.below hJ).cell 1
      have xX02 : World.cell? wj ⟨w.heap.size, 2, none⟩ = some (.int .i64 e0) := (X0.below hJ).cell 2
      go_simp
      exact hK.out _ _ rfl (Below.refl _ _)
    refine Jo.jcons (i := 12) (o := ⟨some 62, _, _, _, _, _⟩) (di := some 62) (L := [(some 58, 8), (some 61, 11)]) (f := Jo.Fact.eq (.int .i64 σ)) rfl rfl rfl rfl (fun vs wj hJ hd K hK => ?_) ?_
    · have d8 : (Jo.Fact.eq (.bool true)).P (vs 8) wj := hd 8 (by decide)
      have d11 : (Jo.Fact.eq (.agg #[.bool s0, .slice a0 len0 cap0, .int .i64 e0])).P (vs 11) wj := hd 11 (by decide)
      clear hd
      simp only [Jo.putl, List.foldl_cons, List.foldl_nil, Act.put, List.setIfInBounds_toArray, List.set_cons_zero, List.set_cons_succ] at hK ⊢
      generalize vs 8 = u8 at hK d8 ⊢
      generalize vs 11 = u11 at hK d11 ⊢
      replace d8 : u8 = _ := d8
      subst d8
      replace d11 : u11 = _ := d11
      subst d11
      go_simp
      refine (dSign (r := σ) (hT.below hJ) (h0.below hJ) (by omega) (by rw [HP.out]; exact Hσ.out)).mono ?_
      rintro ee wk ⟨rfl, B⟩
      exact hK.out _ _ rfl B
    refine Jo.jcons (i := 13) (o := ⟨some 63, _, _, _, _, _⟩) (di := some 63) (L := [(some 58, 8), (some 60, 10), (some 62, 12)]) (f := Jo.Fact.eq (.bool true)) rfl rfl rfl rfl (fun vs wj hJ hd K hK => ?_) ?_
    · have d8 : (Jo.Fact.eq (.bool true)).P (vs 8) wj := hd 8 (by decide)
      have d10 : (Jo.Fact.eq (.int .i64 σ)).P (vs 10) wj := hd 10 (by decide)
      have d12 : (Jo.Fact.eq (.int .i64 σ)).P (vs 12) wj := hd 12 (by decide)
      clear hd
      simp only [Jo.putl, List.foldl_cons, List.foldl_nil, Act.put, List.setIfInBounds_toArray, List.set_cons_zero, List.set_cons_succ] at hK ⊢
      generalize vs 8 = u8 at hK d8 ⊢
      generalize vs 10 = u10 at hK d10 ⊢
      generalize vs 12 = u12 at hK d12 ⊢
      replace d8 : u8 = _ := d8
      subst d8
      replace d10 : u10 = _ := d10
      subst d10
      replace d12 : u12 = _ := d12
      subst d12
      go_simp
      exact hK.out _ _ (by first | rfl | simp) (Below.refl _ _)
    refine Jo.jcons (i := 14) (o := ⟨some 64, _, _, _, _, _⟩) (di := some 64) (L := [(some 58, 8), (some 63, 13)]) (f := Jo.Fact.eq (.bool true)) rfl rfl rfl rfl (fun vs wj hJ hd K hK => ?_) ?_
    · have d8 : (Jo.Fact.eq (.bool true)).P (vs 8) wj := hd 8 (by decide)
      have d13 : (Jo.Fact.eq (.bool true)).P (vs 13) wj := hd 13 (by decide)
      clear hd
      simp only [Jo.putl, List.foldl_cons, List.foldl_nil, Act.put, List.setIfInBounds_toArray, List.set_cons_zero, List.set_cons_succ] at hK ⊢
      generalize vs 8 = u8 at hK d8 ⊢
      generalize vs 13 = u13 at hK d13 ⊢
      replace d8 : u8 = _ := d8
      subst d8
      replace d13 : u13 = _ := d13
      subst d13
      go_simp
      exact hK.out _ _ rfl (Below.refl _ _)
    refine Jo.jcons (i := 15) (o := ⟨some 65, _, _, _, _, _⟩) (di := some 65) (L := [(some 64, 14)]) (f := Jo.Fact.eq (.bool true)) rfl rfl rfl rfl (fun vs wj hJ hd K hK => ?_) ?_
    · have d14 : (Jo.Fact.eq (.bool true)).P (vs 14) wj := hd 14 (by decide)
      clear hd
      simp only [Jo.putl, List.foldl_cons, List.foldl_nil, Act.put, List.setIfInBounds_toArray, List.set_cons_zero, List.set_cons_succ] at hK ⊢
      generalize vs 14 = u14 at hK d14 ⊢
      replace d14 : u14 = _ := d14
      subst d14
      go_simp
      exact hK.out _ _ rfl (Below.refl _ _)
    refine Jo.jcons (i := 16) (o := ⟨some 66, _, _, _, _, _⟩) (di := some 66) (L := [(some 65, 15)]) (f := Jo.Fact.eq (.agg #[.bool s0, .slice a0 len0 cap0, .int .i64 e0])) rfl rfl rfl rfl (fun vs wj hJ hd K hK => ?_) ?_
    · have d15 : (Jo.Fact.eq (.bool true)).P (vs 15) wj := hd 15 (by decide)
      clear hd
      simp only [Jo.putl, List.foldl_cons, List.foldl_nil, Act.put, List.setIfInBounds_toArray, List.set_cons_zero, List.set_cons_succ] at hK ⊢
      generalize vs 15 = u15 at hK d15 ⊢
      replace d15 : u15 = _ := d15
      subst d15
      have xX00 : World.cell? wj ⟨w.heap.size, 0, none⟩ = some (.bool s0) := (X0.below hJ).cell 0
      have xX01 : World.cell? wj ⟨w.heap.size, 1, none⟩ = some (.slice a0 len0 cap0) := (X0.below hJ).cell 1
      have xX02 : World.cell? wj ⟨w.heap.size, 2, none⟩ = some (.int .i64 e0) := (X0.below hJ).cell 2
      go_simp
      exact hK.out _ _ rfl (Below.refl _ _)
    refine Jo.jcons (i := 17) (o := ⟨some 67, _, _, _, _, _⟩) (di := some 67) (L := [(some 65, 15)]) (f := Jo.Fact.eq (.int .i64 e2)) rfl rfl rfl rfl (fun vs wj hJ hd K hK => ?_) ?_
    · have d15 : (Jo.Fact.eq (.bool true)).P (vs 15) wj := hd 15 (by decide)
      clear hd
      simp only [Jo.putl, List.foldl_cons, List.foldl_nil, Act.put, List.setIfInBounds_toArray, List.set_cons_zero, List.set_cons_succ] at hK ⊢
      generalize vs 15 = u15 at hK d15 ⊢
      replace d15 : u15 = _ := d15
      subst d15
      go_simp
      exact hK.out _ _ rfl (Below.refl _ _)
    refine Jo.jcons (i := 18) (o := ⟨some 68, _, _, _, _, _⟩) (di := some 68) (L := [(some 65, 15), (some 66, 16), (some 67, 17)]) (f := Jo.Fact.dy V.1 V.2 20000) rfl rfl rfl rfl (fun vs wj hJ hd K hK => ?_) ?_
    · have d15 : (Jo.Fact.eq (.bool true)).P (vs 15) wj := hd 15 (by decide)
      have d16 : (Jo.Fact.eq (.agg #[.bool s0, .slice a0 len0 cap0, .int .i64 e0])).P (vs 16) wj := hd 16 (by decide)
      have d17 : (Jo.Fact.eq (.int .i64 e2)).P (vs 17) wj := hd 17 (by decide)
      clear hd
      simp only [Jo.putl, List.foldl_cons, List.foldl_nil, Act.put, List.setIfInBounds_toArray, List.set_cons_zero, List.set_cons_succ] at hK ⊢
      generalize vs 15 = u15 at hK d15 ⊢
      generalize vs 16 = u16 at hK d16 ⊢
      generalize vs 17 = u17 at hK d17 ⊢
      replace d15 : u15 = _ := d15
      subst d15
      replace d16 : u16 = _ := d16
      subst d16
      replace d17 : u17 = _ := d17
      subst d17
      go_simp
      refine (dMove (hT.below hJ) (h0.below hJ) (by omega) (by omega) (by omega) (by rw [HP.out, HV.out]) (by rw [HP.out, HV.out])).mono ?_
      rintro ee wk ⟨s16, A16, n16, c16, rfl, p16, k16, B⟩
      exact hK.out _ _ ⟨s16, A16, n16, c16, rfl, p16, p16.lm HLV.out⟩ B
    refine Jo.jcons (i := 19) (o := ⟨some 69, _, _, _, _, _⟩) (di := some 69) (L := [(some 65, 15)]) (f := Jo.Fact.eq (.agg #[.bool s1, .slice a1 len1 cap1, .int .i64 e1])) rfl rfl rfl rfl (fun vs wj hJ hd K hK => ?_) ?_
    · have d15 : (Jo.Fact.eq (.bool true)).P (vs 15) wj := hd 15 (by decide)
      clear hd
      simp only [Jo.putl, List.foldl_cons, List.foldl_nil, Act.put, List.setIfInBounds_toArray, List.set_cons_zero, List.set_cons_succ] at hK ⊢
      generalize vs 15 = u15 at hK d15 ⊢
      replace d15 : u15 = _ := d15
      subst d15
      have xX10 : World.cell? wj ⟨w.heap.size + 1, 0, none⟩ = some (.bool s1) := (X1.below hJ).cell 0
      have xX11 : World.cell? wj ⟨w.heap.size + 1, 1, none⟩ = some (.slice a1 len1 cap1) := (X1.below hJ).cell 1
      have xX12 : World.cell? wj ⟨w.heap.size + 1, 2, none⟩ = some (.int .i64 e1) := (X1.below hJ).cell 2
      go_simp
      exact hK.out _ _ rfl (Below.refl _ _)
    refine Jo.jcons (i := 20) (o := ⟨some 70, _, _, _, _, _⟩) (di := some 70) (L := [(some 65, 15)]) (f := Jo.Fact.eq (.int .i64 e2)) rfl rfl rfl rfl (fun vs wj hJ hd K hK => ?_) ?_
    · have d15 : (Jo.Fact.eq (.bool true)).P (vs 15) wj := hd 15 (by decide)
      clear hd
      simp only [Jo.putl, List.foldl_cons, List.foldl_nil, Act.put, List.setIfInBounds_toArray, List.set_cons_zero, List.set_cons_succ] at hK ⊢
      generalize vs 15 = u15 at hK d15 ⊢
      replace d15 : u15 = _ := d15
      subst d15
      go_simp
      exact hK.out _ _ rfl (Below.refl _ _)
    refine Jo.jcons (i := 21) (o := ⟨some 71, _, _, _, _, _⟩) (di := some 71) (L := [(some 65, 15), (some 69, 19), (some 70, 20)]) (f := Jo.Fact.dy W.1 W.2 20000) rfl rfl rfl rfl (fun vs wj hJ hd K hK => ?_) ?_
    · have d15 : (Jo.Fact.eq (.bool true)).P (vs 15) wj := hd 15 (by decide)
      have d19 : (Jo.Fact.eq (.agg #[.bool s1, .slice a1 len1 cap1, .int .i64 e1])).P (vs 19) wj := hd 19 (by decide)
      have d20 : (Jo.Fact.eq (.int .i64 e2)).P (vs 20) wj := hd 20 (by decide)
      clear hd
      simp only [Jo.putl, List.foldl_cons, List.foldl_nil, Act.put, List.setIfInBounds_toArray, List.set_cons_zero, List.set_cons_succ] at hK ⊢
      generalize vs 15 = u15 at hK d15 ⊢
      generalize vs 19 = u19 at hK d19 ⊢
      generalize vs 20 = u20 at hK d20 ⊢
      replace d15 : u15 = _ := d15
      subst d15
      replace d19 : u19 = _ := d19
      subst d19
      replace d20 : u20 = _ := d20
      subst d20
      go_simp
      refine (dMove (hT.below hJ) (h1.below hJ) (by omega) (by omega) (by omega) (by rw [HQ.out, HW.out]) (by rw [HQ.out, HW.out])).mono ?_
      rintro ee wk ⟨s17, A17, n17, c17, rfl, p17, k17, B⟩
      exact hK.out _ _ ⟨s17, A17, n17, c17, rfl, p17, p17.lm HLW.out⟩ B
    refine Jo.jcons (i := 22) (o := ⟨some 72, _, _, _, _, _⟩) (di := some 72) (L := [(some 65, 15), (some 68, 18), (some 71, 21)]) (f := Jo.Fact.eq (.int .i64 κ)) rfl rfl rfl rfl (fun vs wj hJ hd K hK => ?_) ?_
    · have d15 : (Jo.Fact.eq (.bool true)).P (vs 15) wj := hd 15 (by decide)
      have d18 : (Jo.Fact.dy V.1 V.2 20000).P (vs 18) wj := hd 18 (by decide)
      have d21 : (Jo.Fact.dy W.1 W.2 20000).P (vs 21) wj := hd 21 (by decide)
      clear hd
      simp only [Jo.putl, List.foldl_cons, List.foldl_nil, Act.put, List.setIfInBounds_toArray, List.set_cons_zero, List.set_cons_succ] at hK ⊢
      generalize vs 15 = u15 at hK d15 ⊢
      generalize vs 18 = u18 at hK d18 ⊢
      generalize vs 21 = u21 at hK d21 ⊢
      replace d15 : u15 = _ := d15
      subst d15
      obtain ⟨s16, A16, n16, c16, rfl, p16, k16⟩ := d18
      obtain ⟨s17, A17, n17, c17, rfl, p17, k17⟩ := d21
      go_simp
      refine (dCmp (r := κ) (hT.below hJ) p16.wr p17.wr (by omega) (by omega) (by rw [HnV.out, HnW.out]; exact HκV.out)).mono ?_
      rintro ee wk ⟨rfl, B⟩
      exact hK.out _ _ rfl B
    refine Jo.jcons (i := 23) (o := ⟨some 73, _, _, _, _, _⟩) (di := some 73) (L := [(some 65, 15)]) (f := Jo.Fact.eq (.agg #[.bool s0, .slice a0 len0 cap0, .int .i64 e0])) rfl rfl rfl rfl (fun vs wj hJ hd K hK => ?_) ?_
    · have d15 : (Jo.Fact.eq (.bool true)).P (vs 15) wj := hd 15 (by decide)
      clear hd
      simp only [Jo.putl, List.foldl_cons, List.foldl_nil, Act.put, List.setIfInBounds_toArray, List.set_cons_zero, List.set_cons_succ] at hK ⊢
      generalize vs 15 = u15 at hK d15 ⊢
      replace d15 : u15 = _ := d15
      subst d15
      have xX00 : World.cell? wj ⟨w.heap.size, 0, none⟩ = some (.bool s0) := (X0.below hJ).cell 0
      have xX01 : World.cell? wj ⟨w.heap.size, 1, none⟩ = some (.slice a0 len0 cap0) := (X0.below hJ).cell 1
      have xX02 : World.cell? wj ⟨w.heap.size, 2, none⟩ = some (.int .i64 e0) := (X0.below hJ).cell 2
      go_simp
      exact hK.out _ _ rfl (Below.refl _ _)
    refine Jo.jcons (i := 24) (o := ⟨some 74, _, _, _, _, _⟩) (di := some 74) (L := [(some 65, 15)]) (f := Jo.Fact.eq (.agg #[.bool s1, .slice a1 len1 cap1, .int .i64 e1])) rfl rfl rfl rfl (fun vs wj hJ hd K hK => ?_) ?_
    · have d15 : (Jo.Fact.eq (.bool true)).P (vs 15) wj := hd 15 (by decide)
      clear hd
      simp only [Jo.putl, List.foldl_cons, List.foldl_nil, Act.put, List.setIfInBounds_toArray, List.set_cons_zero, List.set_cons_succ] at hK ⊢
      generalize vs 15 = u15 at hK d15 ⊢
      replace d15 : u15 = _ := d15
      subst d15
      have xX10 : World.cell? wj ⟨w.heap.size + 1, 0, none⟩ = some (.bool s1) := (X1.below hJ).cell 0
      have xX11 : World.cell? wj ⟨w.heap.size + 1, 1, none⟩ = some (.slice a1 len1 cap1) := (X1.below hJ).cell 1
      have xX12 : World.cell? wj ⟨w.heap.size + 1, 2, none⟩ = some (.int .i64 e1) := (X1.below hJ).cell 2
      go_simp
      exact hK.out _ _ rfl (Below.refl _ _)
    refine Jo.jcons (i := 25) (o := ⟨some 75, _, _, _, _, _⟩) (di := some 75) (L := [(some 65, 15), (some 73, 23), (some 74, 24)]) (f := Jo.Fact.eq (.int .i64 κ)) rfl rfl rfl rfl (fun vs wj hJ hd K hK => ?_) ?_
    · have d15 : (Jo.Fact.eq (.bool true)).P (vs 15) wj := hd 15 (by decide)
      have d23 : (Jo.Fact.eq (.agg #[.bool s0, .slice a0 len0 cap0, .int .i64 e0])).P (vs 23) wj := hd 23 (by decide)
      have d24 : (Jo.Fact.eq (.agg #[.bool s1, .slice a1 len1 cap1, .int .i64 e1])).P (vs 24) wj := hd 24 (by decide)
      clear hd
      simp only [Jo.putl, List.foldl_cons, List.foldl_nil, Act.put, List.setIfInBounds_toArray, List.set_cons_zero, List.set_cons_succ] at hK ⊢
      generalize vs 15 = u15 at hK d15 ⊢
      generalize vs 23 = u23 at hK d23 ⊢
      generalize vs 24 = u24 at hK d24 ⊢
      replace d15 : u15 = _ := d15
      subst d15
      replace d23 : u23 = _ := d23
      subst d23
      replace d24 : u24 = _ := d24
      subst d24
      go_simp
      refine (dCmp (r := κ) (hT.below hJ) (h0.below hJ) (h1.below hJ) (by omega) (by omega) (by rw [HP.out, HQ.out]; exact Hκ.out)).mono ?_
      rintro ee wk ⟨rfl, B⟩
      exact hK.out _ _ rfl B
    refine Jo.jcons (i := 26) (o := ⟨some 76, _, _, _, _, _⟩) (di := some 76) (L := [(some 65, 15), (some 72, 22), (some 75, 25)]) (f := Jo.Fact.eq (.bool true)) rfl rfl rfl rfl (fun vs wj hJ hd K hK => ?_) ?_
    · have d15 : (Jo.Fact.eq (.bool true)).P (vs 15) wj := hd 15 (by decide)
      have d22 : (Jo.Fact.eq (.int .i64 κ)).P (vs 22) wj := hd 22 (by decide)
      have d25 : (Jo.Fact.eq (.int .i64 κ)).P (vs 25) wj := hd 25 (by decide)
      clear hd
      simp only [Jo.putl, List.foldl_cons, List.foldl_nil, Act.put, List.setIfInBounds_toArray, List.set_cons_zero, List.set_cons_succ] at hK ⊢
      generalize vs 15 = u15 at hK d15 ⊢
      generalize vs 22 = u22 at hK d22 ⊢
      generalize vs 25 = u25 at hK d25 ⊢
      replace d15 : u15 = _ := d15
      subst d15
      replace d22 : u22 = _ := d22
      subst d22
      replace d25 : u25 = _ := d25
      subst d25
      go_simp
      exact hK.out _ _ (by first | rfl | simp) (Below.refl _ _)
    refine Jo.jcons (i := 27) (o := ⟨some 77, _, _, _, _, _⟩) (di := some 77) (L := [(some 65, 15), (some 76, 26)]) (f := Jo.Fact.eq (.bool true)) rfl rfl rfl rfl (fun vs wj hJ hd K hK => ?_) ?_
    · have d15 : (Jo.Fact.eq (.bool true)).P (vs 15) wj := hd 15 (by decide)
      have d26 : (Jo.Fact.eq (.bool true)).P (vs 26) wj := hd 26 (by decide)
      clear hd
      simp only [Jo.putl, List.foldl_cons, List.foldl_nil, Act.put, List.setIfInBounds_toArray, List.set_cons_zero, List.set_cons_succ] at hK ⊢
      generalize vs 15 = u15 at hK d15 ⊢
      generalize vs 26 = u26 at hK d26 ⊢
      replace d15 : u15 = _ := d15
      subst d15
      replace d26 : u26 = _ := d26
      subst d26
      go_simp
      exact hK.out _ _ rfl (Below.refl _ _)
    refine Jo.jcons (i := 28) (o := ⟨some 78, _, _, _, _, _⟩) (di := some 78) (L := [(some 77, 27)]) (f := Jo.Fact.eq (.bool true)) rfl rfl rfl rfl (fun vs wj hJ hd K hK => ?_) ?_
    · have d27 : (Jo.Fact.eq (.bool true)).P (vs 27) wj := hd 27 (by decide)
      clear hd
      simp only [Jo.putl, List.foldl_cons, List.foldl_nil, Act.put, List.setIfInBounds_toArray, List.set_cons_zero, List.set_cons_succ] at hK ⊢
      generalize vs 27 = u27 at hK d27 ⊢
      replace d27 : u27 = _ := d27
      subst d27
      go_simp
      exact hK.out _ _ rfl (Below.refl _ _)
    refine Jo.jcons (i := 29) (o := ⟨some 79, _, _, _, _, _⟩) (di := some 79) (L := [(some 78, 28)]) (f := Jo.Fact.eq (.agg #[.bool s0, .slice a0 len0 cap0, .int .i64 e0])) rfl rfl rfl rfl (fun vs wj hJ hd K hK => ?_) ?_
    · have d28 : (Jo.Fact.eq (.bool true)).P (vs 28) wj := hd 28 (by decide)
      clear hd
      simp only [Jo.putl, List.foldl_cons, List.foldl_nil, Act.put, List.setIfInBounds_toArray, List.set_cons_zero, List.set_cons_succ] at hK ⊢
      generalize vs 28 = u28 at hK d28 ⊢
      replace d28 : u28 = _ := d28
      subst d28
      have xX00 : World.cell? wj ⟨w.heap.size, 0, none⟩ = some (.bool s0) := (X0.below hJ).cell 0
      have xX01 : World.cell? wj ⟨w.heap.size, 1, none⟩ = some (.slice a0 len0 cap0) := (X0.below hJ).cell 1
      have xX02 : World.cell? wj ⟨w.heap.size, 2, none⟩ = some (.int .i64 e0) := (X0.below hJ).cell 2
      go_simp
      exact hK.out _ _ rfl (Below.refl _ _)
    refine Jo.jcons (i := 30) (o := ⟨some 80, _, _, _, _, _⟩) (di := some 80) (L := [(some 78, 28)]) (f := Jo.Fact.eq (.agg #[.bool s0, .slice a0 len0 cap0, .int .i64 e0])) rfl rfl rfl rfl (fun vs wj hJ hd K hK => ?_) ?_
    · have d28 : (Jo.Fact.eq (.bool true)).P (vs 28) wj := hd 28 (by decide)
      clear hd
      simp only [Jo.putl, List.foldl_cons, List.foldl_nil, Act.put, List.setIfInBounds_toArray, List.set_cons_zero, List.set_cons_succ] at hK ⊢
      generalize vs 28 = u28 at hK d28 ⊢
      replace d28 : u28 = _ := d28
      subst d28
      have xX00 : World.cell? wj ⟨w.heap.size, 0, none⟩ = some (.bool s0) := (X0.below hJ).cell 0
      have xX01 : World.cell? wj ⟨w.heap.size, 1, none⟩ = some (.slice a0 len0 cap0) := (X0.below hJ).cell 1
      have xX02 : World.cell? wj ⟨w.heap.size, 2, none⟩ = some (.int .i64 e0) := (X0.below hJ).cell 2
      go_simp
      exact hK.out _ _ rfl (Below.refl _ _)
    refine Jo.jcons (i := 31) (o := ⟨some 81, _, _, _, _, _⟩) (di := some 81) (L := [(some 78, 28), (some 79, 29), (some 80, 30)]) (f := Jo.Fact.dl 20000 2 [(z, e0), (z, e0)]) rfl rfl rfl rfl (fun vs wj hJ hd K hK => ?_) ?_
    · have d28 : (Jo.Fact.eq (.bool true)).P (vs 28) wj := hd 28 (by decide)
      have d29 : (Jo.Fact.eq (.agg #[.bool s0, .slice a0 len0 cap0, .int .i64 e0])).P (vs 29) wj := hd 29 (by decide)
      have d30 : (Jo.Fact.eq (.agg #[.bool s0, .slice a0 len0 cap0, .int .i64 e0])).P (vs 30) wj := hd 30 (by decide)
      clear hd
      simp only [Jo.putl, List.foldl_cons, List.foldl_nil, Act.put, List.setIfInBounds_toArray, List.set_cons_zero, List.set_cons_succ] at hK ⊢
      generalize vs 28 = u28 at hK d28 ⊢
      generalize vs 29 = u29 at hK d29 ⊢
      generalize vs 30 = u30 at hK d30 ⊢
      replace d28 : u28 = _ := d28
      subst d28
      replace d29 : u29 = _ := d29
      subst d29
      replace d30 : u30 = _ := d30
      subst d30
      go_simp
      exact hK.out _ _ ⟨_, 2, rfl, Dl.lit2 rfl (h0.below hJ) (h0.below hJ) (by omega) (by omega)⟩ (bel1 _ _)
    refine Jo.jcons (i := 32) (o := ⟨some 82, _, _, _, _, _⟩) (di := some 82) (L := [(some 78, 28), (some 81, 31)]) (f := Jo.Fact.dy D.1 D.2 20000) rfl rfl rfl rfl (fun vs wj hJ hd K hK => ?_) ?_
    · have d28 : (Jo.Fact.eq (.bool true)).P (vs 28) wj := hd 28 (by decide)
      have d31 : (Jo.Fact.dl 20000 2 [(z, e0), (z, e0)]).P (vs 31) wj := hd 31 (by decide)
      clear hd
      simp only [Jo.putl, List.foldl_cons, List.foldl_nil, Act.put, List.setIfInBounds_toArray, List.set_cons_zero, List.set_cons_succ] at hK ⊢
      generalize vs 28 = u28 at hK d28 ⊢
      generalize vs 31 = u31 at hK d31 ⊢
      replace d28 : u28 = _ := d28
      subst d28
      obtain ⟨A18, c18, rfl, p18⟩ := d31
      go_simp
      refine (dAdd (hT.below hJ) p18 (by omega) HcD.out (congrArg Prod.fst HD.out) (congrArg Prod.snd HD.out)).mono ?_
      rintro ee wk ⟨s19, A19, n19, c19, rfl, p19, k19, B⟩
      exact hK.out _ _ ⟨s19, A19, n19, c19, rfl, p19, p19.lm HLD.out⟩ B
    refine Jo.jcons (i := 33) (o := ⟨some 83, _, _, _, _, _⟩) (di := some 83) (L := [(some 78, 28)]) (f := Jo.Fact.eq (.agg #[.bool s0, .slice a0 len0 cap0, .int .i64 e0])) rfl rfl rfl rfl (fun vs wj hJ hd K hK => ?_) ?_
    · have d28 : (Jo.Fact.eq (.bool true)).P (vs 28) wj := hd 28 (by decide)
      clear hd
      simp only [Jo.putl, List.foldl_cons, List.foldl_nil, Act.put, List.setIfInBounds_toArray, List.set_cons_zero, List.set_cons_succ] at hK ⊢
      generalize vs 28 = u28 at hK d28 ⊢
      replace d28 : u28 = _ := d28
      subst d28
      have xX00 : World.cell? wj ⟨w.heap.size, 0, none⟩ = some (.bool s0) := (X0.below hJ).cell 0
      have xX01 : World.cell? wj ⟨w.heap.size, 1, none⟩ = some (.slice a0 len0 cap0) := (X0.below hJ).cell 1
      have xX02 : World.cell? wj ⟨w.heap.size, 2, none⟩ = some (.int .i64 e0) := (X0.below hJ).cell 2
      go_simp
      exact hK.out _ _ rfl (Below.refl _ _)
    refine Jo.jcons (i := 34) (o := ⟨some 84, _, _, _, _, _⟩) (di := some 84) (L := [(some 78, 28), (some 83, 33)]) (f := Jo.Fact.dy G.1 G.2 20000) rfl rfl rfl rfl (fun vs wj hJ hd K hK => ?_) ?_
    · have d28 : (Jo.Fact.eq (.bool true)).P (vs 28) wj := hd 28 (by decide)
      have d33 : (Jo.Fact.eq (.agg #[.bool s0, .slice a0 len0 cap0, .int .i64 e0])).P (vs 33) wj := hd 33 (by decide)
      clear hd
      simp only [Jo.putl, List.foldl_cons, List.foldl_nil, Act.put, List.setIfInBounds_toArray, List.set_cons_zero, List.set_cons_succ] at hK ⊢
      generalize vs 28 = u28 at hK d28 ⊢
      generalize vs 33 = u33 at hK d33 ⊢
      replace d28 : u28 = _ := d28
      subst d28
      replace d33 : u33 = _ := d33
      subst d33
      go_simp
      refine (dMove (hT.below hJ) (h0.below hJ) (by omega) (by omega) (by omega) (by rw [HP.out, HG'.out]) (by rw [HP.out, HG'.out])).mono ?_
      rintro ee wk ⟨s20, A20, n20, c20, rfl, p20, k20, B⟩
      exact hK.out _ _ ⟨s20, A20, n20, c20, rfl, p20, p20.lm HLG.out⟩ B
    refine Jo.jcons (i := 35) (o := ⟨some 85, _, _, _, _, _⟩) (di := some 85) (L := [(some 78, 28), (some 82, 32), (some 84, 34)]) (f := Jo.Fact.eq (.int .i64 0)) rfl rfl rfl rfl (fun vs wj hJ hd K hK => ?_) ?_
    · have d28 : (Jo.Fact.eq (.bool true)).P (vs 28) wj := hd 28 (by decide)
      have d32 : (Jo.Fact.dy D.1 D.2 20000).P (vs 32) wj := hd 32 (by decide)
      have d34 : (Jo.Fact.dy G.1 G.2 20000).P (vs 34) wj := hd 34 (by decide)
      clear hd
      simp only [Jo.putl, List.foldl_cons, List.foldl_nil, Act.put, List.setIfInBounds_toArray, List.set_cons_zero, List.set_cons_succ] at hK ⊢
      generalize vs 28 = u28 at hK d28 ⊢
      generalize vs 32 = u32 at hK d32 ⊢
      generalize vs 34 = u34 at hK d34 ⊢
      replace d28 : u28 = _ := d28
      subst d28
      obtain ⟨s19, A19, n19, c19, rfl, p19, k19⟩ := d32
      obtain ⟨s20, A20, n20, c20, rfl, p20, k20⟩ := d34
      go_simp
      refine (dCmp (r := 0) (hT.below hJ) p19.wr p20.wr (by omega) (by omega) (by rw [HnD.out, HnG.out]; exact HC2.out)).mono ?_
      rintro ee wk ⟨rfl, B⟩
      exact hK.out _ _ rfl B
    refine Jo.jcons (i := 36) (o := ⟨some 86, _, _, _, _, _⟩) (di := some 86) (L := [(some 78, 28), (some 85, 35)]) (f := Jo.Fact.eq (.bool true)) rfl rfl rfl rfl (fun vs wj hJ hd K hK => ?_) ?_
    · have d28 : (Jo.Fact.eq (.bool true)).P (vs 28) wj := hd 28 (by decide)
      have d35 : (Jo.Fact.eq (.int .i64 0)).P (vs 35) wj := hd 35 (by decide)
      clear hd
      simp only [Jo.putl, List.foldl_cons, List.foldl_nil, Act.put, List.setIfInBounds_toArray, List.set_cons_zero, List.set_cons_succ] at hK ⊢
      generalize vs 28 = u28 at hK d28 ⊢
      generalize vs 35 = u35 at hK d35 ⊢
      replace d28 : u28 = _ := d28
      subst d28
      replace d35 : u35 = _ := d35
      subst d35
      go_simp
      exact hK.out _ _ (by first | rfl | simp) (Below.refl _ _)
    refine Jo.jcons (i := 37) (o := ⟨some 87, _, _, _, _, _⟩) (di := some 87) (L := [(some 78, 28), (some 86, 36)]) (f := Jo.Fact.eq (.bool true)) rfl rfl rfl rfl (fun vs wj hJ hd K hK => ?_) ?_
    · have d28 : (Jo.Fact.eq (.bool true)).P (vs 28) wj := hd 28 (by decide)
      have d36 : (Jo.Fact.eq (.bool true)).P (vs 36) wj := hd 36 (by decide)
      clear hd
      simp only [Jo.putl, List.foldl_cons, List.foldl_nil, Act.put, List.setIfInBounds_toArray, List.set_cons_zero, List.set_cons_succ] at hK ⊢
      generalize vs 28 = u28 at hK d28 ⊢
      generalize vs 36 = u36 at hK d36 ⊢
      replace d28 : u28 = _ := d28
      subst d28
      replace d36 : u36 = _ := d36
      subst d36
      go_simp
      exact hK.out _ _ rfl (Below.refl _ _)
    refine Jo.jcons (i := 38) (o := ⟨some 8, _, _, _, _, _⟩) (di := some 8) (L := [(some 87, 37)]) (f := Jo.Fact.eq (.bool true)) rfl rfl rfl rfl (fun vs wj hJ hd K hK => ?_) ?_
    · have d37 : (Jo.Fact.eq (.bool true)).P (vs 37) wj := hd 37 (by decide)
      clear hd
      simp only [Jo.putl, List.foldl_cons, List.foldl_nil, Act.put, List.setIfInBounds_toArray, List.set_cons_zero, List.set_cons_succ] at hK ⊢
      generalize vs 37 = u37 at hK d37 ⊢
      replace d37 : u37 = _ := d37
      subst d37
      go_simp
      exact hK.out _ _ rfl (Below.refl _ _)
    exact Jo.Steps.nil
  have d0 : (Jo.Fact.eq (.agg #[.bool s3, .slice A3 n3 c3, .int .i64 X.2])).P (vs 0) w9 := hd 0 (by decide)
  have d1 : (Jo.Fact.eq (.agg #[.bool s0, .slice a0 len0 cap0, .int .i64 e0])).P (vs 1) w9 := hd 1 (by decide)
  have d2 : (Jo.Fact.eq (.int .i64 e2)).P (vs 2) w9 := hd 2 (by decide)
  have d3 : (Jo.Fact.eq (.int .i64 e3)).P (vs 3) w9 := hd 3 (by decide)
  have d4 : (Jo.Fact.eq (.int .i64 (e2 + e3))).P (vs 4) w9 := hd 4 (by decide)
  have d5 : (Jo.Fact.dy Y.1 Y.2 20000).P (vs 5) w9 := hd 5 (by decide)
  have d6 : (Jo.Fact.eq (.int .i64 0)).P (vs 6) w9 := hd 6 (by decide)
  have d7 : (Jo.Fact.eq (.bool true)).P (vs 7) w9 := hd 7 (by decide)
  have d8 : (Jo.Fact.eq (.bool true)).P (vs 8) w9 := hd 8 (by decide)
  have d9 : (Jo.Fact.eq (.agg #[.bool s3, .slice A3 n3 c3, .int .i64 X.2])).P (vs 9) w9 := hd 9 (by decide)
  have d10 : (Jo.Fact.eq (.int .i64 σ)).P (vs 10) w9 := hd 10 (by decide)
  have d11 : (Jo.Fact.eq (.agg #[.bool s0, .slice a0 len0 cap0, .int .i64 e0])).P (vs 11) w9 := hd 11 (by decide)
  have d12 : (Jo.Fact.eq (.int .i64 σ)).P (vs 12) w9 := hd 12 (by decide)
  have d13 : (Jo.Fact.eq (.bool true)).P (vs 13) w9 := hd 13 (by decide)
  have d14 : (Jo.Fact.eq (.bool true)).P (vs 14) w9 := hd 14 (by decide)
  have d15 : (Jo.Fact.eq (.bool true)).P (vs 15) w9 := hd 15 (by decide)
  have d16 : (Jo.Fact.eq (.agg #[.bool s0, .slice a0 len0 cap0, .int .i64 e0])).P (vs 16) w9 := hd 16 (by decide)
  have d17 : (Jo.Fact.eq (.int .i64 e2)).P (vs 17) w9 := hd 17 (by decide)
  have d18 : (Jo.Fact.dy V.1 V.2 20000).P (vs 18) w9 := hd 18 (by decide)
  have d19 : (Jo.Fact.eq (.agg #[.bool s1, .slice a1 len1 cap1, .int .i64 e1])).P (vs 19) w9 := hd 19 (by decide)
  have d20 : (Jo.Fact.eq (.int .i64 e2)).P (vs 20) w9 := hd 20 (by decide)
  have d21 : (Jo.Fact.dy W.1 W.2 20000).P (vs 21) w9 := hd 21 (by decide)
  have d22 : (Jo.Fact.eq (.int .i64 κ)).P (vs 22) w9 := hd 22 (by decide)
  have d23 : (Jo.Fact.eq (.agg #[.bool s0, .slice a0 len0 cap0, .int .i64 e0])).P (vs 23) w9 := hd 23 (by decide)
  have d24 : (Jo.Fact.eq (.agg #[.bool s1, .slice a1 len1 cap1, .int .i64 e1])).P (vs 24) w9 := hd 24 (by decide)
  have d25 : (Jo.Fact.eq (.int .i64 κ)).P (vs 25) w9 := hd 25 (by decide)
  have d26 : (Jo.Fact.eq (.bool true)).P (vs 26) w9 := hd 26 (by decide)
  have d27 : (Jo.Fact.eq (.bool true)).P (vs 27) w9 := hd 27 (by decide)
  have d28 : (Jo.Fact.eq (.bool true)).P (vs 28) w9 := hd 28 (by decide)
  have d29 : (Jo.Fact.eq (.agg #[.bool s0, .slice a0 len0 cap0, .int .i64 e0])).P (vs 29) w9 := hd 29 (by decide)
  have d30 : (Jo.Fact.eq (.agg #[.bool s0, .slice a0 len0 cap0, .int .i64 e0])).P (vs 30) w9 := hd 30 (by decide)
  have d31 : (Jo.Fact.dl 20000 2 [(z, e0), (z, e0)]).P (vs 31) w9 := hd 31 (by decide)
  have d32 : (Jo.Fact.dy D.1 D.2 20000).P (vs 32) w9 := hd 32 (by decide)
  have d33 : (Jo.Fact.eq (.agg #[.bool s0, .slice a0 len0 cap0, .int .i64 e0])).P (vs 33) w9 := hd 33 (by decide)
  have d34 : (Jo.Fact.dy G.1 G.2 20000).P (vs 34) w9 := hd 34 (by decide)
  have d35 : (Jo.Fact.eq (.int .i64 0)).P (vs 35) w9 := hd 35 (by decide)
  have d36 : (Jo.Fact.eq (.bool true)).P (vs 36) w9 := hd 36 (by decide)
  have d37 : (Jo.Fact.eq (.bool true)).P (vs 37) w9 := hd 37 (by decide)
  have d38 : (Jo.Fact.eq (.bool true)).P (vs 38) w9 := hd 38 (by decide)
  clear hd
  simp only [Jo.putl, List.foldl_cons, List.foldl_nil, Act.put, List.setIfInBounds_toArray, List.set_cons_zero, List.set_cons_succ]
  generalize vs 0 = u0 at d0 ⊢
  generalize vs 1 = u1 at d1 ⊢
  generalize vs 2 = u2 at d2 ⊢
  generalize vs 3 = u3 at d3 ⊢
  generalize vs 4 = u4 at d4 ⊢
  generalize vs 5 = u5 at d5 ⊢
  generalize vs 6 = u6 at d6 ⊢
  generalize vs 7 = u7 at d7 ⊢
  generalize vs 8 = u8 at d8 ⊢
  generalize vs 9 = u9 at d9 ⊢
  generalize vs 10 = u10 at d10 ⊢
  generalize vs 11 = u11 at d11 ⊢
  generalize vs 12 = u12 at d12 ⊢
  generalize vs 13 = u13 at d13 ⊢
  generalize vs 14 = u14 at d14 ⊢
  generalize vs 15 = u15 at d15 ⊢
  generalize vs 16 = u16 at d16 ⊢
  generalize vs 17 = u17 at d17 ⊢
  generalize vs 18 = u18 at d18 ⊢
  generalize vs 19 = u19 at d19 ⊢
  generalize vs 20 = u20 at d20 ⊢
  generalize vs 21 = u21 at d21 ⊢
  generalize vs 22 = u22 at d22 ⊢
  generalize vs 23 = u23 at d23 ⊢
  generalize vs 24 = u24 at d24 ⊢
  generalize vs 25 = u25 at d25 ⊢
  generalize vs 26 = u26 at d26 ⊢
  generalize vs 27 = u27 at d27 ⊢
  generalize vs 28 = u28 at d28 ⊢
  generalize vs 29 = u29 at d29 ⊢
  generalize vs 30 = u30 at d30 ⊢
  generalize vs 31 = u31 at d31 ⊢
  generalize vs 32 = u32 at d32 ⊢
  generalize vs 33 = u33 at d33 ⊢
  generalize vs 34 = u34 at d34 ⊢
  generalize vs 35 = u35 at d35 ⊢
  generalize vs 36 = u36 at d36 ⊢
  generalize vs 37 = u37 at d37 ⊢
  generalize vs 38 = u38 at d38 ⊢
  clear vs
  replace d0 : u0 = _ := d0
  subst d0
  replace d1 : u1 = _ := d1
  subst d1
  replace d2 : u2 = _ := d2
  subst d2
  replace d3 : u3 = _ := d3
  subst d3
  replace d4 : u4 = _ := d4
  subst d4
  obtain ⟨s15, A15, n15, c15, rfl, _, _⟩ := d5
  replace d6 : u6 = _ := d6
  subst d6
  replace d7 : u7 = _ := d7
  subst d7
  replace d8 : u8 = _ := d8
  subst d8
  replace d9 : u9 = _ := d9
  subst d9
  replace d10 : u10 = _ := d10
  subst d10
  replace d11 : u11 = _ := d11
  subst d11
  replace d12 : u12 = _ := d12
  subst d12
  replace d13 : u13 = _ := d13
  subst d13
  replace d14 : u14 = _ := d14
  subst d14
  replace d15 : u15 = _ := d15
  subst d15
  replace d16 : u16 = _ := d16
  subst d16
  replace d17 : u17 = _ := d17
  subst d17
  obtain ⟨s16, A16, n16, c16, rfl, _, _⟩ := d18
  replace d19 : u19 = _ := d19
  subst d19
  replace d20 : u20 = _ := d20
  subst d20
  obtain ⟨s17, A17, n17, c17, rfl, _, _⟩ := d21
  replace d22 : u22 = _ := d22
  subst d22
  replace d23 : u23 = _ := d23
  subst d23
  replace d24 : u24 = _ := d24
  subst d24
  replace d25 : u25 = _ := d25
  subst d25
  replace d26 : u26 = _ := d26
  subst d26
  replace d27 : u27 = _ := d27
  subst d27
  replace d28 : u28 = _ := d28
  subst d28
  replace d29 : u29 = _ := d29
  subst d29
  replace d30 : u30 = _ := d30
  subst d30
  obtain ⟨A18, c18, rfl, _⟩ := d31
  obtain ⟨s19, A19, n19, c19, rfl, _, _⟩ := d32
  replace d33 : u33 = _ := d33
  subst d33
  obtain ⟨s20, A20, n20, c20, rfl, _, _⟩ := d34
  replace d35 : u35 = _ := d35
  subst d35
  replace d36 : u36 = _ := d36
  subst d36
  replace d37 : u37 = _ := d37
  subst d37
  replace d38 : u38 = _ := d38
  subst d38
  replace X0 := X0.below hJ
  replace X1 := X1.below hJ
  replace X12 := X12.below hJ
  replace hT := hT.below hJ
  replace h0 := h0.below hJ
  replace h1 := h1.below hJ
  replace p3 := p3.below hJ
  replace HB := Lib.hid (bt HB.out hJ)
  refine Jo.jdone (by kernel_rfl) ?_
  go_wp2
  go_ret
  exact ⟨rfl, HB.out⟩

set_option maxHeartbeats 4000000 in
theorem dyMoves_far0 (s0 : Bool) (a0 : Option Addr) (len0 cap0 : Nat) (e0 : Int) (s1 : Bool) (a1 : Option Addr) (len1 cap1 : Nat) (e1 : Int) (e2 : Int) (e3 : Int) (w : World) (hT : Tab w) (q : Bool) (hf : fewB len0 e0 = false) (hg : fewB len1 e1 = q) :
    Calls Tryd.prog 7 #[.agg #[.bool s0, .slice a0 len0 cap0, .int .i64 e0], .agg #[.bool s1, .slice a1 len1 cap1, .int .i64 e1], .int .i64 e2, .int .i64 e3] w (PB w true) := by
  have HF := Lib.hid hf
  have HG := Lib.hid hg
  clear hf hg
  go_enter Tryd.func7, Tryd.ntmps7
  go_upto_region 1 with (fail)
  have X0 := (Bo.newAt w (g := w.heap.size) (by simp) #[.bool s0, .slice a0 len0 cap0, .int .i64 e0] 27).below (bel1 _ (.cells #[.bool s1, .slice a1 len1 cap1, .int .i64 e1] 27))
  have X1 := (Bo.newAt (w.alloc (.cells #[.bool s0, .slice a0 len0 cap0, .int .i64 e0] 27)) (g := w.heap.size + 1) (by simp) #[.bool s1, .slice a1 len1 cap1, .int .i64 e1] 27)
  have HB := Lib.hid (bel2 w (.cells #[.bool s0, .slice a0 len0 cap0, .int .i64 e0] 27) (.cells #[.bool s1, .slice a1 len1 cap1, .int .i64 e1] 27))
  replace hT := hT.below HB.out
  generalize hW1 : ((w.alloc (.cells #[.bool s0, .slice a0 len0 cap0, .int .i64 e0] 27)).alloc (.cells #[.bool s1, .slice a1 len1 cap1, .int .i64 e1] 27)) = w1 at *
  clear hW1
  go_wp2_with fail
  refine (awake3 _ hT).mono ?_
  rintro ee w2 ⟨rfl, B⟩
  replace X0 := X0.below B
  replace X1 := X1.below B
  replace hT := hT.below B
  replace HB := Lib.hid (bt HB.out B)
  clear B
  have xX00 := X0.at (i := 0) (v := .bool s0) rfl
  have xX01 := X0.at (i := 1) (v := .slice a0 len0 cap0) rfl
  have xX02 := X0.at (i := 2) (v := .int .i64 e0) rfl
  go_wp2_with fail
  refine (few3E _ HF.out).mono ?_
  rintro ee w3 ⟨rfl, B⟩
  clear xX00 xX01 xX02
  replace X0 := X0.below B
  replace X1 := X1.below B
  replace hT := hT.below B
  replace HB := Lib.hid (bt HB.out B)
  clear B
  have xX10 := X1.at (i := 0) (v := .bool s1) rfl
  have xX11 := X1.at (i := 1) (v := .slice a1 len1 cap1) rfl
  have xX12 := X1.at (i := 2) (v := .int .i64 e1) rfl
  go_wp2_with fail
  refine (few3E _ HG.out).mono ?_
  rintro ee w4 ⟨rfl, B⟩
  clear xX10 xX11 xX12
  replace X0 := X0.below B
  replace X1 := X1.below B
  replace hT := hT.below B
  replace HB := Lib.hid (bt HB.out B)
  clear B
  go_wp2
  go_ret
  exact ⟨rfl, HB.out⟩

set_option maxHeartbeats 4000000 in
theorem dyMoves_far1 (s0 : Bool) (a0 : Option Addr) (len0 cap0 : Nat) (e0 : Int) (s1 : Bool) (a1 : Option Addr) (len1 cap1 : Nat) (e1 : Int) (e2 : Int) (e3 : Int) (w : World) (hT : Tab w) (hf : fewB len0 e0 = true) (hg : fewB len1 e1 = false) :
    Calls Tryd.prog 7 #[.agg #[.bool s0, .slice a0 len0 cap0, .int .i64 e0], .agg #[.bool s1, .slice a1 len1 cap1, .int .i64 e1], .int .i64 e2, .int .i64 e3] w (PB w true) := by
  have HF := Lib.hid hf
  have HG := Lib.hid hg
  clear hf hg
  go_enter Tryd.func7, Tryd.ntmps7
  go_upto_region 1 with (fail)
  have X0 := (Bo.newAt w (g := w.heap.size) (by simp) #[.bool s0, .slice a0 len0 cap0, .int .i64 e0] 27).below (bel1 _ (.cells #[.bool s1, .slice a1 len1 cap1, .int .i64 e1] 27))
  have X1 := (Bo.newAt (w.alloc (.cells #[.bool s0, .slice a0 len0 cap0, .int .i64 e0] 27)) (g := w.heap.size + 1) (by simp) #[.bool s1, .slice a1 len1 cap1, .int .i64 e1] 27)
  have HB := Lib.hid (bel2 w (.cells #[.bool s0, .slice a0 len0 cap0, .int .i64 e0] 27) (.cells #[.bool s1, .slice a1 len1 cap1, .int .i64 e1] 27))
  replace hT := hT.below HB.out
  generalize hW1 : ((w.alloc (.cells #[.bool s0, .slice a0 len0 cap0, .int .i64 e0] 27)).alloc (.cells #[.bool s1, .slice a1 len1 cap1, .int .i64 e1] 27)) = w1 at *
  clear hW1
  go_wp2_with fail
  refine (awake3 _ hT).mono ?_
  rintro ee w2 ⟨rfl, B⟩
  replace X0 := X0.below B
  replace X1 := X1.below B
  replace hT := hT.below B
  replace HB := Lib.hid (bt HB.out B)
  clear B
  have xX00 := X0.at (i := 0) (v := .bool s0) rfl
  have xX01 := X0.at (i := 1) (v := .slice a0 len0 cap0) rfl
  have xX02 := X0.at (i := 2) (v := .int .i64 e0) rfl
  go_wp2_with fail
  refine (few3E _ HF.out).mono ?_
  rintro ee w3 ⟨rfl, B⟩
  clear xX00 xX01 xX02
  replace X0 := X0.below B
  replace X1 := X1.below B
  replace hT := hT.below B
  replace HB := Lib.hid (bt HB.out B)
  clear B
  have xX10 := X1.at (i := 0) (v := .bool s1) rfl
  have xX11 := X1.at (i := 1) (v := .slice a1 len1 cap1) rfl
  have xX12 := X1.at (i := 2) (v := .int .i64 e1) rfl
  go_wp2_with fail
  refine (few3E _ HG.out).mono ?_
  rintro ee w4 ⟨rfl, B⟩
  clear xX10 xX11 xX12
  replace X0 := X0.below B
  replace X1 := X1.below B
  replace hT := hT.below B
  replace HB := Lib.hid (bt HB.out B)
  clear B
  go_wp2
  go_ret
  exact ⟨rfl, HB.out⟩

set_option maxHeartbeats 4000000 in
theorem dyMoves_far2 (s0 : Bool) (a0 : Option Addr) (len0 cap0 : Nat) (e0 : Int) (s1 : Bool) (a1 : Option Addr) (len1 cap1 : Nat) (e1 : Int) (e2 : Int) (e3 : Int) (w : World) (hT : Tab w) (hf : fewB len0 e0 = true) (hg : fewB len1 e1 = true) (hi : ¬ (-1000 ≤ e2 ∧ e2 ≤ 1000 ∧ -1000 ≤ e3 ∧ e3 ≤ 1000)) :
    Calls Tryd.prog 7 #[.agg #[.bool s0, .slice a0 len0 cap0, .int .i64 e0], .agg #[.bool s1, .slice a1 len1 cap1, .int .i64 e1], .int .i64 e2, .int .i64 e3] w (PB w true) := by
  have HF := Lib.hid hf
  have HG := Lib.hid hg
  clear hf hg
  by_cases q1 : 1000 < e2
  · clear hi
    go_enter Tryd.func7, Tryd.ntmps7
    go_upto_region 1 with (fail)
    have X0 := (Bo.newAt w (g := w.heap.size) (by simp) #[.bool s0, .slice a0 len0 cap0, .int .i64 e0] 27).below (bel1 _ (.cells #[.bool s1, .slice a1 len1 cap1, .int .i64 e1] 27))
    have X1 := (Bo.newAt (w.alloc (.cells #[.bool s0, .slice a0 len0 cap0, .int .i64 e0] 27)) (g := w.heap.size + 1) (by simp) #[.bool s1, .slice a1 len1 cap1, .int .i64 e1] 27)
    have HB := Lib.hid (bel2 w (.cells #[.bool s0, .slice a0 len0 cap0, .int .i64 e0] 27) (.cells #[.bool s1, .slice a1 len1 cap1, .int .i64 e1] 27))
    replace hT := hT.below HB.out
    generalize hW1 : ((w.alloc (.cells #[.bool s0, .slice a0 len0 cap0, .int .i64 e0] 27)).alloc (.cells #[.bool s1, .slice a1 len1 cap1, .int .i64 e1] 27)) = w1 at *
    clear hW1
    go_wp2_with fail
    refine (awake3 _ hT).mono ?_
    rintro ee w2 ⟨rfl, B⟩
    replace X0 := X0.below B
    replace X1 := X1.below B
    replace hT := hT.below B
    replace HB := Lib.hid (bt HB.out B)
    clear B
    have xX00 := X0.at (i := 0) (v := .bool s0) rfl
    have xX01 := X0.at (i := 1) (v := .slice a0 len0 cap0) rfl
    have xX02 := X0.at (i := 2) (v := .int .i64 e0) rfl
    go_wp2_with fail
    refine (few3E _ HF.out).mono ?_
    rintro ee w3 ⟨rfl, B⟩
    clear xX00 xX01 xX02
    replace X0 := X0.below B
    replace X1 := X1.below B
    replace hT := hT.below B
    replace HB := Lib.hid (bt HB.out B)
    clear B
    have xX10 := X1.at (i := 0) (v := .bool s1) rfl
    have xX11 := X1.at (i := 1) (v := .slice a1 len1 cap1) rfl
    have xX12 := X1.at (i := 2) (v := .int .i64 e1) rfl
    go_wp2_with fail
    refine (few3E _ HG.out).mono ?_
    rintro ee w4 ⟨rfl, B⟩
    clear xX10 xX11 xX12
    replace X0 := X0.below B
    replace X1 := X1.below B
    replace hT := hT.below B
    replace HB := Lib.hid (bt HB.out B)
    clear B
    go_wp2
    go_ret
    exact ⟨rfl, HB.out⟩
  · by_cases q2 : e2 < -1000
    · clear hi
      go_enter Tryd.func7, Tryd.ntmps7
      go_upto_region 1 with (fail)
      have X0 := (Bo.newAt w (g := w.heap.size) (by simp) #[.bool s0, .slice a0 len0 cap0, .int .i64 e0] 27).below (bel1 _ (.cells #[.bool s1, .slice a1 len1 cap1, .int .i64 e1] 27))
      have X1 := (Bo.newAt (w.alloc (.cells #[.bool s0, .slice a0 len0 cap0, .int .i64 e0] 27)) (g := w.heap.size + 1) (by simp) #[.bool s1, .slice a1 len1 cap1, .int .i64 e1] 27)
      have HB := Lib.hid (bel2 w (.cells #[.bool s0, .slice a0 len0 cap0, .int .i64 e0] 27) (.cells #[.bool s1, .slice a1 len1 cap1, .int .i64 e1] 27))
      replace hT := hT.below HB.out
      generalize hW1 : ((w.alloc (.cells #[.bool s0, .slice a0 len0 cap0, .int .i64 e0] 27)).alloc (.cells #[.bool s1, .slice a1 len1 cap1, .int .i64 e1] 27)) = w1 at *
      clear hW1
      go_wp2_with fail
      refine (awake3 _ hT).mono ?_
      rintro ee w2 ⟨rfl, B⟩
      replace X0 := X0.below B
      replace X1 := X1.below B
      replace hT := hT.below B
      replace HB := Lib.hid (bt HB.out B)
      clear B
      have xX00 := X0.at (i := 0) (v := .bool s0) rfl
      have xX01 := X0.at (i := 1) (v := .slice a0 len0 cap0) rfl
      have xX02 := X0.at (i := 2) (v := .int .i64 e0) rfl
      go_wp2_with fail
      refine (few3E _ HF.out).mono ?_
      rintro ee w3 ⟨rfl, B⟩
      clear xX00 xX01 xX02
      replace X0 := X0.below B
      replace X1 := X1.below B
      replace hT := hT.below B
      replace HB := Lib.hid (bt HB.out B)
      clear B
      have xX10 := X1.at (i := 0) (v := .bool s1) rfl
      have xX11 := X1.at (i := 1) (v := .slice a1 len1 cap1) rfl
      have xX12 := X1.at (i := 2) (v := .int .i64 e1) rfl
      go_wp2_with fail
      refine (few3E _ HG.out).mono ?_
      rintro ee w4 ⟨rfl, B⟩
      clear xX10 xX11 xX12
      replace X0 := X0.below B
      replace X1 := X1.below B
      replace hT := hT.below B
      replace HB := Lib.hid (bt HB.out B)
      clear B
      go_wp2
      go_ret
      exact ⟨rfl, HB.out⟩
    · by_cases q3 : 1000 < e3
      · clear hi
        go_enter Tryd.func7, Tryd.ntmps7
        go_upto_region 1 with (fail)
        have X0 := (Bo.newAt w (g := w.heap.size) (by simp) #[.bool s0, .slice a0 len0 cap0, .int .i64 e0] 27).below (bel1 _ (.cells #[.bool s1, .slice a1 len1 cap1, .int .i64 e1] 27))
        have X1 := (Bo.newAt (w.alloc (.cells #[.bool s0, .slice a0 len0 cap0, .int .i64 e0] 27)) (g := w.heap.size + 1) (by simp) #[.bool s1, .slice a1 len1 cap1, .int .i64 e1] 27)
        have HB := Lib.hid (bel2 w (.cells #[.bool s0, .slice a0 len0 cap0, .int .i64 e0] 27) (.cells #[.bool s1, .slice a1 len1 cap1, .int .i64 e1] 27))
        replace hT := hT.below HB.out
        generalize hW1 : ((w.alloc (.cells #[.bool s0, .slice a0 len0 cap0, .int .i64 e0] 27)).alloc (.cells #[.bool s1, .slice a1 len1 cap1, .int .i64 e1] 27)) = w1 at *
        clear hW1
        go_wp2_with fail
        refine (awake3 _ hT).mono ?_
        rintro ee w2 ⟨rfl, B⟩
        replace X0 := X0.below B
        replace X1 := X1.below B
        replace hT := hT.below B
        replace HB := Lib.hid (bt HB.out B)
        clear B
        have xX00 := X0.at (i := 0) (v := .bool s0) rfl
        have xX01 := X0.at (i := 1) (v := .slice a0 len0 cap0) rfl
        have xX02 := X0.at (i := 2) (v := .int .i64 e0) rfl
        go_wp2_with fail
        refine (few3E _ HF.out).mono ?_
        rintro ee w3 ⟨rfl, B⟩
        clear xX00 xX01 xX02
        replace X0 := X0.below B
        replace X1 := X1.below B
        replace hT := hT.below B
        replace HB := Lib.hid (bt HB.out B)
        clear B
        have xX10 := X1.at (i := 0) (v := .bool s1) rfl
        have xX11 := X1.at (i := 1) (v := .slice a1 len1 cap1) rfl
        have xX12 := X1.at (i := 2) (v := .int .i64 e1) rfl
        go_wp2_with fail
        refine (few3E _ HG.out).mono ?_
        rintro ee w4 ⟨rfl, B⟩
        clear xX10 xX11 xX12
        replace X0 := X0.below B
        replace X1 := X1.below B
        replace hT := hT.below B
        replace HB := Lib.hid (bt HB.out B)
        clear B
        go_wp2
        go_ret
        exact ⟨rfl, HB.out⟩
      · have q4 : e3 < -1000 := by omega
        clear hi
        go_enter Tryd.func7, Tryd.ntmps7
        go_upto_region 1 with (fail)
        have X0 := (Bo.newAt w (g := w.heap.size) (by simp) #[.bool s0, .slice a0 len0 cap0, .int .i64 e0] 27).below (bel1 _ (.cells #[.bool s1, .slice a1 len1 cap1, .int .i64 e1] 27))
        have X1 := (Bo.newAt (w.alloc (.cells #[.bool s0, .slice a0 len0 cap0, .int .i64 e0] 27)) (g := w.heap.size + 1) (by simp) #[.bool s1, .slice a1 len1 cap1, .int .i64 e1] 27)
        have HB := Lib.hid (bel2 w (.cells #[.bool s0, .slice a0 len0 cap0, .int .i64 e0] 27) (.cells #[.bool s1, .slice a1 len1 cap1, .int .i64 e1] 27))
        replace hT := hT.below HB.out
        generalize hW1 : ((w.alloc (.cells #[.bool s0, .slice a0 len0 cap0, .int .i64 e0] 27)).alloc (.cells #[.bool s1, .slice a1 len1 cap1, .int .i64 e1] 27)) = w1 at *
        clear hW1
        go_wp2_with fail
        refine (awake3 _ hT).mono ?_
        rintro ee w2 ⟨rfl, B⟩
        replace X0 := X0.below B
        replace X1 := X1.below B
        replace hT := hT.below B
        replace HB := Lib.hid (bt HB.out B)
        clear B
        have xX00 := X0.at (i := 0) (v := .bool s0) rfl
        have xX01 := X0.at (i := 1) (v := .slice a0 len0 cap0) rfl
        have xX02 := X0.at (i := 2) (v := .int .i64 e0) rfl
        go_wp2_with fail
        refine (few3E _ HF.out).mono ?_
        rintro ee w3 ⟨rfl, B⟩
        clear xX00 xX01 xX02
        replace X0 := X0.below B
        replace X1 := X1.below B
        replace hT := hT.below B
        replace HB := Lib.hid (bt HB.out B)
        clear B
        have xX10 := X1.at (i := 0) (v := .bool s1) rfl
        have xX11 := X1.at (i := 1) (v := .slice a1 len1 cap1) rfl
        have xX12 := X1.at (i := 2) (v := .int .i64 e1) rfl
        go_wp2_with fail
        refine (few3E _ HG.out).mono ?_
        rintro ee w4 ⟨rfl, B⟩
        clear xX10 xX11 xX12
        replace X0 := X0.below B
        replace X1 := X1.below B
        replace hT := hT.below B
        replace HB := Lib.hid (bt HB.out B)
        clear B
        go_wp2
        go_ret
        exact ⟨rfl, HB.out⟩

theorem dyMoves_walk (s0 : Bool) (a0 : Option Addr) (len0 cap0 : Nat) (y0 : List Int) (e0 : Int) (s1 : Bool) (a1 : Option Addr) (len1 cap1 : Nat) (y1 : List Int) (e1 : Int) (e2 : Int) (e3 : Int) (w : World) (hT : Tab w) (w0 : RowIn w a0 len0 cap0 y0) (w1 : RowIn w a1 len1 cap1 y1) (w2 : (Lit.int .i64 e2).wf = true) (w3 : (Lit.int .i64 e3).wf = true) :
    Calls Tryd.prog 7 #[.agg #[.bool s0, .slice a0 len0 cap0, .int .i64 e0], .agg #[.bool s1, .slice a1 len1 cap1, .int .i64 e1], .int .i64 e2, .int .i64 e3] w fun e w' => e = .returned (.bool true) ∧ Below w.heap.size w w' := by
  by_cases hf : fewB len0 e0 = true
  · by_cases hg : fewB len1 e1 = true
    · by_cases hi : -1000 ≤ e2 ∧ e2 ≤ 1000 ∧ -1000 ≤ e3 ∧ e3 ≤ 1000
      · obtain ⟨u, r0⟩ := w0.rd (by have := (fewB_true hf).1; omega)
        obtain ⟨v, r1⟩ := w1.rd (by have := (fewB_true hg).1; omega)
        exact dyMoves_main s0 a0 len0 cap0 e0 s1 a1 len1 cap1 e1 e2 e3 w _ _ hT (r0.wr s0) (r1.wr s1) hf hg hi.1 hi.2.1 hi.2.2.1 hi.2.2.2
      · exact dyMoves_far2 s0 a0 len0 cap0 e0 s1 a1 len1 cap1 e1 e2 e3 w hT hf hg hi
    · exact dyMoves_far1 s0 a0 len0 cap0 e0 s1 a1 len1 cap1 e1 e2 e3 w hT hf (by simpa using hg)
  · exact dyMoves_far0 s0 a0 len0 cap0 e0 s1 a1 len1 cap1 e1 e2 e3 w hT _ (by simpa using hf) rfl
end Go.Proofs.YteoeoppkefcmdaaDoor

/-
  The walk of DyParts: for all arguments, where the table lies as it was laid, the call answers true, and nothing that was there has turned.
-/
import Derived.Test.YteoeoppkefcmdaaDoorZa
import Derived.Test.YteoeoppkefcmdaaDoorZb
import Derived.Test.YteoeoppkefcmdaaDoorZc
import Derived.Test.YteoeoppkefcmdaaDoorZd
namespace Go.Proofs.YteoeoppkefcmdaaDoor
open Go.RowKit
set_option linter.unusedVariables false

set_option maxRecDepth 100000 in
set_option maxHeartbeats 8000000 in
theorem dyParts_main (s0 : Bool) (a0 : Option Addr) (len0 cap0 : Nat) (e0 : Int) (w : World) (z : Int) (hT : Tab w) (h0 : Wr w s0 a0 len0 cap0 z) (hf : fewB len0 e0 = true) :
    Calls Tryd.prog 8 #[.agg #[.bool s0, .slice a0 len0 cap0, .int .i64 e0]] w (PB w true) := by
  obtain ⟨hn, _, _⟩ := fewB_true hf
  have HF := Lib.hid hf
  obtain ⟨η, hη, fP⟩ := raw_fit' h0 hf
  obtain ⟨P, hP⟩ : ∃ P, mk z e0 = P := ⟨_, rfl⟩
  rw [hP] at fP
  obtain ⟨φ, hφ⟩ : ∃ x, flr P.1 P.2 = x := ⟨_, rfl⟩
  obtain ⟨fl1, fl2⟩ := flr_vl fP.nf
  obtain ⟨fS, vS⟩ := flr_fit (by omega) fP
  have hab := (flr_abs (by omega) fP).1
  rw [hφ] at fl1 fl2 fS vS hab
  have hLφ : Lm φ := by
    obtain ⟨L, l1, l2⟩ := (whole_fit (by omega) hab).1.lm (by omega)
    exact ⟨η / 16 + 1, by omega, Nat.lt_of_lt_of_le hab (by
      rw [show (4294967296 : Nat) = 2 ^ 32 by decide, ← Nat.pow_mul]
      exact Nat.pow_le_pow_right (by decide) (by omega))⟩
  obtain ⟨S, hS⟩ : ∃ S, mk φ 0 = S := ⟨_, rfl⟩
  rw [hS] at fS vS
  have nS : mk S.1 S.2 = S := fS.nf
  obtain ⟨fT, vT, cT⟩ := two_fit (a := (z, e0)) (b := ng S) (h := η + 1) (by omega) (by rw [hP]; exact fP.mono (by omega)) (by rw [show mk (ng S).1 (ng S).2 = ng S from ng_nf fS.nf]; exact fS.neg)
  have eT : smd [(z, e0), ng S] = pl P (ng S) := by rw [smd_two, hP, show mk (ng S).1 (ng S).2 = ng S from ng_nf fS.nf]
  rw [eT, hP, show mk (ng S).1 (ng S).2 = ng S from ng_nf fS.nf, vl_ng, vS] at vT
  rw [eT] at fT
  obtain ⟨T, hTT⟩ : ∃ T, pl P (ng S) = T := ⟨_, rfl⟩
  rw [hTT] at fT vT
  have nT : mk T.1 T.2 = T := fT.nf
  obtain ⟨fU, vU, cU⟩ := two_fit (a := (S.1, S.2)) (b := (T.1, T.2)) (h := η + 3) (by omega) (by rw [nS]; exact fS.mono (by omega)) (by rw [nT]; exact fT.mono (by omega))
  rw [nS, nT, vS, vT] at vU
  obtain ⟨U, hU⟩ : ∃ U, smd [(S.1, S.2), (T.1, T.2)] = U := ⟨_, rfl⟩
  rw [hU] at fU vU
  have nU : mk U.1 U.2 = U := fU.nf
  obtain ⟨fM, vM⟩ := ml_fit (by omega) fT fT.neg
  obtain ⟨M, hM⟩ : ∃ M, ml T (ng T) = M := ⟨_, rfl⟩
  rw [show ((-T.1, T.2) : Int × Int) = ng T from rfl, hM, vl_ng] at vM
  rw [show ((-T.1, T.2) : Int × Int) = ng T from rfl, hM] at fM
  have nM : mk M.1 M.2 = M := fM.nf
  have nN : mk (ng T).1 (ng T).2 = ng T := ng_nf fT.nf
  have hq := p2pos KK
  obtain ⟨σ, hσ⟩ : ∃ x, cmpI T.1 0 = x := ⟨_, rfl⟩
  have σ0 : 0 ≤ σ := by
    rw [← hσ, ← vl_sign]
    have : 0 ≤ vl T := by rw [vT]; omega
    rcases cmpI_cases (vl T) with ⟨a, _⟩ | ⟨_, b⟩ | ⟨_, b⟩ <;> omega
  obtain ⟨μ, hμ⟩ : ∃ x, cmpI M.1 0 = x := ⟨_, rfl⟩
  have μ0 : μ ≤ 0 := by
    rw [← hμ, ← vl_sign]
    have h1 : vl M * 2 ^ KK ≤ 0 := by
      rw [vM, Int.mul_neg]
      have := sq_nonneg' (vl T)
      omega
    rcases cmpI_cases (vl M) with ⟨_, b⟩ | ⟨_, b⟩ | ⟨a, _⟩
    · omega
    · omega
    · exact absurd h1 (Int.not_le.2 (Int.mul_pos a hq))
  have c1 : cmpI (vl T) (vl (1, 0)) = -1 := cmpI_lt (by
    rw [vT, vl_one]
    rw [Int.add_mul, Int.one_mul] at fl2
    omega)
  have c2 : cmpI (vl U) (vl P) = 0 := cmpI_eq (by omega)
  have HP := Lib.hid hP
  have HPφ : Hid (flr (mk z e0).1 (mk z e0).2 = φ) := Lib.hid (by rw [hP]; exact hφ)
  have HS1 := Lib.hid (congrArg Prod.fst hS)
  have HS2 := Lib.hid (congrArg Prod.snd hS)
  have HnS := Lib.hid nS
  have HnT := Lib.hid nT
  have HnU := Lib.hid nU
  have HnM := Lib.hid nM
  have HnN := Lib.hid nN
  have HT := Lib.hid hTT
  have HU := Lib.hid hU
  have HM := Lib.hid hM
  have Hσ := Lib.hid hσ
  have Hμ := Lib.hid hμ
  have HcT := Lib.hid cT
  have HcU := Lib.hid cU
  have HC1 := Lib.hid c1
  have HC2 := Lib.hid c2
  have HLφ := Lib.hid hLφ
  have HLS := Lib.hid (fS.lm (by omega))
  have HLT := Lib.hid (fT.lm (by omega))
  have HLU := Lib.hid (fU.lm (by omega))
  have HLM := Lib.hid (fM.lm (by omega))
  have HO1 := Lib.hid (congrArg Prod.fst one_nf)
  have HO2 := Lib.hid (congrArg Prod.snd one_nf)
  simp only at HO1 HO2
  clear hf fP hP hφ fl1 fl2 fS vS hab hLφ hS nS fT vT cT eT hTT nT fU vU cU hU nU fM vM hM nM nN hq hσ hμ c1 c2 hη
  go_enter Tryd.func8, Tryd.ntmps8
  go_upto_region 1 with (fail)
  have X0 := (Bo.newAt w (g := w.heap.size) (by simp) #[.bool s0, .slice a0 len0 cap0, .int .i64 e0] 27)
  have HB := Lib.hid (bel1 w (.cells #[.bool s0, .slice a0 len0 cap0, .int .i64 e0] 27))
  replace hT := hT.below HB.out
  replace h0 := h0.below HB.out
  generalize hW1 : (w.alloc (.cells #[.bool s0, .slice a0 len0 cap0, .int .i64 e0] 27)) = w1 at *
  clear hW1
  go_wp2_with fail
  refine (awake3 _ hT).mono ?_
  rintro ee w2 ⟨rfl, B⟩
  replace X0 := X0.below B
  replace hT := hT.below B
  replace h0 := h0.below B
  replace HB := Lib.hid (bt HB.out B)
  clear B
  have xX00 := X0.at (i := 0) (v := .bool s0) rfl
  have xX01 := X0.at (i := 1) (v := .slice a0 len0 cap0) rfl
  have xX02 := X0.at (i := 2) (v := .int .i64 e0) rfl
  go_wp2_with fail
  refine (few3E _ HF.out).mono ?_
  rintro ee w3 ⟨rfl, B⟩
  clear xX00 xX01 xX02
  replace X0 := X0.below B
  replace hT := hT.below B
  replace h0 := h0.below B
  replace HB := Lib.hid (bt HB.out B)
  clear B
  go_upto_region 5 with (fail)
  have xX00 := X0.at (i := 0) (v := .bool s0) rfl
  have xX01 := X0.at (i := 1) (v := .slice a0 len0 cap0) rfl
  have xX02 := X0.at (i := 2) (v := .int .i64 e0) rfl
  go_wp2_with fail
  refine (dFloor hT h0 (by omega) HPφ.out).mono ?_
  rintro ee w4 ⟨s1, A1, n1, c1, rfl, p1, k1, B⟩
  clear xX00 xX01 xX02
  replace X0 := X0.below B
  replace hT := hT.below B
  replace h0 := h0.below B
  replace HB := Lib.hid (bt HB.out B)
  clear B
  have j1 := p1.lm HLφ.out
  go_wp2_with fail
  refine (dMake hT p1.wr (by omega) HS1.out HS2.out).mono ?_
  rintro ee w5 ⟨s2, A2, n2, c2, rfl, p2, k2, B⟩
  replace X0 := X0.below B
  replace hT := hT.below B
  replace h0 := h0.below B
  replace p1 := p1.below B
  replace HB := Lib.hid (bt HB.out B)
  clear B
  go_upto_region 6 with (fail)
  have j2 := p2.lm HLS.out
  clear p1 k1 k2 j1
  have lX5 := Nat.le_refl (World.heap w5).size
  have nX5X0 := X0.lt
  replace X0 := X0.below (bel1 _ (.cells #[.bool s2, .slice A2 n2 c2, .int .i64 S.2] 27))
  replace hT := hT.below (bel1 _ (.cells #[.bool s2, .slice A2 n2 c2, .int .i64 S.2] 27))
  replace h0 := h0.below (bel1 _ (.cells #[.bool s2, .slice A2 n2 c2, .int .i64 S.2] 27))
  replace p2 := p2.below (bel1 _ (.cells #[.bool s2, .slice A2 n2 c2, .int .i64 S.2] 27))
  replace HB := Lib.hid (bt HB.out (bel1 _ (.cells #[.bool s2, .slice A2 n2 c2, .int .i64 S.2] 27)))
  have X5 := Bo.new w5 #[.bool s2, .slice A2 n2 c2, .int .i64 S.2] 27
  generalize hWn : World.alloc w5 (.cells #[.bool s2, .slice A2 n2 c2, .int .i64 S.2] 27) = w6 at *
  clear hWn
  have xX00 := X0.at (i := 0) (v := .bool s0) rfl
  have xX01 := X0.at (i := 1) (v := .slice a0 len0 cap0) rfl
  have xX02 := X0.at (i := 2) (v := .int .i64 e0) rfl
  have xX50 := X5.at (i := 0) (v := .bool s2) rfl
  have xX51 := X5.at (i := 1) (v := .slice A2 n2 c2) rfl
  have xX52 := X5.at (i := 2) (v := .int .i64 S.2) rfl
  go_wp2_with fail
  refine (dSub hT h0 p2.wr (by omega) j2 (by rw [HnS.out]; exact HcT.out) (by rw [HP.out, HnS.out, HT.out]) (by rw [HP.out, HnS.out, HT.out])).mono ?_
  rintro ee w7 ⟨s3, A3, n3, c3, rfl, p3, k3, B⟩
  clear xX00 xX01 xX02 xX50 xX51 xX52
  replace X0 := X0.below B
  replace X5 := X5.below B
  replace hT := hT.below B
  replace h0 := h0.below B
  replace p2 := p2.below B
  replace HB := Lib.hid (bt HB.out B)
  clear B
  go_upto_region 7 with (fail)
  have lX6 := Nat.le_refl (World.heap w7).size
  have nX6X0 := X0.lt
  have nX6X5 := X5.lt
  replace X0 := X0.below (bel1 _ (.cells #[.bool s3, .slice A3 n3 c3, .int .i64 T.2] 27))
  replace X5 := X5.below (bel1 _ (.cells #[.bool s3, .slice A3 n3 c3, .int .i64 T.2] 27))
  replace hT := hT.below (bel1 _ (.cells #[.bool s3, .slice A3 n3 c3, .int .i64 T.2] 27))
  replace h0 := h0.below (bel1 _ (.cells #[.bool s3, .slice A3 n3 c3, .int .i64 T.2] 27))
  replace p2 := p2.below (bel1 _ (.cells #[.bool s3, .slice A3 n3 c3, .int .i64 T.2] 27))
  replace p3 := p3.below (bel1 _ (.cells #[.bool s3, .slice A3 n3 c3, .int .i64 T.2] 27))
  replace HB := Lib.hid (bt HB.out (bel1 _ (.cells #[.bool s3, .slice A3 n3 c3, .int .i64 T.2] 27)))
  have X6 := Bo.new w7 #[.bool s3, .slice A3 n3 c3, .int .i64 T.2] 27
  generalize hWn : World.alloc w7 (.cells #[.bool s3, .slice A3 n3 c3, .int .i64 T.2] 27) = w8 at *
  clear hWn
  clear lX5 lX6 nX5X0 nX6X0 nX6X5
  refine Jo.region_joint (T := [0, 1, 2, 3, 4, 5, 6, 7, 8, 9, 10, 11, 12, 13, 14, 15, 16, 17, 18, 19, 20, 21, 22, 23, 24, 25, 26, 27]) (ds := [some 23, some 24, some 25, some 26, some 27, some 28, some 29, some 30, some 31, some 32, some 33, some 34, some 35, some 36, some 37, some 38, some 39, some 40, some 41, some 42, some 43, some 44, some 45, some 46, some 47, some 48, some 49, some 2]) (ls := [[], [0], [1], [2], [3], [3], [3, 5], [3, 4, 6], [3, 7], [3, 8], [9], [10], [10], [10, 11, 12], [10, 13], [10], [10, 14, 15], [10, 16], [10, 17], [18], [19], [19], [19, 21], [19, 20, 22], [19, 23], [19, 24], [19, 25], [26]]) (k := 28) (L := [(some 23, 0), (some 24, 1), (some 25, 2), (some 26, 3), (some 27, 4), (some 28, 5), (some 29, 6), (some 30, 7), (some 31, 8), (some 32, 9), (some 33, 10), (some 34, 11), (some 35, 12), (some 36, 13), (some 37, 14), (some 38, 15), (some 39, 16), (some 40, 17), (some 41, 18), (some 42, 19), (some 43, 20), (some 44, 21), (some 45, 22), (some 46, 23), (some 47, 24), (some 48, 25), (some 49, 26), (some 2, 27)]) (fuel := 0) (J := fun wj => Below (World.heap w8).size w8 wj)
    (F := [Jo.Fact.eq (.agg #[.bool s3, .slice A3 n3 c3, .int .i64 T.2]), Jo.Fact.eq (.int .i64 σ), Jo.Fact.eq (.bool true), Jo.Fact.eq (.bool true), Jo.Fact.eq (.agg #[.bool s3, .slice A3 n3 c3, .int .i64 T.2]), Jo.Fact.wn 1 2, Jo.Fact.dy 1 0 2, Jo.Fact.eq (.int .i64 (-1)), Jo.Fact.eq (.bool true), Jo.Fact.eq (.bool true), Jo.Fact.eq (.bool true), Jo.Fact.eq (.agg #[.bool s2, .slice A2 n2 c2, .int .i64 S.2]), Jo.Fact.eq (.agg #[.bool s3, .slice A3 n3 c3, .int .i64 T.2]), Jo.Fact.dl 20000 2 [(S.1, S.2), (T.1, T.2)], Jo.Fact.dy U.1 U.2 20000, Jo.Fact.eq (.agg #[.bool s0, .slice a0 len0 cap0, .int .i64 e0]), Jo.Fact.eq (.int .i64 0), Jo.Fact.eq (.bool true), Jo.Fact.eq (.bool true), Jo.Fact.eq (.bool true), Jo.Fact.eq (.agg #[.bool s3, .slice A3 n3 c3, .int .i64 T.2]), Jo.Fact.eq (.agg #[.bool s3, .slice A3 n3 c3, .int .i64 T.2]), Jo.Fact.dy (ng T).1 (ng T).2 20000, Jo.Fact.dy M.1 M.2 20000, Jo.Fact.eq (.int .i64 μ), Jo.Fact.eq (.bool true), Jo.Fact.eq (.bool true), Jo.Fact.eq (.bool true)])
    (by kernel_rfl) (by kernel_rfl) (by decide) rfl rfl (fun _ _ h b => bt h b) ((Below.refl _ _).drew) ?_ (fun vs w9 hJ hd => ?_)
  · refine Jo.jcons (i := 0) (o := ⟨some 23, _, _, _, _, _⟩) (di := some 23) (L := []) (f := Jo.Fact.eq (.agg #[.bool s3, .slice A3 n3 c3, .int .i64 T.2])) rfl rfl rfl rfl (fun vs wj hJ hd K hK => ?_) ?_
    · clear hd
      simp only [Jo.putl, List.foldl_nil, Act.put, List.setIfInBounds_toArray, List.set_cons_zero, List.set_cons_succ] at hK ⊢
      have xX60 : World.cell? wj ⟨w7.heap.size, 0, none⟩ = some (.bool s3) := (X6.below hJ).cell 0
      have xX61 : World.cell? wj ⟨w7.heap.size, 1, none⟩ = some (.slice A3 n3 c3) := (X6.below hJ).cell 1
      have xX62 : World.cell? wj ⟨w7.heap.size, 2, none⟩ = some (.int .i64 T.2) := (X6.below hJ).cell 2
      go_simp
      exact hK.out _ _ rfl (Below.refl _ _)
    refine Jo.jcons (i := 1) (o := ⟨some 24, _, _, _, _, _⟩) (di := some 24) (L := [(some 23, 0)]) (f := Jo.Fact.eq (.int .i64 σ)) rfl rfl rfl rfl (fun vs wj hJ hd K hK => ?_) ?_
    · have d0 : (Jo.Fact.eq (.agg #[.bool s3, .slice A3 n3 c3, .int .i64 T.2])).P (vs 0) wj := hd 0 (by decide)
      clear hd
      simp only [Jo.putl, List.foldl_cons, List.foldl_nil, Act.put, List.setIfInBounds_toArray, List.set_cons_zero, List.set_cons_succ] at hK ⊢
      generalize vs 0 = u0 at hK d0 ⊢
      replace d0 : u0 = _ := d0
      subst d0
      go_simp
      refine (dSign (r := σ) (hT.below hJ) (p3.below hJ).wr (by omega) (by rw [HnT.out]; exact Hσ.out)).mono ?_
      rintro ee wk ⟨rfl, B⟩
      exact hK.out _ _ rfl B
    refine Jo.jcons (i := 2) (o := ⟨some 25, _, _, _, _, _⟩) (di := some 25) (L := [(some 24, 1)]) (f := Jo.Fact.eq (.bool true)) rfl rfl rfl rfl (fun vs wj hJ hd K hK => ?_) ?_
    · have d1 : (Jo.Fact.eq (.int .i64 σ)).P (vs 1) wj := hd 1 (by decide)
      clear hd
      simp only [Jo.putl, List.foldl_cons, List.foldl_nil, Act.put, List.setIfInBounds_toArray, List.set_cons_zero, List.set_cons_succ] at hK ⊢
      generalize vs 1 = u1 at hK d1 ⊢
      replace d1 : u1 = _ := d1
      subst d1
      go_simp
      exact hK.out _ _ (by first | rfl | simp) (Below.refl _ _)
    refine Jo.jcons (i := 3) (o := ⟨some 26, _, _, _, _, _⟩) (di := some 26) (L := [(some 25, 2)]) (f := Jo.Fact.eq (.bool true)) rfl rfl rfl rfl (fun vs wj hJ hd K hK => ?_) ?_
    · have d2 : (Jo.Fact.eq (.bool true)).P (vs 2) wj := hd 2 (by decide)
      clear hd
      simp only [Jo.putl, List.foldl_cons, List.foldl_nil, Act.put, List.setIfInBounds_toArray, List.set_cons_zero, List.set_cons_succ] at hK ⊢
      generalize vs 2 = u2 at hK d2 ⊢
      replace d2 : u2 = _ := d2
      subst d2
      go_simp
      exact hK.out _ _ rfl (Below.refl _ _)
    refine Jo.jcons (i := 4) (o := ⟨some 27, _, _, _, _, _⟩) (di := some 27) (L := [(some 26, 3)]) (f := Jo.Fact.eq (.agg #[.bool s3, .slice A3 n3 c3, .int .i64 T.2])) rfl rfl rfl rfl (fun vs wj hJ hd K hK => ?_) ?_
    · have d3 : (Jo.Fact.eq (.bool true)).P (vs 3) wj := hd 3 (by decide)
      clear hd
      simp only [Jo.putl, List.foldl_cons, List.foldl_nil, Act.put, List.setIfInBounds_toArray, List.set_cons_zero, List.set_cons_succ] at hK ⊢
      generalize vs 3 = u3 at hK d3 ⊢
      replace d3 : u3 = _ := d3
      subst d3
      have xX60 : World.cell? wj ⟨w7.heap.size, 0, none⟩ = some (.bool s3) := (X6.below hJ).cell 0
      have xX61 : World.cell? wj ⟨w7.heap.size, 1, none⟩ = some (.slice A3 n3 c3) := (X6.below hJ).cell 1
      have xX62 : World.cell? wj ⟨w7.heap.size, 2, none⟩ = some (.int .i64 T.2) := (X6.below hJ).cell 2
      go_simp
      exact hK.out _ _ rfl (Below.refl _ _)
    refine Jo.jcons (i := 5) (o := ⟨some 28, _, _, _, _, _⟩) (di := some 28) (L := [(some 26, 3)]) (f := Jo.Fact.wn 1 2) rfl rfl rfl rfl (fun vs wj hJ hd K hK => ?_) ?_
    · have d3 : (Jo.Fact.eq (.bool true)).P (vs 3) wj := hd 3 (by decide)
      clear hd
      simp only [Jo.putl, List.foldl_cons, List.foldl_nil, Act.put, List.setIfInBounds_toArray, List.set_cons_zero, List.set_cons_succ] at hK ⊢
      generalize vs 3 = u3 at hK d3 ⊢
      replace d3 : u3 = _ := d3
      subst d3
      go_simp
      refine (wFrom 1 _ (by omega) (by omega)).mono ?_
      rintro ee wk ⟨s11, A11, n11, c11, rfl, p11, k11, B⟩
      exact hK.out _ _ ⟨s11, A11, n11, c11, rfl, p11, k11⟩ B
    refine Jo.jcons (i := 6) (o := ⟨some 29, _, _, _, _, _⟩) (di := some 29) (L := [(some 26, 3), (some 28, 5)]) (f := Jo.Fact.dy 1 0 2) rfl rfl rfl rfl (fun vs wj hJ hd K hK => ?_) ?_
    · have d3 : (Jo.Fact.eq (.bool true)).P (vs 3) wj := hd 3 (by decide)
      have d5 : (Jo.Fact.wn 1 2).P (vs 5) wj := hd 5 (by decide)
      clear hd
      simp only [Jo.putl, List.foldl_cons, List.foldl_nil, Act.put, List.setIfInBounds_toArray, List.set_cons_zero, List.set_cons_succ] at hK ⊢
      generalize vs 3 = u3 at hK d3 ⊢
      generalize vs 5 = u5 at hK d5 ⊢
      replace d3 : u3 = _ := d3
      subst d3
      obtain ⟨s11, A11, n11, c11, rfl, p11, k11⟩ := d5
      go_simp
      refine (dMake (hT.below hJ) p11.wr (by omega) HO1.out HO2.out).mono ?_
      rintro ee wk ⟨s12, A12, n12, c12, rfl, p12, k12, B⟩
      exact hK.out _ _ ⟨s12, A12, n12, c12, rfl, p12, Nat.le_trans k12 k11⟩ B
    refine Jo.jcons (i := 7) (o := ⟨some 30, _, _, _, _, _⟩) (di := some 30) (L := [(some 26, 3), (some 27, 4), (some 29, 6)]) (f := Jo.Fact.eq (.int .i64 (-1))) rfl rfl rfl rfl (fun vs wj hJ hd K hK => ?_) ?_
    · have d3 : (Jo.Fact.eq (.bool true)).P (vs 3) wj := hd 3 (by decide)
      have d4 : (Jo.Fact.eq (.agg #[.bool s3, .slice A3 n3 c3, .int .i64 T.2])).P (vs 4) wj := hd 4 (by decide)
      have d6 : (Jo.Fact.dy 1 0 2).P (vs 6) wj := hd 6 (by decide)
      clear hd
      simp only [Jo.putl, List.foldl_cons, List.foldl_nil, Act.put, List.setIfInBounds_toArray, List.set_cons_zero, List.set_cons_succ] at hK ⊢
      generalize vs 3 = u3 at hK d3 ⊢
      generalize vs 4 = u4 at hK d4 ⊢
      generalize vs 6 = u6 at hK d6 ⊢
      replace d3 : u3 = _ := d3
      subst d3
      replace d4 : u4 = _ := d4
      subst d4
      obtain ⟨s12, A12, n12, c12, rfl, p12, k12⟩ := d6
      go_simp
      refine (dCmp (hT.below hJ) (p3.below hJ).wr p12.wr (by omega) (by omega) (r := -1) (by rw [HnT.out, one_nf]; exact HC1.out)).mono ?_
      rintro ee wk ⟨rfl, B⟩
      exact hK.out _ _ rfl B
    refine Jo.jcons (i := 8) (o := ⟨some 31, _, _, _, _, _⟩) (di := some 31) (L := [(some 26, 3), (some 30, 7)]) (f := Jo.Fact.eq (.bool true)) rfl rfl rfl rfl (fun vs wj hJ hd K hK => ?_) ?_
    · have d3 : (Jo.Fact.eq (.bool true)).P (vs 3) wj := hd 3 (by decide)
      have d7 : (Jo.Fact.eq (.int .i64 (-1))).P (vs 7) wj := hd 7 (by decide)
      clear hd
      simp only [Jo.putl, List.foldl_cons, List.foldl_nil, Act.put, List.setIfInBounds_toArray, List.set_cons_zero, List.set_cons_succ] at hK ⊢
      generalize vs 3 = u3 at hK d3 ⊢
      generalize vs 7 = u7 at hK d7 ⊢
      replace d3 : u3 = _ := d3
      subst d3
      replace d7 : u7 = _ := d7
      subst d7
      go_simp
      exact hK.out _ _ (by first | rfl | simp) (Below.refl _ _)
    refine Jo.jcons (i := 9) (o := ⟨some 32, _, _, _, _, _⟩) (di := some 32) (L := [(some 26, 3), (some 31, 8)]) (f := Jo.Fact.eq (.bool true)) rfl rfl rfl rfl (fun vs wj hJ hd K hK => ?_) ?_
    · have d3 : (Jo.Fact.eq (.bool true)).P (vs 3) wj := hd 3 (by decide)
      have d8 : (Jo.Fact.eq (.bool true)).P (vs 8) wj := hd 8 (by decide)
      clear hd
      simp only [Jo.putl, List.foldl_cons, List.foldl_nil, Act.put, List.setIfInBounds_toArray, List.set_cons_zero, List.set_cons_succ] at hK ⊢
      generalize vs 3 = u3 at hK d3 ⊢
      generalize vs 8 = u8 at hK d8 ⊢
      replace d3 : u3 = _ := d3
      subst d3
      replace d8 : u8 = _ := d8
      subst d8
      go_simp
      exact hK.out _ _ rfl (Below.refl _ _)
    refine Jo.jcons (i := 10) (o := ⟨some 33, _, _, _, _, _⟩) (di := some 33) (L := [(some 32, 9)]) (f := Jo.Fact.eq (.bool true)) rfl rfl rfl rfl (fun vs wj hJ hd K hK => ?_) ?_
    · have d9 : (Jo.Fact.eq (.bool true)).P (vs 9) wj := hd 9 (by decide)
      clear hd
      simp only [Jo.putl, List.foldl_cons, List.foldl_nil, Act.put, List.setIfInBounds_toArray, List.set_cons_zero, List.set_cons_succ] at hK ⊢
      generalize vs 9 = u9 at hK d9 ⊢
      replace d9 : u9 = _ := d9
      subst d9
      go_simp
      exact hK.out _ _ rfl (Below.refl _ _)
    refine Jo.jcons (i := 11) (o := ⟨some 34, _, _, _, _, _⟩) (di := some 34) (L := [(some 33, 10)]) (f := Jo.Fact.eq (.agg #[.bool s2, .slice A2 n2 c2, .int .i64 S.2])) rfl rfl rfl rfl (fun vs wj hJ hd K hK => ?_) ?_
    · have d10 : (Jo.Fact.eq (.bool true)).P (vs 10) wj := hd 10 (by decide)
      clear hd
      simp only [Jo.putl, List.foldl_cons, List.foldl_nil, Act.put, List.setIfInBounds_toArray, List.set_cons_zero, List.set_cons_succ] at hK ⊢
      generalize vs 10 = u10 at hK d10 ⊢
      replace d10 : u10 = _ := d10
      subst d10
      have xX50 : World.cell? wj ⟨w5.heap.size, 0, none⟩ = some (.bool s2) := (X5.below hJ).cell 0
      have xX51 : World.cell? wj ⟨w5.heap.size, 1, none⟩ = some (.slice A2 n2 c2) := (X5.below hJ).cell 1
      have xX52 : World.cell? wj ⟨w5.heap.size, 2, none⟩ = some (.int .i64 S.2) := (X5.below hJ).cell 2
      go_simp
      exact hK.out _ _ rfl (Below.refl _ _)
    refine Jo.jcons (i := 12) (o := ⟨some 35, _, _, _, _, _⟩) (di := some 35) (L := [(some 33, 10)]) (f := Jo.Fact.eq (.agg #[.bool s3, .slice A3 n3 c3, .int .i64 T.2])) rfl rfl rfl rfl (fun vs wj hJ hd K hK => ?_) ?_
    · have d10 : (Jo.Fact.eq (.bool true)).P (vs 10) wj := hd 10 (by decide)
      clear hd
      simp only [Jo.putl, List.foldl_cons, List.foldl_nil, Act.put, List.setIfInBounds_toArray, List.set_cons_zero, List.set_cons_succ] at hK ⊢
      generalize vs 10 = u10 at hK d10 ⊢
      replace d10 : u10 = _ := d10
      subst d10
      have xX60 : World.cell? wj ⟨w7.heap.size, 0, none⟩ = some (.bool s3) := (X6.below hJ).cell 0
      have xX61 : World.cell? wj ⟨w7.heap.size, 1, none⟩ = some (.slice A3 n3 c3) := (X6.below hJ).cell 1
      have xX62 : World.cell? wj ⟨w7.heap.size, 2, none⟩ = some (.int .i64 T.2) := (X6.below hJ).cell 2
      go_simp
      exact hK.out _ _ rfl (Below.refl _ _)
    refine Jo.jcons (i := 13) (o := ⟨some 36, _, _, _, _, _⟩) (di := some 36) (L := [(some 33, 10), (some 34, 11), (some 35, 12)]) (f := Jo.Fact.dl 20000 2 [(S.1, S.2), (T.1, T.2)]) rfl rfl rfl rfl (fun vs wj hJ hd K hK => ?_) ?_
    · have d10 : (Jo.Fact.eq (.bool true)).P (vs 10) wj := hd 10 (by decide)
      have d11 : (Jo.Fact.eq (.agg #[.bool s2, .slice A2 n2 c2, .int .i64 S.2])).P (vs 11) wj := hd 11 (by decide)
      have d12 : (Jo.Fact.eq (.agg #[.bool s3, .slice A3 n3 c3, .int .i64 T.2])).P (vs 12) wj := hd 12 (by decide)
      clear hd
      simp only [Jo.putl, List.foldl_cons, List.foldl_nil, Act.put, List.setIfInBounds_toArray, List.set_cons_zero, List.set_cons_succ] at hK ⊢
      generalize vs 10 = u10 at hK d10 ⊢
      generalize vs 11 = u11 at hK d11 ⊢
      generalize vs 12 = u12 at hK d12 ⊢
      replace d10 : u10 = _ := d10
      subst d10
      replace d11 : u11 = _ := d11
      subst d11
      replace d12 : u12 = _ := d12
      subst d12
      go_simp
      exact hK.out _ _ ⟨_, 2, rfl, Dl.lit2 rfl (p2.below hJ).wr (p3.below hJ).wr (by omega) (by omega)⟩ (bel1 _ _)
    refine Jo.jcons (i := 14) (o := ⟨some 37, _, _, _, _, _⟩) (di := some 37) (L := [(some 33, 10), (some 36, 13)]) (f := Jo.Fact.dy U.1 U.2 20000) rfl rfl rfl rfl (fun vs wj hJ hd K hK => ?_) ?_
    · have d10 : (Jo.Fact.eq (.bool true)).P (vs 10) wj := hd 10 (by decide)
      have d13 : (Jo.Fact.dl 20000 2 [(S.1, S.2), (T.1, T.2)]).P (vs 13) wj := hd 13 (by decide)
      clear hd
      simp only [Jo.putl, List.foldl_cons, List.foldl_nil, Act.put, List.setIfInBounds_toArray, List.set_cons_zero, List.set_cons_succ] at hK ⊢
      generalize vs 10 = u10 at hK d10 ⊢
      generalize vs 13 = u13 at hK d13 ⊢
      replace d10 : u10 = _ := d10
      subst d10
      obtain ⟨A13, c13, rfl, p13⟩ := d13
      go_simp
      refine (dAdd (hT.below hJ) p13 (by omega) HcU.out (congrArg Prod.fst HU.out) (congrArg Prod.snd HU.out)).mono ?_
      rintro ee wk ⟨s14, A14, n14, c14, rfl, p14, k14, B⟩
      exact hK.out _ _ ⟨s14, A14, n14, c14, rfl, p14, p14.lm HLU.out⟩ B
    refine Jo.jcons (i := 15) (o := ⟨some 38, _, _, _, _, _⟩) (di := some 38) (L := [(some 33, 10)]) (f := Jo.Fact.eq (.agg #[.bool s0, .slice a0 len0 cap0, .int .i64 e0])) rfl rfl rfl rfl (fun vs wj hJ hd K hK => ?_) ?_
    · have d10 : (Jo.Fact.eq (.bool true)).P (vs 10) wj := hd 10 (by decide)
      clear hd
      simp only [Jo.putl, List.foldl_cons, List.foldl_nil, Act.put, List.setIfInBounds_toArray, List.set_cons_zero, List.set_cons_succ] at hK ⊢
      generalize vs 10 = u10 at hK d10 ⊢
      replace d10 : u10 = _ := d10
      subst d10
      have xX00 : World.cell? wj ⟨w.heap.size, 0, none⟩ = some (.bool s0) := (X0.below hJ).cell 0
      have xX01 : World.cell? wj ⟨w.heap.size, 1, none⟩ = some (.slice a0 len0 cap0) := (X0.below hJ).cell 1
      have xX02 : World.cell? wj ⟨w.heap.size, 2, none⟩ = some (.int .i64 e0) := (X0.below hJ).cell 2
      go_simp
      exact hK.out _ _ rfl (Below.refl _ _)
    refine Jo.jcons (i := 16) (o := ⟨some 39, _, _, _, _, _⟩) (di := some 39) (L := [(some 33, 10), (some 37, 14), (some 38, 15)]) (f := Jo.Fact.eq (.int .i64 0)) rfl rfl rfl rfl (fun vs wj hJ hd K hK => ?_) ?_
    · have d10 : (Jo.Fact.eq (.bool true)).P (vs 10) wj := hd 10 (by decide)
      have d14 : (Jo.Fact.dy U.1 U.2 20000).P (vs 14) wj := hd 14 (by decide)
      have d15 : (Jo.Fact.eq (.agg #[.bool s0, .slice a0 len0 cap0, .int .i64 e0])).P (vs 15) wj := hd 15 (by decide)
      clear hd
      simp only [Jo.putl, List.foldl_cons, List.foldl_nil, Act.put, List.setIfInBounds_toArray, List.set_cons_zero, List.set_cons_succ] at hK ⊢
      generalize vs 10 = u10 at hK d10 ⊢
      generalize vs 14 = u14 at hK d14 ⊢
      generalize vs 15 = u15 at hK d15 ⊢
      replace d10 : u10 = _ := d10
      subst d10
      obtain ⟨s14, A14, n14, c14, rfl, p14, k14⟩ := d14
      replace d15 : u15 = _ := d15
      subst d15
      go_simp
      refine (dCmp (hT.below hJ) p14.wr (h0.below hJ) (by omega) (by omega) (r := 0) (by rw [HnU.out, HP.out]; exact HC2.out)).mono ?_
      rintro ee wk ⟨rfl, B⟩
      exact hK.out _ _ rfl B
    refine Jo.jcons (i := 17) (o := ⟨some 40, _, _, _, _, _⟩) (di := some 40) (L := [(some 33, 10), (some 39, 16)]) (f := Jo.Fact.eq (.bool true)) rfl rfl rfl rfl (fun vs wj hJ hd K hK => ?_) ?_
    · have d10 : (Jo.Fact.eq (.bool true)).P (vs 10) wj := hd 10 (by decide)
      have d16 : (Jo.Fact.eq (.int .i64 0)).P (vs 16) wj := hd 16 (by decide)
      clear hd
      simp only [Jo.putl, List.foldl_cons, List.foldl_nil, Act.put, List.setIfInBounds_toArray, List.set_cons_zero, List.set_cons_succ] at hK ⊢
      generalize vs 10 = u10 at hK d10 ⊢
      generalize vs 16 = u16 at hK d16 ⊢
      replace d10 : u10 = _ := d10
      subst d10
      replace d16 : u16 = _ := d16
      subst d16
      go_simp
      exact hK.out _ _ (by first | rfl | simp) (Below.refl _ _)
    refine Jo.jcons (i := 18) (o := ⟨some 41, _, _, _, _, _⟩) (di := some 41) (L := [(some 33, 10), (some 40, 17)]) (f := Jo.Fact.eq (.bool true)) rfl rfl rfl rfl (fun vs wj hJ hd K hK => ?_) ?_
    · have d10 : (Jo.Fact.eq (.bool true)).P (vs 10) wj := hd 10 (by decide)
      have d17 : (Jo.Fact.eq (.bool true)).P (vs 17) wj := hd 17 (by decide)
      clear hd
      simp only [Jo.putl, List.foldl_cons, List.foldl_nil, Act.put, List.setIfInBounds_toArray, List.set_cons_zero, List.set_cons_succ] at hK ⊢
      generalize vs 10 = u10 at hK d10 ⊢
      generalize vs 17 = u17 at hK d17 ⊢
      replace d10 : u10 = _ := d10
      subst d10
      replace d17 : u17 = _ := d17
      subst d17
      go_simp
      exact hK.out _ _ rfl (Below.refl _ _)
    refine Jo.jcons (i := 19) (o := ⟨some 42, _, _, _, _, _⟩) (di := some 42) (L := [(some 41, 18)]) (f := Jo.Fact.eq (.bool true)) rfl rfl rfl rfl (fun vs wj hJ hd K hK => ?_) ?_
    · have d18 : (Jo.Fact.eq (.bool true)).P (vs 18) wj := hd 18 (by decide)
      clear hd
      simp only [Jo.putl, List.foldl_cons, List.foldl_nil, Act.put, List.setIfInBounds_toArray, List.set_cons_zero, List.set_cons_succ] at hK ⊢
      generalize vs 18 = u18 at hK d18 ⊢
      replace d18 : u18 = _ := d18
      subst d18
      go_simp
      exact hK.out _ _ rfl (Below.refl _ _)
    refine Jo.jcons (i := 20) (o := ⟨some 43, _, _, _, _, _⟩) (di := some 43) (L := [(some 42, 19)]) (f := Jo.Fact.eq (.agg #[.bool s3, .slice A3 n3 c3, .int .i64 T.2])) rfl rfl rfl rfl (fun vs wj hJ hd K hK => ?_) ?_
    · have d19 : (Jo.Fact.eq (.bool true)).P (vs 19) wj := hd 19 (by decide)
      clear hd
      simp only [Jo.putl, List.foldl_cons, List.foldl_nil, Act.put, List.setIfInBounds_toArray, List.set_cons_zero, List.set_cons_succ] at hK ⊢
      generalize vs 19 = u19 at hK d19 ⊢
      replace d19 : u19 = _ := d19
      subst d19
      have xX60 : World.cell? wj ⟨w7.heap.size, 0, none⟩ = some (.bool s3) := (X6.below hJ).cell 0
      have xX61 : World.cell? wj ⟨w7.heap.size, 1, none⟩ = some (.slice A3 n3 c3) := (X6.below hJ).cell 1
      have xX62 : World.cell? wj ⟨w7.heap.size, 2, none⟩ = some (.int .i64 T.2) := (X6.below hJ).cell 2
      go_simp
      exact hK.out _ _ rfl (Below.refl _ _)
    refine Jo.jcons (i := 21) (o := ⟨some 44, _, _, _, _, _⟩) (di := some 44) (L := [(some 42, 19)]) (f := Jo.Fact.eq (.agg #[.bool s3, .slice A3 n3 c3, .int .i64 T.2])) rfl rfl rfl rfl (fun vs wj hJ hd K hK => ?_) ?_
    · have d19 : (Jo.Fact.eq (.bool true)).P (vs 19) wj := hd 19 (by decide)
      clear hd
      simp only [Jo.putl, List.foldl_cons, List.foldl_nil, Act.put, List.setIfInBounds_toArray, List.set_cons_zero, List.set_cons_succ] at hK ⊢
      generalize vs 19 = u19 at hK d19 ⊢
      replace d19 : u19 = _ := d19
      subst d19
      have xX60 : World.cell? wj ⟨w7.heap.size, 0, none⟩ = some (.bool s3) := (X6.below hJ).cell 0
      have xX61 : World.cell? wj ⟨w7.heap.size, 1, none⟩ = some (.slice A3 n3 c3) := (X6.below hJ).cell 1
      have xX62 : World.cell? wj ⟨w7.heap.size, 2, none⟩ = some (.int .i64 T.2) := (X6.below hJ).cell 2
      go_simp
      exact hK.out _ _ rfl (Below.refl _ _)
    refine Jo.jcons (i := 22) (o := ⟨some 45, _, _, _, _, _⟩) (di := some 45) (L := [(some 42, 19), (some 44, 21)]) (f := Jo.Fact.dy (ng T).1 (ng T).2 20000) rfl rfl rfl rfl (fun vs wj hJ hd K hK => ?_) ?_
    · have d19 : (Jo.Fact.eq (.bool true)).P (vs 19) wj := hd 19 (by decide)
      have d21 : (Jo.Fact.eq (.agg #[.bool s3, .slice A3 n3 c3, .int .i64 T.2])).P (vs 21) wj := hd 21 (by decide)
      clear hd
      simp only [Jo.putl, List.foldl_cons, List.foldl_nil, Act.put, List.setIfInBounds_toArray, List.set_cons_zero, List.set_cons_succ] at hK ⊢
      generalize vs 19 = u19 at hK d19 ⊢
      generalize vs 21 = u21 at hK d21 ⊢
      replace d19 : u19 = _ := d19
      subst d19
      replace d21 : u21 = _ := d21
      subst d21
      go_simp
      refine (dNeg (N := (ng T).1) (E := (ng T).2) (hT.below hJ) (p3.below hJ).wr (by omega) (by rw [HnT.out]; rfl) (by rw [HnT.out]; rfl)).mono ?_
      rintro ee wk ⟨s15, A15, n15, c15, rfl, p15, k15, B⟩
      exact hK.out _ _ ⟨s15, A15, n15, c15, rfl, p15, Nat.le_trans k15 k3⟩ B
    refine Jo.jcons (i := 23) (o := ⟨some 46, _, _, _, _, _⟩) (di := some 46) (L := [(some 42, 19), (some 43, 20), (some 45, 22)]) (f := Jo.Fact.dy M.1 M.2 20000) rfl rfl rfl rfl (fun vs wj hJ hd K hK => ?_) ?_
    · have d19 : (Jo.Fact.eq (.bool true)).P (vs 19) wj := hd 19 (by decide)
      have d20 : (Jo.Fact.eq (.agg #[.bool s3, .slice A3 n3 c3, .int .i64 T.2])).P (vs 20) wj := hd 20 (by decide)
      have d22 : (Jo.Fact.dy (ng T).1 (ng T).2 20000).P (vs 22) wj := hd 22 (by decide)
      clear hd
      simp only [Jo.putl, List.foldl_cons, List.foldl_nil, Act.put, List.setIfInBounds_toArray, List.set_cons_zero, List.set_cons_succ] at hK ⊢
      generalize vs 19 = u19 at hK d19 ⊢
      generalize vs 20 = u20 at hK d20 ⊢
      generalize vs 22 = u22 at hK d22 ⊢
      replace d19 : u19 = _ := d19
      subst d19
      replace d20 : u20 = _ := d20
      subst d20
      obtain ⟨s15, A15, n15, c15, rfl, p15, k15⟩ := d22
      go_simp
      refine (dMul (hT.below hJ) (p3.below hJ).wr p15.wr (by omega) (by omega) (by rw [HnT.out, HnN.out, HM.out]) (by rw [HnT.out, HnN.out, HM.out])).mono ?_
      rintro ee wk ⟨s16, A16, n16, c16, rfl, p16, k16, B⟩
      exact hK.out _ _ ⟨s16, A16, n16, c16, rfl, p16, p16.lm HLM.out⟩ B
    refine Jo.jcons (i := 24) (o := ⟨some 47, _, _, _, _, _⟩) (di := some 47) (L := [(some 42, 19), (some 46, 23)]) (f := Jo.Fact.eq (.int .i64 μ)) rfl rfl rfl rfl (fun vs wj hJ hd K hK => ?_) ?_
    · have d19 : (Jo.Fact.eq (.bool true)).P (vs 19) wj := hd 19 (by decide)
      have d23 : (Jo.Fact.dy M.1 M.2 20000).P (vs 23) wj := hd 23 (by decide)
      clear hd
      simp only [Jo.putl, List.foldl_cons, List.foldl_nil, Act.put, List.setIfInBounds_toArray, List.set_cons_zero, List.set_cons_succ] at hK ⊢
      generalize vs 19 = u19 at hK d19 ⊢
      generalize vs 23 = u23 at hK d23 ⊢
      replace d19 : u19 = _ := d19
      subst d19
      obtain ⟨s16, A16, n16, c16, rfl, p16, k16⟩ := d23
      go_simp
      refine (dSign (r := μ) (hT.below hJ) p16.wr (by omega) (by rw [HnM.out]; exact Hμ.out)).mono ?_
      rintro ee wk ⟨rfl, B⟩
      exact hK.out _ _ rfl B
    refine Jo.jcons (i := 25) (o := ⟨some 48, _, _, _, _, _⟩) (di := some 48) (L := [(some 42, 19), (some 47, 24)]) (f := Jo.Fact.eq (.bool true)) rfl rfl rfl rfl (fun vs wj hJ hd K hK => ?_) ?_
    · have d19 : (Jo.Fact.eq (.bool true)).P (vs 19) wj := hd 19 (by decide)
      have d24 : (Jo.Fact.eq (.int .i64 μ)).P (vs 24) wj := hd 24 (by decide)
      clear hd
      simp only [Jo.putl, List.foldl_cons, List.foldl_nil, Act.put, List.setIfInBounds_toArray, List.set_cons_zero, List.set_cons_succ] at hK ⊢
      generalize vs 19 = u19 at hK d19 ⊢
      generalize vs 24 = u24 at hK d24 ⊢
      replace d19 : u19 = _ := d19
      subst d19
      replace d24 : u24 = _ := d24
      subst d24
      go_simp
      exact hK.out _ _ (by first | rfl | simp) (Below.refl _ _)
    refine Jo.jcons (i := 26) (o := ⟨some 49, _, _, _, _, _⟩) (di := some 49) (L := [(some 42, 19), (some 48, 25)]) (f := Jo.Fact.eq (.bool true)) rfl rfl rfl rfl (fun vs wj hJ hd K hK => ?_) ?_
    · have d19 : (Jo.Fact.eq (.bool true)).P (vs 19) wj := hd 19 (by decide)
      have d25 : (Jo.Fact.eq (.bool true)).P (vs 25) wj := hd 25 (by decide)
      clear hd
      simp only [Jo.putl, List.foldl_cons, List.foldl_nil, Act.put, List.setIfInBounds_toArray, List.set_cons_zero, List.set_cons_succ] at hK ⊢
      generalize vs 19 = u19 at hK d19 ⊢
      generalize vs 25 = u25 at hK d25 ⊢
      replace d19 : u19 = _ := d19
      subst d19
      replace d25 : u25 = _ := d25
      subst d25
      go_simp
      exact hK.out _ _ rfl (Below.refl _ _)
    refine Jo.jcons (i := 27) (o := ⟨some 2, _, _, _, _, _⟩) (di := some 2) (L := [(some 49, 26)]) (f := Jo.Fact.eq (.bool true)) rfl rfl rfl rfl (fun vs wj hJ hd K hK => ?_) ?_
    · have d26 : (Jo.Fact.eq (.bool true)).P (vs 26) wj := hd 26 (by decide)
      clear hd
      simp only [Jo.putl, List.foldl_cons, List.foldl_nil, Act.put, List.setIfInBounds_toArray, List.set_cons_zero, List.set_cons_succ] at hK ⊢
      generalize vs 26 = u26 at hK d26 ⊢
      replace d26 : u26 = _ := d26
      subst d26
      go_simp
      exact hK.out _ _ rfl (Below.refl _ _)
    exact Jo.Steps.nil
  have d0 : (Jo.Fact.eq (.agg #[.bool s3, .slice A3 n3 c3, .int .i64 T.2])).P (vs 0) w9 := hd 0 (by decide)
  have d1 : (Jo.Fact.eq (.int .i64 σ)).P (vs 1) w9 := hd 1 (by decide)
  have d2 : (Jo.Fact.eq (.bool true)).P (vs 2) w9 := hd 2 (by decide)
  have d3 : (Jo.Fact.eq (.bool true)).P (vs 3) w9 := hd 3 (by decide)
  have d4 : (Jo.Fact.eq (.agg #[.bool s3, .slice A3 n3 c3, .int .i64 T.2])).P (vs 4) w9 := hd 4 (by decide)
  have d5 : (Jo.Fact.wn 1 2).P (vs 5) w9 := hd 5 (by decide)
  have d6 : (Jo.Fact.dy 1 0 2).P (vs 6) w9 := hd 6 (by decide)
  have d7 : (Jo.Fact.eq (.int .i64 (-1))).P (vs 7) w9 := hd 7 (by decide)
  have d8 : (Jo.Fact.eq (.bool true)).P (vs 8) w9 := hd 8 (by decide)
  have d9 : (Jo.Fact.eq (.bool true)).P (vs 9) w9 := hd 9 (by decide)
  have d10 : (Jo.Fact.eq (.bool true)).P (vs 10) w9 := hd 10 (by decide)
  have d11 : (Jo.Fact.eq (.agg #[.bool s2, .slice A2 n2 c2, .int .i64 S.2])).P (vs 11) w9 := hd 11 (by decide)
  have d12 : (Jo.Fact.eq (.agg #[.bool s3, .slice A3 n3 c3, .int .i64 T.2])).P (vs 12) w9 := hd 12 (by decide)
  have d13 : (Jo.Fact.dl 20000 2 [(S.1, S.2), (T.1, T.2)]).P (vs 13) w9 := hd 13 (by decide)
  have d14 : (Jo.Fact.dy U.1 U.2 20000).P (vs 14) w9 := hd 14 (by decide)
  have d15 : (Jo.Fact.eq (.agg #[.bool s0, .slice a0 len0 cap0, .int .i64 e0])).P (vs 15) w9 := hd 15 (by decide)
  have d16 : (Jo.Fact.eq (.int .i64 0)).P (vs 16) w9 := hd 16 (by decide)
  have d17 : (Jo.Fact.eq (.bool true)).P (vs 17) w9 := hd 17 (by decide)
  have d18 : (Jo.Fact.eq (.bool true)).P (vs 18) w9 := hd 18 (by decide)
  have d19 : (Jo.Fact.eq (.bool true)).P (vs 19) w9 := hd 19 (by decide)
  have d20 : (Jo.Fact.eq (.agg #[.bool s3, .slice A3 n3 c3, .int .i64 T.2])).P (vs 20) w9 := hd 20 (by decide)
  have d21 : (Jo.Fact.eq (.agg #[.bool s3, .slice A3 n3 c3, .int .i64 T.2])).P (vs 21) w9 := hd 21 (by decide)
  have d22 : (Jo.Fact.dy (ng T).1 (ng T).2 20000).P (vs 22) w9 := hd 22 (by decide)
  have d23 : (Jo.Fact.dy M.1 M.2 20000).P (vs 23) w9 := hd 23 (by decide)
  have d24 : (Jo.Fact.eq (.int .i64 μ)).P (vs 24) w9 := hd 24 (by decide)
  have d25 : (Jo.Fact.eq (.bool true)).P (vs 25) w9 := hd 25 (by decide)
  have d26 : (Jo.Fact.eq (.bool true)).P (vs 26) w9 := hd 26 (by decide)
  have d27 : (Jo.Fact.eq (.bool true)).P (vs 27) w9 := hd 27 (by decide)
  clear hd
  simp only [Jo.putl, List.foldl_cons, List.foldl_nil, Act.put, List.setIfInBounds_toArray, List.set_cons_zero, List.set_cons_succ]
  generalize vs 0 = u0 at d0 ⊢
  generalize vs 1 = u1 at d1 ⊢
  generalize vs 2 = u2 at d2 ⊢
  generalize vs 3 = u3 at d3 ⊢
  generalize vs 4 = u4 at d4 ⊢
  generalize vs 5 = u5 at d5 ⊢
  generalize vs 6 = u6 at d6 ⊢
  generalize vs 7 = u7 at d7 ⊢
  generalize vs 8 = u8 at d8 ⊢
  generalize vs 9 = u9 at d9 ⊢
  generalize vs 10 = u10 at d10 ⊢
  generalize vs 11 = u11 at d11 ⊢
  generalize vs 12 = u12 at d12 ⊢
  generalize vs 13 = u13 at d13 ⊢
  generalize vs 14 = u14 at d14 ⊢
  generalize vs 15 = u15 at d15 ⊢
  generalize vs 16 = u16 at d16 ⊢
  generalize vs 17 = u17 at d17 ⊢
  generalize vs 18 = u18 at d18 ⊢
  generalize vs 19 = u19 at d19 ⊢
  generalize vs 20 = u20 at d20 ⊢
  generalize vs 21 = u21 at d21 ⊢
  generalize vs 22 = u22 at d22 ⊢
  generalize vs 23 = u23 at d23 ⊢
  generalize vs 24 = u24 at d24 ⊢
  generalize vs 25 = u25 at d25 ⊢
  generalize vs 26 = u26 at d26 ⊢
  generalize vs 27 = u27 at d27 ⊢
  clear vs
  replace d0 : u0 = _ := d0
  subst d0
  replace d1 : u1 = _ := d1
  subst d1
  replace d2 : u2 = _ := d2
  subst d2
  replace d3 : u3 = _ := d3
  subst d3
  replace d4 : u4 = _ := d4
  subst d4
  obtain ⟨s11, A11, n11, c11, rfl, _, _⟩ := d5
  obtain ⟨s12, A12, n12, c12, rfl, _, _⟩ := d6
  replace d7 : u7 = _ := d7
  subst d7
  replace d8 : u8 = _ := d8
  subst d8
  replace d9 : u9 = _ := d9
  subst d9
  replace d10 : u10 = _ := d10
  subst d10
  replace d11 : u11 = _ := d11
  subst d11
  replace d12 : u12 = _ := d12
  subst d12
  obtain ⟨A13, c13, rfl, _⟩ := d13
  obtain ⟨s14, A14, n14, c14, rfl, _, _⟩ := d14
  replace d15 : u15 = _ := d15
  subst d15
  replace d16 : u16 = _ := d16
  subst d16
  replace d17 : u17 = _ := d17
  subst d17
  replace d18 : u18 = _ := d18
  subst d18
  replace d19 : u19 = _ := d19
  subst d19
  replace d20 : u20 = _ := d20
  subst d20
  replace d21 : u21 = _ := d21
  subst d21
  obtain ⟨s15, A15, n15, c15, rfl, _, _⟩ := d22
  obtain ⟨s16, A16, n16, c16, rfl, _, _⟩ := d23
  replace d24 : u24 = _ := d24
  subst d24
  replace d25 : u25 = _ := d25
  subst d25
  replace d26 : u26 = _ := d26
  subst d26
  replace d27 : u27 = _ := d27
  subst d27
  replace X0 := X0.below hJ
  replace X5 := X5.below hJ
  replace X6 := X6.below hJ
  replace hT := hT.below hJ
  replace h0 := h0.below hJ
  replace p2 := p2.below hJ
  replace p3 := p3.below hJ
  replace HB := Lib.hid (bt HB.out hJ)
  refine Jo.jdone (by kernel_rfl) ?_
  go_wp2
  go_ret
  exact ⟨rfl, HB.out⟩

set_option maxHeartbeats 2000000 in
theorem dyParts_far (s0 : Bool) (a0 : Option Addr) (len0 cap0 : Nat) (e0 : Int) (w : World) (hT : Tab w) (hf : fewB len0 e0 = false) :
    Calls Tryd.prog 8 #[.agg #[.bool s0, .slice a0 len0 cap0, .int .i64 e0]] w (PB w true) := by
  have HF := Lib.hid hf
  clear hf
  go_enter Tryd.func8, Tryd.ntmps8
  go_upto_region 1 with (fail)
  have X0 := (Bo.newAt w (g := w.heap.size) (by simp) #[.bool s0, .slice a0 len0 cap0, .int .i64 e0] 27)
  have HB := Lib.hid (bel1 w (.cells #[.bool s0, .slice a0 len0 cap0, .int .i64 e0] 27))
  replace hT := hT.below HB.out
  generalize hW1 : (w.alloc (.cells #[.bool s0, .slice a0 len0 cap0, .int .i64 e0] 27)) = w1 at *
  clear hW1
  go_wp2_with fail
  refine (awake3 _ hT).mono ?_
  rintro ee w2 ⟨rfl, B⟩
  replace X0 := X0.below B
  replace hT := hT.below B
  replace HB := Lib.hid (bt HB.out B)
  clear B
  have xX00 := X0.at (i := 0) (v := .bool s0) rfl
  have xX01 := X0.at (i := 1) (v := .slice a0 len0 cap0) rfl
  have xX02 := X0.at (i := 2) (v := .int .i64 e0) rfl
  go_wp2_with fail
  refine (few3E _ HF.out).mono ?_
  rintro ee w3 ⟨rfl, B⟩
  clear xX00 xX01 xX02
  replace X0 := X0.below B
  replace hT := hT.below B
  replace HB := Lib.hid (bt HB.out B)
  clear B
  go_wp2
  go_ret
  exact ⟨rfl, HB.out⟩

theorem dyParts_walk (s0 : Bool) (a0 : Option Addr) (len0 cap0 : Nat) (y0 : List Int) (e0 : Int) (w : World) (hT : Tab w) (w0 : RowIn w a0 len0 cap0 y0) :
    Calls Tryd.prog 8 #[.agg #[.bool s0, .slice a0 len0 cap0, .int .i64 e0]] w fun e w' => e = .returned (.bool true) ∧ Below w.heap.size w w' := by
  by_cases hf : fewB len0 e0 = true
  · obtain ⟨u, r0⟩ := w0.rd (by have := (fewB_true hf).1; omega)
    exact dyParts_main s0 a0 len0 cap0 e0 w _ hT (r0.wr s0) hf
  · exact dyParts_far s0 a0 len0 cap0 e0 w hT (by simpa using hf)
end Go.Proofs.YteoeoppkefcmdaaDoor

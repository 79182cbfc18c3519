/-
  The walk of DyFloors: for all arguments, where the table lies as it was laid, the call answers true, and nothing that was there has turned.
-/
import Derived.Test.YteoeoppkefcmdaaDoorZa
import Derived.Test.YteoeoppkefcmdaaDoorZb
import Derived.Test.YteoeoppkefcmdaaDoorZc
import Derived.Test.YteoeoppkefcmdaaDoorZd
namespace Go.Proofs.YteoeoppkefcmdaaDoor
open Go.RowKit
set_option linter.unusedVariables false

set_option maxRecDepth 100000 in
set_option maxHeartbeats 8000000 in
theorem dyFloors_main (s0 : Bool) (a0 : Option Addr) (len0 cap0 : Nat) (e0 : Int) (s1 : Bool) (a1 : Option Addr) (len1 cap1 : Nat) (w : World) (z y : Int) (hT : Tab w) (h0 : Wr w s0 a0 len0 cap0 z) (h1 : Wr w s1 a1 len1 cap1 y) (hf : fewB len0 e0 = true) (hy : len1 ≤ 40) :
    Calls Tryd.prog 6 #[.agg #[.bool s0, .slice a0 len0 cap0, .int .i64 e0], .agg #[.bool s1, .slice a1 len1 cap1]] w (PB w true) := by
  obtain ⟨hn, _, _⟩ := fewB_true hf
  have HF := Lib.hid hf
  obtain ⟨η, hη, fP⟩ := raw_fit' h0 hf
  obtain ⟨P, hP⟩ : ∃ P, mk z e0 = P := ⟨_, rfl⟩
  rw [hP] at fP
  obtain ⟨φ, hφ⟩ : ∃ x, flr P.1 P.2 = x := ⟨_, rfl⟩
  obtain ⟨fl1, fl2⟩ := flr_vl fP.nf
  obtain ⟨hab, hab1⟩ := flr_abs (by omega) fP
  rw [hφ] at fl1 fl2 hab hab1
  obtain ⟨fS, vS⟩ := whole_fit (by omega) hab
  obtain ⟨fB, vB⟩ := whole_fit (by omega) hab1
  have lim : ∀ x : Int, x.natAbs < 2 ^ (η + 1) → Lm x := fun x hx => ⟨η / 16 + 1, by omega, Nat.lt_of_lt_of_le hx (by
      rw [show (4294967296 : Nat) = 2 ^ 32 by decide, ← Nat.pow_mul]
      exact Nat.pow_le_pow_right (by decide) (by omega))⟩
  have hLφ := lim φ hab
  have hLφ1 := lim (φ + 1) hab1
  obtain ⟨S, hS⟩ : ∃ S, mk φ 0 = S := ⟨_, rfl⟩
  rw [hS] at fS vS
  obtain ⟨B, hB⟩ : ∃ B, mk (φ + 1) 0 = B := ⟨_, rfl⟩
  rw [hB] at fB vB
  obtain ⟨θ, hθ, hy1⟩ := limbs40 h1.rd.bound hy
  have hfl := flr_whole (by omega) hy1
  obtain ⟨V, hV⟩ : ∃ V, mk y 0 = V := ⟨_, rfl⟩
  rw [hV] at hfl
  have nV : mk V.1 V.2 = V := by rw [← hV]; exact mk_nf _ _
  obtain ⟨κ, hκ⟩ : ∃ x, cmpI (vl S) (vl P) = x := ⟨_, rfl⟩
  have κ0 : κ ≤ 0 := by
    rw [← hκ]
    rcases Int.lt_trichotomy (vl S) (vl P) with h | h | h
    · rw [cmpI_lt h]; decide
    · rw [cmpI_eq h]; decide
    · omega
  have c1 : cmpI (vl B) (vl P) = 1 := cmpI_gt (by omega)
  have HP := Lib.hid hP
  have HPφ : Hid (flr (mk z e0).1 (mk z e0).2 = φ) := Lib.hid (by rw [hP]; exact hφ)
  have HS1 := Lib.hid (congrArg Prod.fst hS)
  have HS2 := Lib.hid (congrArg Prod.snd hS)
  have HB1 := Lib.hid (congrArg Prod.fst hB)
  have HB2 := Lib.hid (congrArg Prod.snd hB)
  have HV1 := Lib.hid (congrArg Prod.fst hV)
  have HV2 := Lib.hid (congrArg Prod.snd hV)
  have HnS : Hid (mk S.1 S.2 = S) := Lib.hid fS.nf
  have HnB : Hid (mk B.1 B.2 = B) := Lib.hid fB.nf
  have HnV := Lib.hid nV
  have HFV := Lib.hid hfl
  have Hκ := Lib.hid hκ
  have HC1 := Lib.hid c1
  have HLφ := Lib.hid hLφ
  have HLφ1 := Lib.hid hLφ1
  have HLS := Lib.hid (fS.lm (by omega))
  have HLB := Lib.hid (fB.lm (by omega))
  clear hf fP hP hφ fl1 fl2 fS vS fB vB hab hab1 lim hLφ hLφ1 hS hB hV nV hfl hy1 hκ c1 hη hθ
  go_enter Tryd.func6, Tryd.ntmps6
  go_upto_region 1 with (fail)
  have X0 := (Bo.newAt w (g := w.heap.size) (by simp) #[.bool s0, .slice a0 len0 cap0, .int .i64 e0] 27).below (bel1 _ (.cells #[.bool s1, .slice a1 len1 cap1] 24))
  have X1 := (Bo.newAt (w.alloc (.cells #[.bool s0, .slice a0 len0 cap0, .int .i64 e0] 27)) (g := w.heap.size + 1) (by simp) #[.bool s1, .slice a1 len1 cap1] 24)
  have HB := Lib.hid (bel2 w (.cells #[.bool s0, .slice a0 len0 cap0, .int .i64 e0] 27) (.cells #[.bool s1, .slice a1 len1 cap1] 24))
  replace hT := hT.below HB.out
  replace h0 := h0.below HB.out
  replace h1 := h1.below HB.out
  generalize hW1 : ((w.alloc (.cells #[.bool s0, .slice a0 len0 cap0, .int .i64 e0] 27)).alloc (.cells #[.bool s1, .slice a1 len1 cap1] 24)) = w1 at *
  clear hW1
  go_wp2_with fail
  refine (awake3 _ hT).mono ?_
  rintro ee w2 ⟨rfl, B⟩
  replace X0 := X0.below B
  replace X1 := X1.below B
  replace hT := hT.below B
  replace h0 := h0.below B
  replace h1 := h1.below B
  replace HB := Lib.hid (bt HB.out B)
  clear B
  have xX00 := X0.at (i := 0) (v := .bool s0) rfl
  have xX01 := X0.at (i := 1) (v := .slice a0 len0 cap0) rfl
  have xX02 := X0.at (i := 2) (v := .int .i64 e0) rfl
  go_wp2_with fail
  refine (few3E _ HF.out).mono ?_
  rintro ee w3 ⟨rfl, B⟩
  clear xX00 xX01 xX02
  replace X0 := X0.below B
  replace X1 := X1.below B
  replace hT := hT.below B
  replace h0 := h0.below B
  replace h1 := h1.below B
  replace HB := Lib.hid (bt HB.out B)
  clear B
  have xX10 := X1.at (i := 0) (v := .bool s1) rfl
  have xX11 := X1.at (i := 1) (v := .slice a1 len1 cap1) rfl
  go_wp2_with fail
  refine (few_yes _ _ _ _ _ hy).mono ?_
  rintro ee w4 ⟨rfl, B⟩
  clear xX10 xX11
  replace X0 := X0.below B
  replace X1 := X1.below B
  replace hT := hT.below B
  replace h0 := h0.below B
  replace h1 := h1.below B
  replace HB := Lib.hid (bt HB.out B)
  clear B
  have xX00 := X0.at (i := 0) (v := .bool s0) rfl
  have xX01 := X0.at (i := 1) (v := .slice a0 len0 cap0) rfl
  have xX02 := X0.at (i := 2) (v := .int .i64 e0) rfl
  go_upto_region 6 with (fail)
  clear xX00 xX01 xX02
  have xX00 := X0.at (i := 0) (v := .bool s0) rfl
  have xX01 := X0.at (i := 1) (v := .slice a0 len0 cap0) rfl
  have xX02 := X0.at (i := 2) (v := .int .i64 e0) rfl
  go_wp2_with fail
  refine (dFloor hT h0 (by omega) HPφ.out).mono ?_
  rintro ee w5 ⟨s2, A2, n2, c2, rfl, p2, k2, B⟩
  clear xX00 xX01 xX02
  replace X0 := X0.below B
  replace X1 := X1.below B
  replace hT := hT.below B
  replace h0 := h0.below B
  replace h1 := h1.below B
  replace HB := Lib.hid (bt HB.out B)
  clear B
  go_upto_region 7 with (fail)
  have j2 := p2.lm HLφ.out
  clear k2
  have lX8 := Nat.le_refl (World.heap w5).size
  have nX8X0 := X0.lt
  have nX8X1 := X1.lt
  replace X0 := X0.below (bel1 _ (.cells #[.bool s2, .slice A2 n2 c2] 24))
  replace X1 := X1.below (bel1 _ (.cells #[.bool s2, .slice A2 n2 c2] 24))
  replace hT := hT.below (bel1 _ (.cells #[.bool s2, .slice A2 n2 c2] 24))
  replace h0 := h0.below (bel1 _ (.cells #[.bool s2, .slice A2 n2 c2] 24))
  replace h1 := h1.below (bel1 _ (.cells #[.bool s2, .slice A2 n2 c2] 24))
  replace p2 := p2.below (bel1 _ (.cells #[.bool s2, .slice A2 n2 c2] 24))
  replace HB := Lib.hid (bt HB.out (bel1 _ (.cells #[.bool s2, .slice A2 n2 c2] 24)))
  have X8 := Bo.new w5 #[.bool s2, .slice A2 n2 c2] 24
  generalize hWn : World.alloc w5 (.cells #[.bool s2, .slice A2 n2 c2] 24) = w6 at *
  clear hWn
  have xX80 := X8.at (i := 0) (v := .bool s2) rfl
  have xX81 := X8.at (i := 1) (v := .slice A2 n2 c2) rfl
  go_wp2_with fail
  refine (dMake hT p2.wr (by omega) HS1.out HS2.out).mono ?_
  rintro ee w7 ⟨s3, A3, n3, c3, rfl, p3, k3, B⟩
  clear xX80 xX81
  replace X0 := X0.below B
  replace X1 := X1.below B
  replace X8 := X8.below B
  replace hT := hT.below B
  replace h0 := h0.below B
  replace h1 := h1.below B
  replace p2 := p2.below B
  replace HB := Lib.hid (bt HB.out B)
  clear B
  go_upto_region 8 with (fail)
  have j3 := p3.lm HLS.out
  clear k3
  have lX9 := Nat.le_refl (World.heap w7).size
  have nX9X0 := X0.lt
  have nX9X1 := X1.lt
  have nX9X8 := X8.lt
  replace X0 := X0.below (bel1 _ (.cells #[.bool s3, .slice A3 n3 c3, .int .i64 S.2] 27))
  replace X1 := X1.below (bel1 _ (.cells #[.bool s3, .slice A3 n3 c3, .int .i64 S.2] 27))
  replace X8 := X8.below (bel1 _ (.cells #[.bool s3, .slice A3 n3 c3, .int .i64 S.2] 27))
  replace hT := hT.below (bel1 _ (.cells #[.bool s3, .slice A3 n3 c3, .int .i64 S.2] 27))
  replace h0 := h0.below (bel1 _ (.cells #[.bool s3, .slice A3 n3 c3, .int .i64 S.2] 27))
  replace h1 := h1.below (bel1 _ (.cells #[.bool s3, .slice A3 n3 c3, .int .i64 S.2] 27))
  replace p2 := p2.below (bel1 _ (.cells #[.bool s3, .slice A3 n3 c3, .int .i64 S.2] 27))
  replace p3 := p3.below (bel1 _ (.cells #[.bool s3, .slice A3 n3 c3, .int .i64 S.2] 27))
  replace HB := Lib.hid (bt HB.out (bel1 _ (.cells #[.bool s3, .slice A3 n3 c3, .int .i64 S.2] 27)))
  have X9 := Bo.new w7 #[.bool s3, .slice A3 n3 c3, .int .i64 S.2] 27
  generalize hWn : World.alloc w7 (.cells #[.bool s3, .slice A3 n3 c3, .int .i64 S.2] 27) = w8 at *
  clear hWn
  have lt0 := X0.lt
  have lt1 := X1.lt
  have lt8 := X8.lt
  have lt9 := X9.lt
  refine Jo.region_joint (T := [0, 1, 2, 3, 4]) (ds := [some 31, some 32, some 33, some 34, some 10, none]) (ls := [[], [], [0, 1], [2], [], []]) (k := 6) (L := [(some 31, 0), (some 32, 1), (some 33, 2), (some 34, 3), (some 10, 4)]) (fuel := 1) (J := fun wj => Below (World.heap w8).size w8 wj)
    (F := [Jo.Fact.eq (.agg #[.bool s2, .slice A2 n2 c2]), Jo.Fact.wn 1 2, Jo.Fact.wn (φ + 1) 20000, Jo.Fact.dy B.1 B.2 20000, Jo.Fact.bo w8.heap.size #[.bool false, .slice none 0 0, .int .i64 0] 27, Jo.Fact.any])
    (by kernel_rfl) (by kernel_rfl) (by decide) rfl rfl (fun _ _ h b => bt h b) ((Below.refl _ _).drew) ?_ (fun vs w9 hJ hd => ?_)
  · refine Jo.jcons (i := 0) (o := ⟨some 31, _, _, _, _, _⟩) (di := some 31) (L := []) (f := Jo.Fact.eq (.agg #[.bool s2, .slice A2 n2 c2])) rfl rfl rfl rfl (fun vs wj hJ hd K hK => ?_) ?_
    · clear hd
      simp only [Jo.putl, List.foldl_nil, Act.put, List.setIfInBounds_toArray, List.set_cons_zero, List.set_cons_succ] at hK ⊢
      have xX80 : World.cell? wj ⟨w5.heap.size, 0, none⟩ = some (.bool s2) := (X8.below hJ).cell 0
      have xX81 : World.cell? wj ⟨w5.heap.size, 1, none⟩ = some (.slice A2 n2 c2) := (X8.below hJ).cell 1
      go_simp
      exact hK.out _ _ rfl (Below.refl _ _)
    refine Jo.jcons (i := 1) (o := ⟨some 32, _, _, _, _, _⟩) (di := some 32) (L := []) (f := Jo.Fact.wn 1 2) rfl rfl rfl rfl (fun vs wj hJ hd K hK => ?_) ?_
    · clear hd
      simp only [Jo.putl, List.foldl_nil, Act.put, List.setIfInBounds_toArray, List.set_cons_zero, List.set_cons_succ] at hK ⊢
      go_simp
      refine (wFrom 1 _ (by omega) (by omega)).mono ?_
      rintro ee wk ⟨s11, A11, n11, c11, rfl, p11, k11, B⟩
      exact hK.out _ _ ⟨s11, A11, n11, c11, rfl, p11, k11⟩ B
    refine Jo.jcons (i := 2) (o := ⟨some 33, _, _, _, _, _⟩) (di := some 33) (L := [(some 31, 0), (some 32, 1)]) (f := Jo.Fact.wn (φ + 1) 20000) rfl rfl rfl rfl (fun vs wj hJ hd K hK => ?_) ?_
    · have d0 : (Jo.Fact.eq (.agg #[.bool s2, .slice A2 n2 c2])).P (vs 0) wj := hd 0 (by decide)
      have d1 : (Jo.Fact.wn 1 2).P (vs 1) wj := hd 1 (by decide)
      clear hd
      simp only [Jo.putl, List.foldl_cons, List.foldl_nil, Act.put, List.setIfInBounds_toArray, List.set_cons_zero, List.set_cons_succ] at hK ⊢
      generalize vs 0 = u0 at hK d0 ⊢
      generalize vs 1 = u1 at hK d1 ⊢
      replace d0 : u0 = _ := d0
      subst d0
      obtain ⟨s11, A11, n11, c11, rfl, p11, k11⟩ := d1
      go_simp
      refine (wAdd (p2.below hJ).wr p11.wr (by omega) (by omega) rfl).mono ?_
      rintro ee wk ⟨s12, A12, n12, c12, rfl, p12, k12, B⟩
      exact hK.out _ _ ⟨s12, A12, n12, c12, rfl, p12, p12.lm HLφ1.out⟩ B
    refine Jo.jcons (i := 3) (o := ⟨some 34, _, _, _, _, _⟩) (di := some 34) (L := [(some 33, 2)]) (f := Jo.Fact.dy B.1 B.2 20000) rfl rfl rfl rfl (fun vs wj hJ hd K hK => ?_) ?_
    · have d2 : (Jo.Fact.wn (φ + 1) 20000).P (vs 2) wj := hd 2 (by decide)
      clear hd
      simp only [Jo.putl, List.foldl_cons, List.foldl_nil, Act.put, List.setIfInBounds_toArray, List.set_cons_zero, List.set_cons_succ] at hK ⊢
      generalize vs 2 = u2 at hK d2 ⊢
      obtain ⟨s12, A12, n12, c12, rfl, p12, k12⟩ := d2
      go_simp
      refine (dMake (hT.below hJ) p12.wr (by omega) HB1.out HB2.out).mono ?_
      rintro ee wk ⟨s13, A13, n13, c13, rfl, p13, k13, B⟩
      exact hK.out _ _ ⟨s13, A13, n13, c13, rfl, p13, p13.lm HLB.out⟩ B
    refine Jo.jcons (i := 4) (o := ⟨some 10, _, _, _, _, _⟩) (di := some 10) (L := []) (f := Jo.Fact.bo w8.heap.size #[.bool false, .slice none 0 0, .int .i64 0] 27) rfl rfl rfl rfl (fun vs wj hJ hd K hK => ?_) ?_
    · clear hd
      simp only [Jo.putl, List.foldl_nil, Act.put, List.setIfInBounds_toArray, List.set_cons_zero, List.set_cons_succ] at hK ⊢
      go_simp
      exact hK.out _ _ ⟨_, rfl, hJ.size, Bo.new _ _ _⟩ (bel1 _ _)
    exact Jo.Steps.nil
  have d0 : (Jo.Fact.eq (.agg #[.bool s2, .slice A2 n2 c2])).P (vs 0) w9 := hd 0 (by decide)
  have d1 : (Jo.Fact.wn 1 2).P (vs 1) w9 := hd 1 (by decide)
  have d2 : (Jo.Fact.wn (φ + 1) 20000).P (vs 2) w9 := hd 2 (by decide)
  have d3 : (Jo.Fact.dy B.1 B.2 20000).P (vs 3) w9 := hd 3 (by decide)
  have d4 : (Jo.Fact.bo w8.heap.size #[.bool false, .slice none 0 0, .int .i64 0] 27).P (vs 4) w9 := hd 4 (by decide)
  clear hd
  simp only [Jo.putl, List.foldl_cons, List.foldl_nil, Act.put, List.setIfInBounds_toArray, List.set_cons_zero, List.set_cons_succ]
  generalize vs 0 = u0 at d0 ⊢
  generalize vs 1 = u1 at d1 ⊢
  generalize vs 2 = u2 at d2 ⊢
  generalize vs 3 = u3 at d3 ⊢
  generalize vs 4 = u4 at d4 ⊢
  clear vs
  replace d0 : u0 = _ := d0
  subst d0
  obtain ⟨s11, A11, n11, c11, rfl, _, _⟩ := d1
  obtain ⟨s12, A12, n12, c12, rfl, _, _⟩ := d2
  obtain ⟨s13, A13, n13, c13, rfl, p13, k13⟩ := d3
  obtain ⟨g10, rfl, hg10, X10⟩ := d4
  replace X0 := X0.below hJ
  replace X1 := X1.below hJ
  replace X8 := X8.below hJ
  replace X9 := X9.below hJ
  replace hT := hT.below hJ
  replace h0 := h0.below hJ
  replace h1 := h1.below hJ
  replace p2 := p2.below hJ
  replace p3 := p3.below hJ
  replace HB := Lib.hid (bt HB.out hJ)
  have xX100 := X10.at (i := 0) (v := .bool false) rfl
  have zX100 := X10.frozen 0
  have xX101 := X10.at (i := 1) (v := .slice none 0 0) rfl
  have zX101 := X10.frozen 1
  have xX102 := X10.at (i := 2) (v := .int .i64 0) rfl
  have zX102 := X10.frozen 2
  refine Jo.jnext (i := 5) (o := ⟨none, _, _, _, _, _⟩) (by kernel_rfl) rfl (fun K hK => ?_)
  go_simp
  refine hK.out _ _ ?_
  clear hK K xX100 zX100 xX101 zX101 xX102 zX102
  have SX := StN.mk3 X10 (.bool s13) (.slice A13 n13 c13) (.int .i64 B.2)
  replace X0 := X0.stn SX (by omega)
  replace X1 := X1.stn SX (by omega)
  replace X8 := X8.stn SX (by omega)
  replace X9 := X9.stn SX (by omega)
  replace hT := hT.stn SX (by simp [no8])
  replace h0 := h0.stn SX (by simp [no32])
  replace h1 := h1.stn SX (by simp [no32])
  replace p2 := p2.stn SX (by simp [no32])
  replace p3 := p3.stn SX (by simp [no32])
  replace p13 := p13.stn SX (by simp [no32])
  replace HB := Lib.hid (SX.below HB.out (by omega))
  replace X10 := SX.box
  clear SX
  generalize (World.setCell (World.setCell (World.setCell w9 ⟨g10, 0, none⟩ (.bool s13)) ⟨g10, 1, none⟩ (.slice A13 n13 c13)) ⟨g10, 2, none⟩ (.int .i64 B.2)) = w10 at *
  refine Jo.jdone (by kernel_rfl) ?_
  go_upto_region 9 with (fail)
  refine Jo.region_joint (T := [0, 1, 2, 3, 4, 5, 6, 7, 8, 9, 10, 11, 12, 13, 14, 15, 16, 17]) (ds := [some 35, some 36, some 37, some 38, some 39, some 40, some 41, some 42, some 43, some 44, some 45, some 46, some 47, some 48, some 49, some 50, some 51, some 4]) (ls := [[], [], [0, 1], [2], [3], [4], [4], [4, 5, 6], [4, 7], [4, 8], [9], [10], [10, 11], [10, 12], [10], [10, 13, 14], [10, 15], [16]]) (k := 18) (L := [(some 35, 0), (some 36, 1), (some 37, 2), (some 38, 3), (some 39, 4), (some 40, 5), (some 41, 6), (some 42, 7), (some 43, 8), (some 44, 9), (some 45, 10), (some 46, 11), (some 47, 12), (some 48, 13), (some 49, 14), (some 50, 15), (some 51, 16), (some 4, 17)]) (fuel := 0) (J := fun wj => Below (World.heap w10).size w10 wj)
    (F := [Jo.Fact.eq (.agg #[.bool s3, .slice A3 n3 c3, .int .i64 S.2]), Jo.Fact.eq (.agg #[.bool s0, .slice a0 len0 cap0, .int .i64 e0]), Jo.Fact.eq (.int .i64 κ), Jo.Fact.eq (.bool true), Jo.Fact.eq (.bool true), Jo.Fact.eq (.agg #[.bool s13, .slice A13 n13 c13, .int .i64 B.2]), Jo.Fact.eq (.agg #[.bool s0, .slice a0 len0 cap0, .int .i64 e0]), Jo.Fact.eq (.int .i64 1), Jo.Fact.eq (.bool true), Jo.Fact.eq (.bool true), Jo.Fact.eq (.bool true), Jo.Fact.eq (.agg #[.bool s1, .slice a1 len1 cap1]), Jo.Fact.dy V.1 V.2 40, Jo.Fact.wn y 200000, Jo.Fact.eq (.agg #[.bool s1, .slice a1 len1 cap1]), Jo.Fact.eq (.bool true), Jo.Fact.eq (.bool true), Jo.Fact.eq (.bool true)])
    (by kernel_rfl) (by kernel_rfl) (by decide) rfl rfl (fun _ _ h b => bt h b) ((Below.refl _ _).drew) ?_ (fun vs w11 hJ hd => ?_)
  · refine Jo.jcons (i := 0) (o := ⟨some 35, _, _, _, _, _⟩) (di := some 35) (L := []) (f := Jo.Fact.eq (.agg #[.bool s3, .slice A3 n3 c3, .int .i64 S.2])) rfl rfl rfl rfl (fun vs wj hJ hd K hK => ?_) ?_
    · clear hd
      simp only [Jo.putl, List.foldl_nil, Act.put, List.setIfInBounds_toArray, List.set_cons_zero, List.set_cons_succ] at hK ⊢
      have xX90 : World.cell? wj ⟨w7.heap.size, 0, none⟩ = some (.bool s3) := (X9.below hJ).cell 0
      have xX91 : World.cell? wj ⟨w7.heap.size, 1, none⟩ = some (.slice A3 n3 c3) := (X9.below hJ).cell 1
      have xX92 : World.cell? wj ⟨w7.heap.size, 2, none⟩ = some (.int .i64 S.2) := (X9.below hJ).cell 2
      go_simp
      exact hK.out _ _ rfl (Below.refl _ _)
    refine Jo.jcons (i := 1) (o := ⟨some 36, _, _, _, _, _⟩) (di := some 36) (L := []) (f := Jo.Fact.eq (.agg #[.bool s0, .slice a0 len0 cap0, .int .i64 e0])) rfl rfl rfl rfl (fun vs wj hJ hd K hK => ?_) ?_
    · clear hd
      simp only [Jo.putl, List.foldl_nil, Act.put, List.setIfInBounds_toArray, List.set_cons_zero, List.set_cons_succ] at hK ⊢
      have xX00 : World.cell? wj ⟨w.heap.size, 0, none⟩ = some (.bool s0) := (X0.below hJ).cell 0
      have xX01 : World.cell? wj ⟨w.heap.size, 1, none⟩ = some (.slice a0 len0 cap0) := (X0.below hJ).cell 1
      have xX02 : World.cell? wj ⟨w.heap.size, 2, none⟩ = some (.int .i64 e0) := (X0.below hJ).cell 2
      go_simp
      exact hK.out _ _ rfl (Below.refl _ _)
    refine Jo.jcons (i := 2) (o := ⟨some 37, _, _, _, _, _⟩) (di := some 37) (L := [(some 35, 0), (some 36, 1)]) (f := Jo.Fact.eq (.int .i64 κ)) rfl rfl rfl rfl (fun vs wj hJ hd K hK => ?_) ?_
    · have d0 : (Jo.Fact.eq (.agg #[.bool s3, .slice A3 n3 c3, .int .i64 S.2])).P (vs 0) wj := hd 0 (by decide)
      have d1 : (Jo.Fact.eq (.agg #[.bool s0, .slice a0 len0 cap0, .int .i64 e0])).P (vs 1) wj := hd 1 (by decide)
      clear hd
      simp only [Jo.putl, List.foldl_cons, List.foldl_nil, Act.put, List.setIfInBounds_toArray, List.set_cons_zero, List.set_cons_succ] at hK ⊢
      generalize vs 0 = u0 at hK d0 ⊢
      generalize vs 1 = u1 at hK d1 ⊢
      replace d0 : u0 = _ := d0
      subst d0
      replace d1 : u1 = _ := d1
      subst d1
      go_simp
      refine (dCmp (r := κ) (hT.below hJ) (p3.below hJ).wr (h0.below hJ) (by omega) (by omega) (by rw [HnS.out, HP.out]; exact Hκ.out)).mono ?_
      rintro ee wk ⟨rfl, B⟩
      exact hK.out _ _ rfl B
    refine Jo.jcons (i := 3) (o := ⟨some 38, _, _, _, _, _⟩) (di := some 38) (L := [(some 37, 2)]) (f := Jo.Fact.eq (.bool true)) rfl rfl rfl rfl (fun vs wj hJ hd K hK => ?_) ?_
    · have d2 : (Jo.Fact.eq (.int .i64 κ)).P (vs 2) wj := hd 2 (by decide)
      clear hd
      simp only [Jo.putl, List.foldl_cons, List.foldl_nil, Act.put, List.setIfInBounds_toArray, List.set_cons_zero, List.set_cons_succ] at hK ⊢
      generalize vs 2 = u2 at hK d2 ⊢
      replace d2 : u2 = _ := d2
      subst d2
      go_simp
      exact hK.out _ _ (by first | rfl | simp) (Below.refl _ _)
    refine Jo.jcons (i := 4) (o := ⟨some 39, _, _, _, _, _⟩) (di := some 39) (L := [(some 38, 3)]) (f := Jo.Fact.eq (.bool true)) rfl rfl rfl rfl (fun vs wj hJ hd K hK => ?_) ?_
    · have d3 : (Jo.Fact.eq (.bool true)).P (vs 3) wj := hd 3 (by decide)
      clear hd
      simp only [Jo.putl, List.foldl_cons, List.foldl_nil, Act.put, List.setIfInBounds_toArray, List.set_cons_zero, List.set_cons_succ] at hK ⊢
      generalize vs 3 = u3 at hK d3 ⊢
      replace d3 : u3 = _ := d3
      subst d3
      go_simp
      exact hK.out _ _ rfl (Below.refl _ _)
    refine Jo.jcons (i := 5) (o := ⟨some 40, _, _, _, _, _⟩) (di := some 40) (L := [(some 39, 4)]) (f := Jo.Fact.eq (.agg #[.bool s13, .slice A13 n13 c13, .int .i64 B.2])) rfl rfl rfl rfl (fun vs wj hJ hd K hK => ?_) ?_
    · have d4 : (Jo.Fact.eq (.bool true)).P (vs 4) wj := hd 4 (by decide)
      clear hd
      simp only [Jo.putl, List.foldl_cons, List.foldl_nil, Act.put, List.setIfInBounds_toArray, List.set_cons_zero, List.set_cons_succ] at hK ⊢
      generalize vs 4 = u4 at hK d4 ⊢
      replace d4 : u4 = _ := d4
      subst d4
      have xX100 : World.cell? wj ⟨g10, 0, none⟩ = some (.bool s13) := (X10.below hJ).cell 0
      have xX101 : World.cell? wj ⟨g10, 1, none⟩ = some (.slice A13 n13 c13) := (X10.below hJ).cell 1
      have xX102 : World.cell? wj ⟨g10, 2, none⟩ = some (.int .i64 B.2) := (X10.below hJ).cell 2
      go_simp
      exact hK.out _ _ rfl (Below.refl _ _)
    refine Jo.jcons (i := 6) (o := ⟨some 41, _, _, _, _, _⟩) (di := some 41) (L := [(some 39, 4)]) (f := Jo.Fact.eq (.agg #[.bool s0, .slice a0 len0 cap0, .int .i64 e0])) rfl rfl rfl rfl (fun vs wj hJ hd K hK => ?_) ?_
    · have d4 : (Jo.Fact.eq (.bool true)).P (vs 4) wj := hd 4 (by decide)
      clear hd
      simp only [Jo.putl, List.foldl_cons, List.foldl_nil, Act.put, List.setIfInBounds_toArray, List.set_cons_zero, List.set_cons_succ] at hK ⊢
      generalize vs 4 = u4 at hK d4 ⊢
      replace d4 : u4 = _ := d4
      subst d4
      have xX00 : World.cell? wj ⟨w.heap.size, 0, none⟩ = some (.bool s0) := (X0.below hJ).cell 0
      have xX01 : World.cell? wj ⟨w.heap.size, 1, none⟩ = some (.slice a0 len0 cap0) := (X0.below hJ).cell 1
      have xX02 : World.cell? wj ⟨w.heap.size, 2, none⟩ = some (.int .i64 e0) := (X0.below hJ).cell 2
      go_simp
      exact hK.out _ _ rfl (Below.refl _ _)
    refine Jo.jcons (i := 7) (o := ⟨some 42, _, _, _, _, _⟩) (di := some 42) (L := [(some 39, 4), (some 40, 5), (some 41, 6)]) (f := Jo.Fact.eq (.int .i64 1)) rfl rfl rfl rfl (fun vs wj hJ hd K hK => ?_) ?_
    · have d4 : (Jo.Fact.eq (.bool true)).P (vs 4) wj := hd 4 (by decide)
      have d5 : (Jo.Fact.eq (.agg #[.bool s13, .slice A13 n13 c13, .int .i64 B.2])).P (vs 5) wj := hd 5 (by decide)
      have d6 : (Jo.Fact.eq (.agg #[.bool s0, .slice a0 len0 cap0, .int .i64 e0])).P (vs 6) wj := hd 6 (by decide)
      clear hd
      simp only [Jo.putl, List.foldl_cons, List.foldl_nil, Act.put, List.setIfInBounds_toArray, List.set_cons_zero, List.set_cons_succ] at hK ⊢
      generalize vs 4 = u4 at hK d4 ⊢
      generalize vs 5 = u5 at hK d5 ⊢
      generalize vs 6 = u6 at hK d6 ⊢
      replace d4 : u4 = _ := d4
      subst d4
      replace d5 : u5 = _ := d5
      subst d5
      replace d6 : u6 = _ := d6
      subst d6
      go_simp
      refine (dCmp (r := 1) (hT.below hJ) (p13.below hJ).wr (h0.below hJ) (by omega) (by omega) (by rw [HnB.out, HP.out]; exact HC1.out)).mono ?_
      rintro ee wk ⟨rfl, B⟩
      exact hK.out _ _ rfl B
    refine Jo.jcons (i := 8) (o := ⟨some 43, _, _, _, _, _⟩) (di := some 43) (L := [(some 39, 4), (some 42, 7)]) (f := Jo.Fact.eq (.bool true)) rfl rfl rfl rfl (fun vs wj hJ hd K hK => ?_) ?_
    · have d4 : (Jo.Fact.eq (.bool true)).P (vs 4) wj := hd 4 (by decide)
      have d7 : (Jo.Fact.eq (.int .i64 1)).P (vs 7) wj := hd 7 (by decide)
      clear hd
      simp only [Jo.putl, List.foldl_cons, List.foldl_nil, Act.put, List.setIfInBounds_toArray, List.set_cons_zero, List.set_cons_succ] at hK ⊢
      generalize vs 4 = u4 at hK d4 ⊢
      generalize vs 7 = u7 at hK d7 ⊢
      replace d4 : u4 = _ := d4
      subst d4
      replace d7 : u7 = _ := d7
      subst d7
      go_simp
      exact hK.out _ _ (by first | rfl | simp) (Below.refl _ _)
    refine Jo.jcons (i := 9) (o := ⟨some 44, _, _, _, _, _⟩) (di := some 44) (L := [(some 39, 4), (some 43, 8)]) (f := Jo.Fact.eq (.bool true)) rfl rfl rfl rfl (fun vs wj hJ hd K hK => ?_) ?_
    · have d4 : (Jo.Fact.eq (.bool true)).P (vs 4) wj := hd 4 (by decide)
      have d8 : (Jo.Fact.eq (.bool true)).P (vs 8) wj := hd 8 (by decide)
      clear hd
      simp only [Jo.putl, List.foldl_cons, List.foldl_nil, Act.put, List.setIfInBounds_toArray, List.set_cons_zero, List.set_cons_succ] at hK ⊢
      generalize vs 4 = u4 at hK d4 ⊢
      generalize vs 8 = u8 at hK d8 ⊢
      replace d4 : u4 = _ := d4
      subst d4
      replace d8 : u8 = _ := d8
      subst d8
      go_simp
      exact hK.out _ _ rfl (Below.refl _ _)
    refine Jo.jcons (i := 10) (o := ⟨some 45, _, _, _, _, _⟩) (di := some 45) (L := [(some 44, 9)]) (f := Jo.Fact.eq (.bool true)) rfl rfl rfl rfl (fun vs wj hJ hd K hK => ?_) ?_
    · have d9 : (Jo.Fact.eq (.bool true)).P (vs 9) wj := hd 9 (by decide)
      clear hd
      simp only [Jo.putl, List.foldl_cons, List.foldl_nil, Act.put, List.setIfInBounds_toArray, List.set_cons_zero, List.set_cons_succ] at hK ⊢
      generalize vs 9 = u9 at hK d9 ⊢
      replace d9 : u9 = _ := d9
      subst d9
      go_simp
      exact hK.out _ _ rfl (Below.refl _ _)
    refine Jo.jcons (i := 11) (o := ⟨some 46, _, _, _, _, _⟩) (di := some 46) (L := [(some 45, 10)]) (f := Jo.Fact.eq (.agg #[.bool s1, .slice a1 len1 cap1])) rfl rfl rfl rfl (fun vs wj hJ hd K hK => ?_) ?_
    · have d10 : (Jo.Fact.eq (.bool true)).P (vs 10) wj := hd 10 (by decide)
      clear hd
      simp only [Jo.putl, List.foldl_cons, List.foldl_nil, Act.put, List.setIfInBounds_toArray, List.set_cons_zero, List.set_cons_succ] at hK ⊢
      generalize vs 10 = u10 at hK d10 ⊢
      replace d10 : u10 = _ := d10
      subst d10
      have xX10 : World.cell? wj ⟨w.heap.size + 1, 0, none⟩ = some (.bool s1) := (X1.below hJ).cell 0
      have xX11 : World.cell? wj ⟨w.heap.size + 1, 1, none⟩ = some (.slice a1 len1 cap1) := (X1.below hJ).cell 1
      go_simp
      exact hK.out _ _ rfl (Below.refl _ _)
    refine Jo.jcons (i := 12) (o := ⟨some 47, _, _, _, _, _⟩) (di := some 47) (L := [(some 45, 10), (some 46, 11)]) (f := Jo.Fact.dy V.1 V.2 40) rfl rfl rfl rfl (fun vs wj hJ hd K hK => ?_) ?_
    · have d10 : (Jo.Fact.eq (.bool true)).P (vs 10) wj := hd 10 (by decide)
      have d11 : (Jo.Fact.eq (.agg #[.bool s1, .slice a1 len1 cap1])).P (vs 11) wj := hd 11 (by decide)
      clear hd
      simp only [Jo.putl, List.foldl_cons, List.foldl_nil, Act.put, List.setIfInBounds_toArray, List.set_cons_zero, List.set_cons_succ] at hK ⊢
      generalize vs 10 = u10 at hK d10 ⊢
      generalize vs 11 = u11 at hK d11 ⊢
      replace d10 : u10 = _ := d10
      subst d10
      replace d11 : u11 = _ := d11
      subst d11
      go_simp
      refine (dMake (hT.below hJ) (h1.below hJ) (by omega) HV1.out HV2.out).mono ?_
      rintro ee wk ⟨s14, A14, n14, c14, rfl, p14, k14, B⟩
      exact hK.out _ _ ⟨s14, A14, n14, c14, rfl, p14, Nat.le_trans k14 hy⟩ B
    refine Jo.jcons (i := 13) (o := ⟨some 48, _, _, _, _, _⟩) (di := some 48) (L := [(some 45, 10), (some 47, 12)]) (f := Jo.Fact.wn y 200000) rfl rfl rfl rfl (fun vs wj hJ hd K hK => ?_) ?_
    · have d10 : (Jo.Fact.eq (.bool true)).P (vs 10) wj := hd 10 (by decide)
      have d12 : (Jo.Fact.dy V.1 V.2 40).P (vs 12) wj := hd 12 (by decide)
      clear hd
      simp only [Jo.putl, List.foldl_cons, List.foldl_nil, Act.put, List.setIfInBounds_toArray, List.set_cons_zero, List.set_cons_succ] at hK ⊢
      generalize vs 10 = u10 at hK d10 ⊢
      generalize vs 12 = u12 at hK d12 ⊢
      replace d10 : u10 = _ := d10
      subst d10
      obtain ⟨s14, A14, n14, c14, rfl, p14, k14⟩ := d12
      go_simp
      refine (dFloor (hT.below hJ) p14.wr (by omega) (r := y) (by rw [HnV.out]; exact HFV.out)).mono ?_
      rintro ee wk ⟨s15, A15, n15, c15, rfl, p15, k15, B⟩
      exact hK.out _ _ ⟨s15, A15, n15, c15, rfl, p15, by omega⟩ B
    refine Jo.jcons (i := 14) (o := ⟨some 49, _, _, _, _, _⟩) (di := some 49) (L := [(some 45, 10)]) (f := Jo.Fact.eq (.agg #[.bool s1, .slice a1 len1 cap1])) rfl rfl rfl rfl (fun vs wj hJ hd K hK => ?_) ?_
    · have d10 : (Jo.Fact.eq (.bool true)).P (vs 10) wj := hd 10 (by decide)
      clear hd
      simp only [Jo.putl, List.foldl_cons, List.foldl_nil, Act.put, List.setIfInBounds_toArray, List.set_cons_zero, List.set_cons_succ] at hK ⊢
      generalize vs 10 = u10 at hK d10 ⊢
      replace d10 : u10 = _ := d10
      subst d10
      have xX10 : World.cell? wj ⟨w.heap.size + 1, 0, none⟩ = some (.bool s1) := (X1.below hJ).cell 0
      have xX11 : World.cell? wj ⟨w.heap.size + 1, 1, none⟩ = some (.slice a1 len1 cap1) := (X1.below hJ).cell 1
      go_simp
      exact hK.out _ _ rfl (Below.refl _ _)
    refine Jo.jcons (i := 15) (o := ⟨some 50, _, _, _, _, _⟩) (di := some 50) (L := [(some 45, 10), (some 48, 13), (some 49, 14)]) (f := Jo.Fact.eq (.bool true)) rfl rfl rfl rfl (fun vs wj hJ hd K hK => ?_) ?_
    · have d10 : (Jo.Fact.eq (.bool true)).P (vs 10) wj := hd 10 (by decide)
      have d13 : (Jo.Fact.wn y 200000).P (vs 13) wj := hd 13 (by decide)
      have d14 : (Jo.Fact.eq (.agg #[.bool s1, .slice a1 len1 cap1])).P (vs 14) wj := hd 14 (by decide)
      clear hd
      simp only [Jo.putl, List.foldl_cons, List.foldl_nil, Act.put, List.setIfInBounds_toArray, List.set_cons_zero, List.set_cons_succ] at hK ⊢
      generalize vs 10 = u10 at hK d10 ⊢
      generalize vs 13 = u13 at hK d13 ⊢
      generalize vs 14 = u14 at hK d14 ⊢
      replace d10 : u10 = _ := d10
      subst d10
      obtain ⟨s15, A15, n15, c15, rfl, p15, k15⟩ := d13
      replace d14 : u14 = _ := d14
      subst d14
      go_simp
      refine (wSame (r := true) p15.wr (h1.below hJ) (decide_eq_true rfl)).mono ?_
      rintro ee wk ⟨rfl, B⟩
      exact hK.out _ _ rfl B
    refine Jo.jcons (i := 16) (o := ⟨some 51, _, _, _, _, _⟩) (di := some 51) (L := [(some 45, 10), (some 50, 15)]) (f := Jo.Fact.eq (.bool true)) rfl rfl rfl rfl (fun vs wj hJ hd K hK => ?_) ?_
    · have d10 : (Jo.Fact.eq (.bool true)).P (vs 10) wj := hd 10 (by decide)
      have d15 : (Jo.Fact.eq (.bool true)).P (vs 15) wj := hd 15 (by decide)
      clear hd
      simp only [Jo.putl, List.foldl_cons, List.foldl_nil, Act.put, List.setIfInBounds_toArray, List.set_cons_zero, List.set_cons_succ] at hK ⊢
      generalize vs 10 = u10 at hK d10 ⊢
      generalize vs 15 = u15 at hK d15 ⊢
      replace d10 : u10 = _ := d10
      subst d10
      replace d15 : u15 = _ := d15
      subst d15
      go_simp
      exact hK.out _ _ rfl (Below.refl _ _)
    refine Jo.jcons (i := 17) (o := ⟨some 4, _, _, _, _, _⟩) (di := some 4) (L := [(some 51, 16)]) (f := Jo.Fact.eq (.bool true)) rfl rfl rfl rfl (fun vs wj hJ hd K hK => ?_) ?_
    · have d16 : (Jo.Fact.eq (.bool true)).P (vs 16) wj := hd 16 (by decide)
      clear hd
      simp only [Jo.putl, List.foldl_cons, List.foldl_nil, Act.put, List.setIfInBounds_toArray, List.set_cons_zero, List.set_cons_succ] at hK ⊢
      generalize vs 16 = u16 at hK d16 ⊢
      replace d16 : u16 = _ := d16
      subst d16
      go_simp
      exact hK.out _ _ rfl (Below.refl _ _)
    exact Jo.Steps.nil
  have d0 : (Jo.Fact.eq (.agg #[.bool s3, .slice A3 n3 c3, .int .i64 S.2])).P (vs 0) w11 := hd 0 (by decide)
  have d1 : (Jo.Fact.eq (.agg #[.bool s0, .slice a0 len0 cap0, .int .i64 e0])).P (vs 1) w11 := hd 1 (by decide)
  have d2 : (Jo.Fact.eq (.int .i64 κ)).P (vs 2) w11 := hd 2 (by decide)
  have d3 : (Jo.Fact.eq (.bool true)).P (vs 3) w11 := hd 3 (by decide)
  have d4 : (Jo.Fact.eq (.bool true)).P (vs 4) w11 := hd 4 (by decide)
  have d5 : (Jo.Fact.eq (.agg #[.bool s13, .slice A13 n13 c13, .int .i64 B.2])).P (vs 5) w11 := hd 5 (by decide)
  have d6 : (Jo.Fact.eq (.agg #[.bool s0, .slice a0 len0 cap0, .int .i64 e0])).P (vs 6) w11 := hd 6 (by decide)
  have d7 : (Jo.Fact.eq (.int .i64 1)).P (vs 7) w11 := hd 7 (by decide)
  have d8 : (Jo.Fact.eq (.bool true)).P (vs 8) w11 := hd 8 (by decide)
  have d9 : (Jo.Fact.eq (.bool true)).P (vs 9) w11 := hd 9 (by decide)
  have d10 : (Jo.Fact.eq (.bool true)).P (vs 10) w11 := hd 10 (by decide)
  have d11 : (Jo.Fact.eq (.agg #[.bool s1, .slice a1 len1 cap1])).P (vs 11) w11 := hd 11 (by decide)
  have d12 : (Jo.Fact.dy V.1 V.2 40).P (vs 12) w11 := hd 12 (by decide)
  have d13 : (Jo.Fact.wn y 200000).P (vs 13) w11 := hd 13 (by decide)
  have d14 : (Jo.Fact.eq (.agg #[.bool s1, .slice a1 len1 cap1])).P (vs 14) w11 := hd 14 (by decide)
  have d15 : (Jo.Fact.eq (.bool true)).P (vs 15) w11 := hd 15 (by decide)
  have d16 : (Jo.Fact.eq (.bool true)).P (vs 16) w11 := hd 16 (by decide)
  have d17 : (Jo.Fact.eq (.bool true)).P (vs 17) w11 := hd 17 (by decide)
  clear hd
  simp only [Jo.putl, List.foldl_cons, List.foldl_nil, Act.put, List.setIfInBounds_toArray, List.set_cons_zero, List.set_cons_succ]
  generalize vs 0 = u0 at d0 ⊢
  generalize vs 1 = u1 at d1 ⊢
  generalize vs 2 = u2 at d2 ⊢
  generalize vs 3 = u3 at d3 ⊢
  generalize vs 4 = u4 at d4 ⊢
  generalize vs 5 = u5 at d5 ⊢
  generalize vs 6 = u6 at d6 ⊢
  generalize vs 7 = u7 at d7 ⊢
  generalize vs 8 = u8 at d8 ⊢
  generalize vs 9 = u9 at d9 ⊢
  generalize vs 10 = u10 at d10 ⊢
  generalize vs 11 = u11 at d11 ⊢
  generalize vs 12 = u12 at d12 ⊢
  generalize vs 13 = u13 at d13 ⊢
  generalize vs 14 = u14 at d14 ⊢
  generalize vs 15 = u15 at d15 ⊢
  generalize vs 16 = u16 at d16 ⊢
  generalize vs 17 = u17 at d17 ⊢
  clear vs
  replace d0 : u0 = _ := d0
  subst d0
  replace d1 : u1 = _ := d1
  subst d1
  replace d2 : u2 = _ := d2
  subst d2
  replace d3 : u3 = _ := d3
  subst d3
  replace d4 : u4 = _ := d4
  subst d4
  replace d5 : u5 = _ := d5
  subst d5
  replace d6 : u6 = _ := d6
  subst d6
  replace d7 : u7 = _ := d7
  subst d7
  replace d8 : u8 = _ := d8
  subst d8
  replace d9 : u9 = _ := d9
  subst d9
  replace d10 : u10 = _ := d10
  subst d10
  replace d11 : u11 = _ := d11
  subst d11
  obtain ⟨s14, A14, n14, c14, rfl, _, _⟩ := d12
  obtain ⟨s15, A15, n15, c15, rfl, _, _⟩ := d13
  replace d14 : u14 = _ := d14
  subst d14
  replace d15 : u15 = _ := d15
  subst d15
  replace d16 : u16 = _ := d16
  subst d16
  replace d17 : u17 = _ := d17
  subst d17
  replace X0 := X0.below hJ
  replace X1 := X1.below hJ
  replace X8 := X8.below hJ
  replace X9 := X9.below hJ
  replace X10 := X10.below hJ
  replace hT := hT.below hJ
  replace h0 := h0.below hJ
  replace h1 := h1.below hJ
  replace p2 := p2.below hJ
  replace p3 := p3.below hJ
  replace p13 := p13.below hJ
  replace HB := Lib.hid (bt HB.out hJ)
  refine Jo.jdone (by kernel_rfl) ?_
  go_wp2
  go_ret
  exact ⟨rfl, HB.out⟩

set_option maxHeartbeats 2000000 in
theorem dyFloors_far0 (s0 : Bool) (a0 : Option Addr) (len0 cap0 : Nat) (e0 : Int) (s1 : Bool) (a1 : Option Addr) (len1 cap1 : Nat) (w : World) (hT : Tab w) (hf : fewB len0 e0 = false) :
    Calls Tryd.prog 6 #[.agg #[.bool s0, .slice a0 len0 cap0, .int .i64 e0], .agg #[.bool s1, .slice a1 len1 cap1]] w (PB w true) := by
  have HF := Lib.hid hf
  clear hf
  by_cases hy : len1 ≤ 40
  · go_enter Tryd.func6, Tryd.ntmps6
    go_upto_region 1 with (fail)
    have X0 := (Bo.newAt w (g := w.heap.size) (by simp) #[.bool s0, .slice a0 len0 cap0, .int .i64 e0] 27).below (bel1 _ (.cells #[.bool s1, .slice a1 len1 cap1] 24))
    have X1 := (Bo.newAt (w.alloc (.cells #[.bool s0, .slice a0 len0 cap0, .int .i64 e0] 27)) (g := w.heap.size + 1) (by simp) #[.bool s1, .slice a1 len1 cap1] 24)
    have HB := Lib.hid (bel2 w (.cells #[.bool s0, .slice a0 len0 cap0, .int .i64 e0] 27) (.cells #[.bool s1, .slice a1 len1 cap1] 24))
    replace hT := hT.below HB.out
    generalize hW1 : ((w.alloc (.cells #[.bool s0, .slice a0 len0 cap0, .int .i64 e0] 27)).alloc (.cells #[.bool s1, .slice a1 len1 cap1] 24)) = w1 at *
    clear hW1
    go_wp2_with fail
    refine (awake3 _ hT).mono ?_
    rintro ee w2 ⟨rfl, B⟩
    replace X0 := X0.below B
    replace X1 := X1.below B
    replace hT := hT.below B
    replace HB := Lib.hid (bt HB.out B)
    clear B
    have xX00 := X0.at (i := 0) (v := .bool s0) rfl
    have xX01 := X0.at (i := 1) (v := .slice a0 len0 cap0) rfl
    have xX02 := X0.at (i := 2) (v := .int .i64 e0) rfl
    go_wp2_with fail
    refine (few3E _ HF.out).mono ?_
    rintro ee w3 ⟨rfl, B⟩
    clear xX00 xX01 xX02
    replace X0 := X0.below B
    replace X1 := X1.below B
    replace hT := hT.below B
    replace HB := Lib.hid (bt HB.out B)
    clear B
    have xX10 := X1.at (i := 0) (v := .bool s1) rfl
    have xX11 := X1.at (i := 1) (v := .slice a1 len1 cap1) rfl
    go_wp2_with fail
    refine (few_yes _ _ _ _ _ hy).mono ?_
    rintro ee w4 ⟨rfl, B⟩
    clear xX10 xX11
    replace X0 := X0.below B
    replace X1 := X1.below B
    replace hT := hT.below B
    replace HB := Lib.hid (bt HB.out B)
    clear B
    go_wp2
    go_ret
    exact ⟨rfl, HB.out⟩
  · go_enter Tryd.func6, Tryd.ntmps6
    go_upto_region 1 with (fail)
    have X0 := (Bo.newAt w (g := w.heap.size) (by simp) #[.bool s0, .slice a0 len0 cap0, .int .i64 e0] 27).below (bel1 _ (.cells #[.bool s1, .slice a1 len1 cap1] 24))
    have X1 := (Bo.newAt (w.alloc (.cells #[.bool s0, .slice a0 len0 cap0, .int .i64 e0] 27)) (g := w.heap.size + 1) (by simp) #[.bool s1, .slice a1 len1 cap1] 24)
    have HB := Lib.hid (bel2 w (.cells #[.bool s0, .slice a0 len0 cap0, .int .i64 e0] 27) (.cells #[.bool s1, .slice a1 len1 cap1] 24))
    replace hT := hT.below HB.out
    generalize hW1 : ((w.alloc (.cells #[.bool s0, .slice a0 len0 cap0, .int .i64 e0] 27)).alloc (.cells #[.bool s1, .slice a1 len1 cap1] 24)) = w1 at *
    clear hW1
    go_wp2_with fail
    refine (awake3 _ hT).mono ?_
    rintro ee w2 ⟨rfl, B⟩
    replace X0 := X0.below B
    replace X1 := X1.below B
    replace hT := hT.below B
    replace HB := Lib.hid (bt HB.out B)
    clear B
    have xX00 := X0.at (i := 0) (v := .bool s0) rfl
    have xX01 := X0.at (i := 1) (v := .slice a0 len0 cap0) rfl
    have xX02 := X0.at (i := 2) (v := .int .i64 e0) rfl
    go_wp2_with fail
    refine (few3E _ HF.out).mono ?_
    rintro ee w3 ⟨rfl, B⟩
    clear xX00 xX01 xX02
    replace X0 := X0.below B
    replace X1 := X1.below B
    replace hT := hT.below B
    replace HB := Lib.hid (bt HB.out B)
    clear B
    have xX10 := X1.at (i := 0) (v := .bool s1) rfl
    have xX11 := X1.at (i := 1) (v := .slice a1 len1 cap1) rfl
    go_wp2_with fail
    refine (few_no _ _ _ _ _ hy).mono ?_
    rintro ee w4 ⟨rfl, B⟩
    clear xX10 xX11
    replace X0 := X0.below B
    replace X1 := X1.below B
    replace hT := hT.below B
    replace HB := Lib.hid (bt HB.out B)
    clear B
    go_wp2
    go_ret
    exact ⟨rfl, HB.out⟩

set_option maxHeartbeats 2000000 in
theorem dyFloors_far1 (s0 : Bool) (a0 : Option Addr) (len0 cap0 : Nat) (e0 : Int) (s1 : Bool) (a1 : Option Addr) (len1 cap1 : Nat) (w : World) (hT : Tab w) (p : Bool) (hf : fewB len0 e0 = p) (hy : ¬ len1 ≤ 40) :
    Calls Tryd.prog 6 #[.agg #[.bool s0, .slice a0 len0 cap0, .int .i64 e0], .agg #[.bool s1, .slice a1 len1 cap1]] w (PB w true) := by
  have HF := Lib.hid hf
  clear hf
  cases p
  · go_enter Tryd.func6, Tryd.ntmps6
    go_upto_region 1 with (fail)
    have X0 := (Bo.newAt w (g := w.heap.size) (by simp) #[.bool s0, .slice a0 len0 cap0, .int .i64 e0] 27).below (bel1 _ (.cells #[.bool s1, .slice a1 len1 cap1] 24))
    have X1 := (Bo.newAt (w.alloc (.cells #[.bool s0, .slice a0 len0 cap0, .int .i64 e0] 27)) (g := w.heap.size + 1) (by simp) #[.bool s1, .slice a1 len1 cap1] 24)
    have HB := Lib.hid (bel2 w (.cells #[.bool s0, .slice a0 len0 cap0, .int .i64 e0] 27) (.cells #[.bool s1, .slice a1 len1 cap1] 24))
    replace hT := hT.below HB.out
    generalize hW1 : ((w.alloc (.cells #[.bool s0, .slice a0 len0 cap0, .int .i64 e0] 27)).alloc (.cells #[.bool s1, .slice a1 len1 cap1] 24)) = w1 at *
    clear hW1
    go_wp2_with fail
    refine (awake3 _ hT).mono ?_
    rintro ee w2 ⟨rfl, B⟩
    replace X0 := X0.below B
    replace X1 := X1.below B
    replace hT := hT.below B
    replace HB := Lib.hid (bt HB.out B)
    clear B
    have xX00 := X0.at (i := 0) (v := .bool s0) rfl
    have xX01 := X0.at (i := 1) (v := .slice a0 len0 cap0) rfl
    have xX02 := X0.at (i := 2) (v := .int .i64 e0) rfl
    go_wp2_with fail
    refine (few3E _ HF.out).mono ?_
    rintro ee w3 ⟨rfl, B⟩
    clear xX00 xX01 xX02
    replace X0 := X0.below B
    replace X1 := X1.below B
    replace hT := hT.below B
    replace HB := Lib.hid (bt HB.out B)
    clear B
    have xX10 := X1.at (i := 0) (v := .bool s1) rfl
    have xX11 := X1.at (i := 1) (v := .slice a1 len1 cap1) rfl
    go_wp2_with fail
    refine (few_no _ _ _ _ _ hy).mono ?_
    rintro ee w4 ⟨rfl, B⟩
    clear xX10 xX11
    replace X0 := X0.below B
    replace X1 := X1.below B
    replace hT := hT.below B
    replace HB := Lib.hid (bt HB.out B)
    clear B
    go_wp2
    go_ret
    exact ⟨rfl, HB.out⟩
  · go_enter Tryd.func6, Tryd.ntmps6
    go_upto_region 1 with (fail)
    have X0 := (Bo.newAt w (g := w.heap.size) (by simp) #[.bool s0, .slice a0 len0 cap0, .int .i64 e0] 27).below (bel1 _ (.cells #[.bool s1, .slice a1 len1 cap1] 24))
    have X1 := (Bo.newAt (w.alloc (.cells #[.bool s0, .slice a0 len0 cap0, .int .i64 e0] 27)) (g := w.heap.size + 1) (by simp) #[.bool s1, .slice a1 len1 cap1] 24)
    have HB := Lib.hid (bel2 w (.cells #[.bool s0, .slice a0 len0 cap0, .int .i64 e0] 27) (.cells #[.bool s1, .slice a1 len1 cap1] 24))
    replace hT := hT.below HB.out
    generalize hW1 : ((w.alloc (.cells #[.bool s0, .slice a0 len0 cap0, .int .i64 e0] 27)).alloc (.cells #[.bool s1, .slice a1 len1 cap1] 24)) = w1 at *
    clear hW1
    go_wp2_with fail
    refine (awake3 _ hT).mono ?_
    rintro ee w2 ⟨rfl, B⟩
    replace X0 := X0.below B
    replace X1 := X1.below B
    replace hT := hT.below B
    replace HB := Lib.hid (bt HB.out B)
    clear B
    have xX00 := X0.at (i := 0) (v := .bool s0) rfl
    have xX01 := X0.at (i := 1) (v := .slice a0 len0 cap0) rfl
    have xX02 := X0.at (i := 2) (v := .int .i64 e0) rfl
    go_wp2_with fail
    refine (few3E _ HF.out).mono ?_
    rintro ee w3 ⟨rfl, B⟩
    clear xX00 xX01 xX02
    replace X0 := X0.below B
    replace X1 := X1.below B
    replace hT := hT.below B
    replace HB := Lib.hid (bt HB.out B)
    clear B
    have xX10 := X1.at (i := 0) (v := .bool s1) rfl
    have xX11 := X1.at (i := 1) (v := .slice a1 len1 cap1) rfl
    go_wp2_with fail
    refine (few_no _ _ _ _ _ hy).mono ?_
    rintro ee w4 ⟨rfl, B⟩
    clear xX10 xX11
    replace X0 := X0.below B
    replace X1 := X1.below B
    replace hT := hT.below B
    replace HB := Lib.hid (bt HB.out B)
    clear B
    go_wp2
    go_ret
    exact ⟨rfl, HB.out⟩

theorem dyFloors_walk (s0 : Bool) (a0 : Option Addr) (len0 cap0 : Nat) (y0 : List Int) (e0 : Int) (s1 : Bool) (a1 : Option Addr) (len1 cap1 : Nat) (y1 : List Int) (w : World) (hT : Tab w) (w0 : RowIn w a0 len0 cap0 y0) (w1 : RowIn w a1 len1 cap1 y1) :
    Calls Tryd.prog 6 #[.agg #[.bool s0, .slice a0 len0 cap0, .int .i64 e0], .agg #[.bool s1, .slice a1 len1 cap1]] w fun e w' => e = .returned (.bool true) ∧ Below w.heap.size w w' := by
  by_cases hf : fewB len0 e0 = true
  · by_cases hy : len1 ≤ 40
    · obtain ⟨u, r0⟩ := w0.rd (by have := (fewB_true hf).1; omega)
      obtain ⟨v, r1⟩ := w1.rd (by omega)
      exact dyFloors_main s0 a0 len0 cap0 e0 s1 a1 len1 cap1 w _ _ hT (r0.wr s0) (r1.wr s1) hf hy
    · exact dyFloors_far1 s0 a0 len0 cap0 e0 s1 a1 len1 cap1 w hT _ rfl hy
  · exact dyFloors_far0 s0 a0 len0 cap0 e0 s1 a1 len1 cap1 w hT (by simpa using hf)
end Go.Proofs.YteoeoppkefcmdaaDoor

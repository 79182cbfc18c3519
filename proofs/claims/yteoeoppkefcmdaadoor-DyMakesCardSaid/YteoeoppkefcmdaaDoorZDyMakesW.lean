/-
  The walk of DyMakes: for all arguments, where the table lies as it was laid, the call answers true, and nothing that was there has turned.
-/
import Derived.Test.YteoeoppkefcmdaaDoorZa
import Derived.Test.YteoeoppkefcmdaaDoorZb
import Derived.Test.YteoeoppkefcmdaaDoorZc
import Derived.Test.YteoeoppkefcmdaaDoorZd
namespace Go.Proofs.YteoeoppkefcmdaaDoor
open Go.RowKit
set_option linter.unusedVariables false

theorem wf_i64 {n : Int} (h : (Lit.int .i64 n).wf = true) : -9223372036854775808 ≤ n ∧ n ≤ 9223372036854775807 := by
  simp [Lit.wf, IntKind.min, IntKind.max, IntKind.signed, IntKind.bits] at h
  omega
set_option maxRecDepth 100000 in
set_option maxHeartbeats 8000000 in
theorem dyMakes_main (s0 : Bool) (a0 : Option Addr) (len0 cap0 : Nat) (e1 : Int) (e2 : Int) (w : World) (x : Int) (hT : Tab w) (h0 : Wr w s0 a0 len0 cap0 x) (hn : len0 ≤ 20) (i0 : -9223372036854775808 ≤ e2) (i1 : e2 ≤ 9223372036854775807) :
    Calls Tryd.prog 3 #[.agg #[.bool s0, .slice a0 len0 cap0], .int .i64 e1, .int .i64 e2] w (PB w true) := by
  have t0 : decide ((20 : Int) < len0) = false := by simp; omega
  obtain ⟨P, hP⟩ : ∃ P, mk x e1 = P := ⟨_, rfl⟩
  have nP : Nf P := by rw [← hP]; exact mk_nf _ _
  obtain ⟨Q, hQ⟩ : ∃ Q, mv x e1 e2 = Q := ⟨_, rfl⟩
  obtain ⟨m, hm⟩ : ∃ m, mayD s0 len0 x.natAbs e1 = m := ⟨_, rfl⟩
  obtain ⟨σ, hσ⟩ : ∃ σ, cmpI P.1 0 = σ := ⟨_, rfl⟩
  have bm : (m == m) = true := by simp
  have bσ : (σ == σ) = true := by simp
  have HP := Lib.hid hP
  have HP1 := Lib.hid (congrArg Prod.fst hP)
  have HP2 := Lib.hid (congrArg Prod.snd hP)
  have HQ1 := Lib.hid (congrArg Prod.fst hQ)
  have HQ2 := Lib.hid (congrArg Prod.snd hQ)
  have HnP := Lib.hid nP
  have Hm := Lib.hid hm
  have Hσ := Lib.hid hσ
  clear hP nP hQ hm hσ
  go_enter Tryd.func3, Tryd.ntmps3
  go_upto_region 1 with (fail)
  have X0 := (Bo.newAt w (g := w.heap.size) (by simp) #[.bool s0, .slice a0 len0 cap0] 24)
  have HB := Lib.hid (bel1 w (.cells #[.bool s0, .slice a0 len0 cap0] 24))
  replace hT := hT.below HB.out
  replace h0 := h0.below HB.out
  generalize hW1 : (w.alloc (.cells #[.bool s0, .slice a0 len0 cap0] 24)) = w1 at *
  clear hW1
  go_wp2_with fail
  refine (awake3 _ hT).mono ?_
  rintro ee w2 ⟨rfl, B⟩
  replace X0 := X0.below B
  replace hT := hT.below B
  replace h0 := h0.below B
  replace HB := Lib.hid (bt HB.out B)
  clear B
  have xX00 := X0.at (i := 0) (v := .bool s0) rfl
  have xX01 := X0.at (i := 1) (v := .slice a0 len0 cap0) rfl
  go_upto_region 4 with (fail)
  clear xX00 xX01
  clear t0
  have xX00 := X0.at (i := 0) (v := .bool s0) rfl
  have xX01 := X0.at (i := 1) (v := .slice a0 len0 cap0) rfl
  go_wp2_with fail
  refine (dMake hT h0 (by omega) HP1.out HP2.out).mono ?_
  rintro ee w3 ⟨s8, A8, n8, c8, rfl, p8, k8, B⟩
  clear xX00 xX01
  replace X0 := X0.below B
  replace hT := hT.below B
  replace h0 := h0.below B
  replace HB := Lib.hid (bt HB.out B)
  clear B
  go_upto_region 5 with (fail)
  have lX8 := Nat.le_refl (World.heap w3).size
  have nX8X0 := X0.lt
  replace X0 := X0.below (bel1 _ (.cells #[.bool s8, .slice A8 n8 c8, .int .i64 P.2] 27))
  replace hT := hT.below (bel1 _ (.cells #[.bool s8, .slice A8 n8 c8, .int .i64 P.2] 27))
  replace h0 := h0.below (bel1 _ (.cells #[.bool s8, .slice A8 n8 c8, .int .i64 P.2] 27))
  replace p8 := p8.below (bel1 _ (.cells #[.bool s8, .slice A8 n8 c8, .int .i64 P.2] 27))
  replace HB := Lib.hid (bt HB.out (bel1 _ (.cells #[.bool s8, .slice A8 n8 c8, .int .i64 P.2] 27)))
  have X8 := Bo.new w3 #[.bool s8, .slice A8 n8 c8, .int .i64 P.2] 27
  generalize hWn : World.alloc w3 (.cells #[.bool s8, .slice A8 n8 c8, .int .i64 P.2] 27) = w4 at *
  clear hWn
  have xX00 := X0.at (i := 0) (v := .bool s0) rfl
  have xX01 := X0.at (i := 1) (v := .slice a0 len0 cap0) rfl
  go_upto_region 6 with (fail)
  clear xX00 xX01
  have lX9 := Nat.le_refl (World.heap w4).size
  have nX9X0 := X0.lt
  have nX9X8 := X8.lt
  replace X0 := X0.below (bel1 _ (.cells #[.bool s0, .slice a0 len0 cap0, .int .i64 e1] 27))
  replace X8 := X8.below (bel1 _ (.cells #[.bool s0, .slice a0 len0 cap0, .int .i64 e1] 27))
  replace hT := hT.below (bel1 _ (.cells #[.bool s0, .slice a0 len0 cap0, .int .i64 e1] 27))
  replace h0 := h0.below (bel1 _ (.cells #[.bool s0, .slice a0 len0 cap0, .int .i64 e1] 27))
  replace p8 := p8.below (bel1 _ (.cells #[.bool s0, .slice a0 len0 cap0, .int .i64 e1] 27))
  replace HB := Lib.hid (bt HB.out (bel1 _ (.cells #[.bool s0, .slice a0 len0 cap0, .int .i64 e1] 27)))
  have X9 := Bo.new w4 #[.bool s0, .slice a0 len0 cap0, .int .i64 e1] 27
  generalize hWn : World.alloc w4 (.cells #[.bool s0, .slice a0 len0 cap0, .int .i64 e1] 27) = w5 at *
  clear hWn
  refine Jo.region_joint (T := [0, 1, 2, 3, 4, 5]) (ds := [some 28, some 29, some 30, some 31, some 32, some 10]) (ls := [[], [], [], [1, 2], [0, 3], [4]]) (k := 6) (L := [(some 28, 0), (some 29, 1), (some 30, 2), (some 31, 3), (some 32, 4), (some 10, 5)]) (fuel := 0) (J := fun wj => Below (World.heap w5).size w5 wj)
    (F := [Jo.Fact.eq (.agg #[.bool s8, .slice A8 n8 c8, .int .i64 P.2]), Jo.Fact.eq (.agg #[.bool s0, .slice a0 len0 cap0]), Jo.Fact.eq (.int .i64 e1), Jo.Fact.dy P.1 P.2 20, Jo.Fact.eq (.bool true), Jo.Fact.eq (.bool true)])
    (by kernel_rfl) (by kernel_rfl) (by decide) rfl rfl (fun _ _ h b => bt h b) ((Below.refl _ _).drew) ?_ (fun vs w6 hJ hd => ?_)
  · refine Jo.jcons (i := 0) (o := ⟨some 28, _, _, _, _, _⟩) (di := some 28) (L := []) (f := Jo.Fact.eq (.agg #[.bool s8, .slice A8 n8 c8, .int .i64 P.2])) rfl rfl rfl rfl (fun vs wj hJ hd K hK => ?_) ?_
    · clear hd
      simp only [Jo.putl, List.foldl_nil, Act.put, List.setIfInBounds_toArray, List.set_cons_zero, List.set_cons_succ] at hK ⊢
      have xX80 : World.cell? wj ⟨w3.heap.size, 0, none⟩ = some (.bool s8) := (X8.below hJ).cell 0
      have xX81 : World.cell? wj ⟨w3.heap.size, 1, none⟩ = some (.slice A8 n8 c8) := (X8.below hJ).cell 1
      have xX82 : World.cell? wj ⟨w3.heap.size, 2, none⟩ = some (.int .i64 P.2) := (X8.below hJ).cell 2
      go_simp
      exact hK.out _ _ rfl (Below.refl _ _)
    refine Jo.jcons (i := 1) (o := ⟨some 29, _, _, _, _, _⟩) (di := some 29) (L := []) (f := Jo.Fact.eq (.agg #[.bool s0, .slice a0 len0 cap0])) rfl rfl rfl rfl (fun vs wj hJ hd K hK => ?_) ?_
    · clear hd
      simp only [Jo.putl, List.foldl_nil, Act.put, List.setIfInBounds_toArray, List.set_cons_zero, List.set_cons_succ] at hK ⊢
      have xX00 : World.cell? wj ⟨w.heap.size, 0, none⟩ = some (.bool s0) := (X0.below hJ).cell 0
      have xX01 : World.cell? wj ⟨w.heap.size, 1, none⟩ = some (.slice a0 len0 cap0) := (X0.below hJ).cell 1
      go_simp
      exact hK.out _ _ rfl (Below.refl _ _)
    refine Jo.jcons (i := 2) (o := ⟨some 30, _, _, _, _, _⟩) (di := some 30) (L := []) (f := Jo.Fact.eq (.int .i64 e1)) rfl rfl rfl rfl (fun vs wj hJ hd K hK => ?_) ?_
    · clear hd
      simp only [Jo.putl, List.foldl_nil, Act.put, List.setIfInBounds_toArray, List.set_cons_zero, List.set_cons_succ] at hK ⊢
      go_simp
      exact hK.out _ _ rfl (Below.refl _ _)
    refine Jo.jcons (i := 3) (o := ⟨some 31, _, _, _, _, _⟩) (di := some 31) (L := [(some 29, 1), (some 30, 2)]) (f := Jo.Fact.dy P.1 P.2 20) rfl rfl rfl rfl (fun vs wj hJ hd K hK => ?_) ?_
    · have d1 : (Jo.Fact.eq (.agg #[.bool s0, .slice a0 len0 cap0])).P (vs 1) wj := hd 1 (by decide)
      have d2 : (Jo.Fact.eq (.int .i64 e1)).P (vs 2) wj := hd 2 (by decide)
      clear hd
      simp only [Jo.putl, List.foldl_cons, List.foldl_nil, Act.put, List.setIfInBounds_toArray, List.set_cons_zero, List.set_cons_succ] at hK ⊢
      generalize vs 1 = u1 at hK d1 ⊢
      generalize vs 2 = u2 at hK d2 ⊢
      replace d1 : u1 = _ := d1
      subst d1
      replace d2 : u2 = _ := d2
      subst d2
      go_simp
      refine (q3Make (h0.below hJ) (by omega) HP1.out HP2.out).mono ?_
      rintro ee wk ⟨s10, A10, n10, c10, rfl, p10, k10, B⟩
      exact hK.out _ _ ⟨s10, A10, n10, c10, rfl, p10, Nat.le_trans k10 hn⟩ B
    refine Jo.jcons (i := 4) (o := ⟨some 32, _, _, _, _, _⟩) (di := some 32) (L := [(some 28, 0), (some 31, 3)]) (f := Jo.Fact.eq (.bool true)) rfl rfl rfl rfl (fun vs wj hJ hd K hK => ?_) ?_
    · have d0 : (Jo.Fact.eq (.agg #[.bool s8, .slice A8 n8 c8, .int .i64 P.2])).P (vs 0) wj := hd 0 (by decide)
      have d3 : (Jo.Fact.dy P.1 P.2 20).P (vs 3) wj := hd 3 (by decide)
      clear hd
      simp only [Jo.putl, List.foldl_cons, List.foldl_nil, Act.put, List.setIfInBounds_toArray, List.set_cons_zero, List.set_cons_succ] at hK ⊢
      generalize vs 0 = u0 at hK d0 ⊢
      generalize vs 3 = u3 at hK d3 ⊢
      replace d0 : u0 = _ := d0
      subst d0
      obtain ⟨s10, A10, n10, c10, rfl, p10, k10⟩ := d3
      go_simp
      refine (q3Alike (p8.below hJ) p10).mono ?_
      rintro ee wk ⟨rfl, B⟩
      exact hK.out _ _ rfl B
    refine Jo.jcons (i := 5) (o := ⟨some 10, _, _, _, _, _⟩) (di := some 10) (L := [(some 32, 4)]) (f := Jo.Fact.eq (.bool true)) rfl rfl rfl rfl (fun vs wj hJ hd K hK => ?_) ?_
    · have d4 : (Jo.Fact.eq (.bool true)).P (vs 4) wj := hd 4 (by decide)
      clear hd
      simp only [Jo.putl, List.foldl_cons, List.foldl_nil, Act.put, List.setIfInBounds_toArray, List.set_cons_zero, List.set_cons_succ] at hK ⊢
      generalize vs 4 = u4 at hK d4 ⊢
      replace d4 : u4 = _ := d4
      subst d4
      go_simp
      exact hK.out _ _ rfl (Below.refl _ _)
    exact Jo.Steps.nil
  have d0 : (Jo.Fact.eq (.agg #[.bool s8, .slice A8 n8 c8, .int .i64 P.2])).P (vs 0) w6 := hd 0 (by decide)
  have d1 : (Jo.Fact.eq (.agg #[.bool s0, .slice a0 len0 cap0])).P (vs 1) w6 := hd 1 (by decide)
  have d2 : (Jo.Fact.eq (.int .i64 e1)).P (vs 2) w6 := hd 2 (by decide)
  have d3 : (Jo.Fact.dy P.1 P.2 20).P (vs 3) w6 := hd 3 (by decide)
  have d4 : (Jo.Fact.eq (.bool true)).P (vs 4) w6 := hd 4 (by decide)
  have d5 : (Jo.Fact.eq (.bool true)).P (vs 5) w6 := hd 5 (by decide)
  clear hd
  simp only [Jo.putl, List.foldl_cons, List.foldl_nil, Act.put, List.setIfInBounds_toArray, List.set_cons_zero, List.set_cons_succ]
  generalize vs 0 = u0 at d0 ⊢
  generalize vs 1 = u1 at d1 ⊢
  generalize vs 2 = u2 at d2 ⊢
  generalize vs 3 = u3 at d3 ⊢
  generalize vs 4 = u4 at d4 ⊢
  generalize vs 5 = u5 at d5 ⊢
  clear vs
  replace d0 : u0 = _ := d0
  subst d0
  replace d1 : u1 = _ := d1
  subst d1
  replace d2 : u2 = _ := d2
  subst d2
  obtain ⟨s10, A10, n10, c10, rfl, _, _⟩ := d3
  replace d4 : u4 = _ := d4
  subst d4
  replace d5 : u5 = _ := d5
  subst d5
  replace X0 := X0.below hJ
  replace X8 := X8.below hJ
  replace X9 := X9.below hJ
  replace hT := hT.below hJ
  replace h0 := h0.below hJ
  replace p8 := p8.below hJ
  replace HB := Lib.hid (bt HB.out hJ)
  refine Jo.jdone (by kernel_rfl) ?_
  go_upto_region 7 with (fail)
  refine Jo.region_joint (T := [0, 1, 2, 3, 4, 5, 6, 7]) (ds := [some 33, some 34, some 35, some 36, some 37, some 38, some 39, some 11]) (ls := [[], [], [0, 1], [], [], [3, 4], [2, 5], [6]]) (k := 8) (L := [(some 33, 0), (some 34, 1), (some 35, 2), (some 36, 3), (some 37, 4), (some 38, 5), (some 39, 6), (some 11, 7)]) (fuel := 0) (J := fun wj => Below (World.heap w6).size w6 wj)
    (F := [Jo.Fact.eq (.agg #[.bool s0, .slice a0 len0 cap0, .int .i64 e1]), Jo.Fact.eq (.int .i64 e2), Jo.Fact.dy Q.1 Q.2 20, Jo.Fact.eq (.agg #[.bool s0, .slice a0 len0 cap0, .int .i64 e1]), Jo.Fact.eq (.int .i64 e2), Jo.Fact.dy Q.1 Q.2 20, Jo.Fact.eq (.bool true), Jo.Fact.eq (.bool true)])
    (by kernel_rfl) (by kernel_rfl) (by decide) rfl rfl (fun _ _ h b => bt h b) ((Below.refl _ _).drew) ?_ (fun vs w7 hJ hd => ?_)
  · refine Jo.jcons (i := 0) (o := ⟨some 33, _, _, _, _, _⟩) (di := some 33) (L := []) (f := Jo.Fact.eq (.agg #[.bool s0, .slice a0 len0 cap0, .int .i64 e1])) rfl rfl rfl rfl (fun vs wj hJ hd K hK => ?_) ?_
    · clear hd
      simp only [Jo.putl, List.foldl_nil, Act.put, List.setIfInBounds_toArray, List.set_cons_zero, List.set_cons_succ] at hK ⊢
      have xX90 : World.cell? wj ⟨w4.heap.size, 0, none⟩ = some (.bool s0) := (X9.below hJ).cell 0
      have xX91 : World.cell? wj ⟨w4.heap.size, 1, none⟩ = some (.slice a0 len0 cap0) := (X9.below hJ).cell 1
      have xX92 : World.cell? wj ⟨w4.heap.size, 2, none⟩ = some (.int .i64 e1) := (X9.below hJ).cell 2
      go_simp
      exact hK.out _ _ rfl (Below.refl _ _)
    refine Jo.jcons (i := 1) (o := ⟨some 34, _, _, _, _, _⟩) (di := some 34) (L := []) (f := Jo.Fact.eq (.int .i64 e2)) rfl rfl rfl rfl (fun vs wj hJ hd K hK => ?_) ?_
    · clear hd
      simp only [Jo.putl, List.foldl_nil, Act.put, List.setIfInBounds_toArray, List.set_cons_zero, List.set_cons_succ] at hK ⊢
      go_simp
      exact hK.out _ _ rfl (Below.refl _ _)
    refine Jo.jcons (i := 2) (o := ⟨some 35, _, _, _, _, _⟩) (di := some 35) (L := [(some 33, 0), (some 34, 1)]) (f := Jo.Fact.dy Q.1 Q.2 20) rfl rfl rfl rfl (fun vs wj hJ hd K hK => ?_) ?_
    · have d0 : (Jo.Fact.eq (.agg #[.bool s0, .slice a0 len0 cap0, .int .i64 e1])).P (vs 0) wj := hd 0 (by decide)
      have d1 : (Jo.Fact.eq (.int .i64 e2)).P (vs 1) wj := hd 1 (by decide)
      clear hd
      simp only [Jo.putl, List.foldl_cons, List.foldl_nil, Act.put, List.setIfInBounds_toArray, List.set_cons_zero, List.set_cons_succ] at hK ⊢
      generalize vs 0 = u0 at hK d0 ⊢
      generalize vs 1 = u1 at hK d1 ⊢
      replace d0 : u0 = _ := d0
      subst d0
      replace d1 : u1 = _ := d1
      subst d1
      go_simp
      refine (dMv (hT.below hJ) (h0.below hJ) (by omega) i0 i1 HQ1.out HQ2.out).mono ?_
      rintro ee wk ⟨s11, A11, n11, c11, rfl, p11, k11, B⟩
      exact hK.out _ _ ⟨s11, A11, n11, c11, rfl, p11, Nat.le_trans k11 hn⟩ B
    refine Jo.jcons (i := 3) (o := ⟨some 36, _, _, _, _, _⟩) (di := some 36) (L := []) (f := Jo.Fact.eq (.agg #[.bool s0, .slice a0 len0 cap0, .int .i64 e1])) rfl rfl rfl rfl (fun vs wj hJ hd K hK => ?_) ?_
    · clear hd
      simp only [Jo.putl, List.foldl_nil, Act.put, List.setIfInBounds_toArray, List.set_cons_zero, List.set_cons_succ] at hK ⊢
      have xX90 : World.cell? wj ⟨w4.heap.size, 0, none⟩ = some (.bool s0) := (X9.below hJ).cell 0
      have xX91 : World.cell? wj ⟨w4.heap.size, 1, none⟩ = some (.slice a0 len0 cap0) := (X9.below hJ).cell 1
      have xX92 : World.cell? wj ⟨w4.heap.size, 2, none⟩ = some (.int .i64 e1) := (X9.below hJ).cell 2
      go_simp
      exact hK.out _ _ rfl (Below.refl _ _)
    refine Jo.jcons (i := 4) (o := ⟨some 37, _, _, _, _, _⟩) (di := some 37) (L := []) (f := Jo.Fact.eq (.int .i64 e2)) rfl rfl rfl rfl (fun vs wj hJ hd K hK => ?_) ?_
    · clear hd
      simp only [Jo.putl, List.foldl_nil, Act.put, List.setIfInBounds_toArray, List.set_cons_zero, List.set_cons_succ] at hK ⊢
      go_simp
      exact hK.out _ _ rfl (Below.refl _ _)
    refine Jo.jcons (i := 5) (o := ⟨some 38, _, _, _, _, _⟩) (di := some 38) (L := [(some 36, 3), (some 37, 4)]) (f := Jo.Fact.dy Q.1 Q.2 20) rfl rfl rfl rfl (fun vs wj hJ hd K hK => ?_) ?_
    · have d3 : (Jo.Fact.eq (.agg #[.bool s0, .slice a0 len0 cap0, .int .i64 e1])).P (vs 3) wj := hd 3 (by decide)
      have d4 : (Jo.Fact.eq (.int .i64 e2)).P (vs 4) wj := hd 4 (by decide)
      clear hd
      simp only [Jo.putl, List.foldl_cons, List.foldl_nil, Act.put, List.setIfInBounds_toArray, List.set_cons_zero, List.set_cons_succ] at hK ⊢
      generalize vs 3 = u3 at hK d3 ⊢
      generalize vs 4 = u4 at hK d4 ⊢
      replace d3 : u3 = _ := d3
      subst d3
      replace d4 : u4 = _ := d4
      subst d4
      go_simp
      refine (q3Move (h0.below hJ) (by omega) HQ1.out HQ2.out).mono ?_
      rintro ee wk ⟨s12, A12, n12, c12, rfl, p12, k12, B⟩
      exact hK.out _ _ ⟨s12, A12, n12, c12, rfl, p12, Nat.le_trans k12 hn⟩ B
    refine Jo.jcons (i := 6) (o := ⟨some 39, _, _, _, _, _⟩) (di := some 39) (L := [(some 35, 2), (some 38, 5)]) (f := Jo.Fact.eq (.bool true)) rfl rfl rfl rfl (fun vs wj hJ hd K hK => ?_) ?_
    · have d2 : (Jo.Fact.dy Q.1 Q.2 20).P (vs 2) wj := hd 2 (by decide)
      have d5 : (Jo.Fact.dy Q.1 Q.2 20).P (vs 5) wj := hd 5 (by decide)
      clear hd
      simp only [Jo.putl, List.foldl_cons, List.foldl_nil, Act.put, List.setIfInBounds_toArray, List.set_cons_zero, List.set_cons_succ] at hK ⊢
      generalize vs 2 = u2 at hK d2 ⊢
      generalize vs 5 = u5 at hK d5 ⊢
      obtain ⟨s11, A11, n11, c11, rfl, p11, k11⟩ := d2
      obtain ⟨s12, A12, n12, c12, rfl, p12, k12⟩ := d5
      go_simp
      refine (q3Alike p11 p12).mono ?_
      rintro ee wk ⟨rfl, B⟩
      exact hK.out _ _ rfl B
    refine Jo.jcons (i := 7) (o := ⟨some 11, _, _, _, _, _⟩) (di := some 11) (L := [(some 39, 6)]) (f := Jo.Fact.eq (.bool true)) rfl rfl rfl rfl (fun vs wj hJ hd K hK => ?_) ?_
    · have d6 : (Jo.Fact.eq (.bool true)).P (vs 6) wj := hd 6 (by decide)
      clear hd
      simp only [Jo.putl, List.foldl_cons, List.foldl_nil, Act.put, List.setIfInBounds_toArray, List.set_cons_zero, List.set_cons_succ] at hK ⊢
      generalize vs 6 = u6 at hK d6 ⊢
      replace d6 : u6 = _ := d6
      subst d6
      go_simp
      exact hK.out _ _ rfl (Below.refl _ _)
    exact Jo.Steps.nil
  have d0 : (Jo.Fact.eq (.agg #[.bool s0, .slice a0 len0 cap0, .int .i64 e1])).P (vs 0) w7 := hd 0 (by decide)
  have d1 : (Jo.Fact.eq (.int .i64 e2)).P (vs 1) w7 := hd 1 (by decide)
  have d2 : (Jo.Fact.dy Q.1 Q.2 20).P (vs 2) w7 := hd 2 (by decide)
  have d3 : (Jo.Fact.eq (.agg #[.bool s0, .slice a0 len0 cap0, .int .i64 e1])).P (vs 3) w7 := hd 3 (by decide)
  have d4 : (Jo.Fact.eq (.int .i64 e2)).P (vs 4) w7 := hd 4 (by decide)
  have d5 : (Jo.Fact.dy Q.1 Q.2 20).P (vs 5) w7 := hd 5 (by decide)
  have d6 : (Jo.Fact.eq (.bool true)).P (vs 6) w7 := hd 6 (by decide)
  have d7 : (Jo.Fact.eq (.bool true)).P (vs 7) w7 := hd 7 (by decide)
  clear hd
  simp only [Jo.putl, List.foldl_cons, List.foldl_nil, Act.put, List.setIfInBounds_toArray, List.set_cons_zero, List.set_cons_succ]
  generalize vs 0 = u0 at d0 ⊢
  generalize vs 1 = u1 at d1 ⊢
  generalize vs 2 = u2 at d2 ⊢
  generalize vs 3 = u3 at d3 ⊢
  generalize vs 4 = u4 at d4 ⊢
  generalize vs 5 = u5 at d5 ⊢
  generalize vs 6 = u6 at d6 ⊢
  generalize vs 7 = u7 at d7 ⊢
  clear vs
  replace d0 : u0 = _ := d0
  subst d0
  replace d1 : u1 = _ := d1
  subst d1
  obtain ⟨s11, A11, n11, c11, rfl, _, _⟩ := d2
  replace d3 : u3 = _ := d3
  subst d3
  replace d4 : u4 = _ := d4
  subst d4
  obtain ⟨s12, A12, n12, c12, rfl, _, _⟩ := d5
  replace d6 : u6 = _ := d6
  subst d6
  replace d7 : u7 = _ := d7
  subst d7
  replace X0 := X0.below hJ
  replace X8 := X8.below hJ
  replace X9 := X9.below hJ
  replace hT := hT.below hJ
  replace h0 := h0.below hJ
  replace p8 := p8.below hJ
  replace HB := Lib.hid (bt HB.out hJ)
  refine Jo.jdone (by kernel_rfl) ?_
  go_upto_region 8 with (fail)
  refine Jo.region_joint (T := [0, 1, 2, 3, 4, 5, 6, 7, 8, 9, 10, 11, 12, 13, 14, 15, 16, 17, 18, 19, 20, 21, 22]) (ds := [some 40, some 41, some 42, some 43, some 44, some 45, some 46, some 47, some 48, some 49, some 50, some 51, some 52, some 53, some 54, some 55, some 56, some 57, some 58, some 59, some 60, some 61, some 6]) (ls := [[], [0], [1], [1, 2], [3], [4], [4, 5], [4, 6], [7], [8], [8, 9], [8], [8, 11], [8, 10, 12], [8, 13], [14], [15], [15, 16], [15], [15, 18], [15, 17, 19], [15, 20], [21]]) (k := 23) (L := [(some 40, 0), (some 41, 1), (some 42, 2), (some 43, 3), (some 44, 4), (some 45, 5), (some 46, 6), (some 47, 7), (some 48, 8), (some 49, 9), (some 50, 10), (some 51, 11), (some 52, 12), (some 53, 13), (some 54, 14), (some 55, 15), (some 56, 16), (some 57, 17), (some 58, 18), (some 59, 19), (some 60, 20), (some 61, 21), (some 6, 22)]) (fuel := 0) (J := fun wj => Below (World.heap w7).size w7 wj)
    (F := [Jo.Fact.eq (.bool true), Jo.Fact.eq (.bool true), Jo.Fact.eq (.bool true), Jo.Fact.eq (.bool true), Jo.Fact.eq (.bool true), Jo.Fact.eq (.agg #[.bool s8, .slice A8 n8 c8, .int .i64 P.2]), Jo.Fact.eq (.bool true), Jo.Fact.eq (.bool true), Jo.Fact.eq (.bool true), Jo.Fact.eq (.agg #[.bool s0, .slice a0 len0 cap0, .int .i64 e1]), Jo.Fact.eq (.bool m), Jo.Fact.eq (.agg #[.bool s0, .slice a0 len0 cap0, .int .i64 e1]), Jo.Fact.eq (.bool m), Jo.Fact.eq (.bool true), Jo.Fact.eq (.bool true), Jo.Fact.eq (.bool true), Jo.Fact.eq (.agg #[.bool s0, .slice a0 len0 cap0, .int .i64 e1]), Jo.Fact.eq (.int .i64 σ), Jo.Fact.eq (.agg #[.bool s0, .slice a0 len0 cap0, .int .i64 e1]), Jo.Fact.eq (.int .i64 σ), Jo.Fact.eq (.bool true), Jo.Fact.eq (.bool true), Jo.Fact.eq (.bool true)])
    (by kernel_rfl) (by kernel_rfl) (by decide) rfl rfl (fun _ _ h b => bt h b) ((Below.refl _ _).drew) ?_ (fun vs w8 hJ hd => ?_)
  · refine Jo.jcons (i := 0) (o := ⟨some 40, _, _, _, _, _⟩) (di := some 40) (L := []) (f := Jo.Fact.eq (.bool true)) rfl rfl rfl rfl (fun vs wj hJ hd K hK => ?_) ?_
    · clear hd
      simp only [Jo.putl, List.foldl_nil, Act.put, List.setIfInBounds_toArray, List.set_cons_zero, List.set_cons_succ] at hK ⊢
      go_simp
      exact hK.out _ _ rfl (Below.refl _ _)
    refine Jo.jcons (i := 1) (o := ⟨some 41, _, _, _, _, _⟩) (di := some 41) (L := [(some 40, 0)]) (f := Jo.Fact.eq (.bool true)) rfl rfl rfl rfl (fun vs wj hJ hd K hK => ?_) ?_
    · have d0 : (Jo.Fact.eq (.bool true)).P (vs 0) wj := hd 0 (by decide)
      clear hd
      simp only [Jo.putl, List.foldl_cons, List.foldl_nil, Act.put, List.setIfInBounds_toArray, List.set_cons_zero, List.set_cons_succ] at hK ⊢
      generalize vs 0 = u0 at hK d0 ⊢
      replace d0 : u0 = _ := d0
      subst d0
      go_simp
      exact hK.out _ _ rfl (Below.refl _ _)
    refine Jo.jcons (i := 2) (o := ⟨some 42, _, _, _, _, _⟩) (di := some 42) (L := [(some 41, 1)]) (f := Jo.Fact.eq (.bool true)) rfl rfl rfl rfl (fun vs wj hJ hd K hK => ?_) ?_
    · have d1 : (Jo.Fact.eq (.bool true)).P (vs 1) wj := hd 1 (by decide)
      clear hd
      simp only [Jo.putl, List.foldl_cons, List.foldl_nil, Act.put, List.setIfInBounds_toArray, List.set_cons_zero, List.set_cons_succ] at hK ⊢
      generalize vs 1 = u1 at hK d1 ⊢
      replace d1 : u1 = _ := d1
      subst d1
      go_simp
      exact hK.out _ _ rfl (Below.refl _ _)
    refine Jo.jcons (i := 3) (o := ⟨some 43, _, _, _, _, _⟩) (di := some 43) (L := [(some 41, 1), (some 42, 2)]) (f := Jo.Fact.eq (.bool true)) rfl rfl rfl rfl (fun vs wj hJ hd K hK => ?_) ?_
    · have d1 : (Jo.Fact.eq (.bool true)).P (vs 1) wj := hd 1 (by decide)
      have d2 : (Jo.Fact.eq (.bool true)).P (vs 2) wj := hd 2 (by decide)
      clear hd
      simp only [Jo.putl, List.foldl_cons, List.foldl_nil, Act.put, List.setIfInBounds_toArray, List.set_cons_zero, List.set_cons_succ] at hK ⊢
      generalize vs 1 = u1 at hK d1 ⊢
      generalize vs 2 = u2 at hK d2 ⊢
      replace d1 : u1 = _ := d1
      subst d1
      replace d2 : u2 = _ := d2
      subst d2
      go_simp
      exact hK.out _ _ rfl (Below.refl _ _)
    refine Jo.jcons (i := 4) (o := ⟨some 44, _, _, _, _, _⟩) (di := some 44) (L := [(some 43, 3)]) (f := Jo.Fact.eq (.bool true)) rfl rfl rfl rfl (fun vs wj hJ hd K hK => ?_) ?_
    · have d3 : (Jo.Fact.eq (.bool true)).P (vs 3) wj := hd 3 (by decide)
      clear hd
      simp only [Jo.putl, List.foldl_cons, List.foldl_nil, Act.put, List.setIfInBounds_toArray, List.set_cons_zero, List.set_cons_succ] at hK ⊢
      generalize vs 3 = u3 at hK d3 ⊢
      replace d3 : u3 = _ := d3
      subst d3
      go_simp
      exact hK.out _ _ rfl (Below.refl _ _)
    refine Jo.jcons (i := 5) (o := ⟨some 45, _, _, _, _, _⟩) (di := some 45) (L := [(some 44, 4)]) (f := Jo.Fact.eq (.agg #[.bool s8, .slice A8 n8 c8, .int .i64 P.2])) rfl rfl rfl rfl (fun vs wj hJ hd K hK => ?_) ?_
    · have d4 : (Jo.Fact.eq (.bool true)).P (vs 4) wj := hd 4 (by decide)
      clear hd
      simp only [Jo.putl, List.foldl_cons, List.foldl_nil, Act.put, List.setIfInBounds_toArray, List.set_cons_zero, List.set_cons_succ] at hK ⊢
      generalize vs 4 = u4 at hK d4 ⊢
      replace d4 : u4 = _ := d4
      subst d4
      have xX80 : World.cell? wj ⟨w3.heap.size, 0, none⟩ = some (.bool s8) := (X8.below hJ).cell 0
      have xX81 : World.cell? wj ⟨w3.heap.size, 1, none⟩ = some (.slice A8 n8 c8) := (X8.below hJ).cell 1
      have xX82 : World.cell? wj ⟨w3.heap.size, 2, none⟩ = some (.int .i64 P.2) := (X8.below hJ).cell 2
      go_simp
      exact hK.out _ _ rfl (Below.refl _ _)
    refine Jo.jcons (i := 6) (o := ⟨some 46, _, _, _, _, _⟩) (di := some 46) (L := [(some 44, 4), (some 45, 5)]) (f := Jo.Fact.eq (.bool true)) rfl rfl rfl rfl (fun vs wj hJ hd K hK => ?_) ?_
    · have d4 : (Jo.Fact.eq (.bool true)).P (vs 4) wj := hd 4 (by decide)
      have d5 : (Jo.Fact.eq (.agg #[.bool s8, .slice A8 n8 c8, .int .i64 P.2])).P (vs 5) wj := hd 5 (by decide)
      clear hd
      simp only [Jo.putl, List.foldl_cons, List.foldl_nil, Act.put, List.setIfInBounds_toArray, List.set_cons_zero, List.set_cons_succ] at hK ⊢
      generalize vs 4 = u4 at hK d4 ⊢
      generalize vs 5 = u5 at hK d5 ⊢
      replace d4 : u4 = _ := d4
      subst d4
      replace d5 : u5 = _ := d5
      subst d5
      go_simp
      refine (dMay (r := true) (p8.below hJ).1.rd (mayD_nf (p8.below hJ) HnP.out)).mono ?_
      rintro ee wk ⟨rfl, B⟩
      exact hK.out _ _ rfl B
    refine Jo.jcons (i := 7) (o := ⟨some 47, _, _, _, _, _⟩) (di := some 47) (L := [(some 44, 4), (some 46, 6)]) (f := Jo.Fact.eq (.bool true)) rfl rfl rfl rfl (fun vs wj hJ hd K hK => ?_) ?_
    · have d4 : (Jo.Fact.eq (.bool true)).P (vs 4) wj := hd 4 (by decide)
      have d6 : (Jo.Fact.eq (.bool true)).P (vs 6) wj := hd 6 (by decide)
      clear hd
      simp only [Jo.putl, List.foldl_cons, List.foldl_nil, Act.put, List.setIfInBounds_toArray, List.set_cons_zero, List.set_cons_succ] at hK ⊢
      generalize vs 4 = u4 at hK d4 ⊢
      generalize vs 6 = u6 at hK d6 ⊢
      replace d4 : u4 = _ := d4
      subst d4
      replace d6 : u6 = _ := d6
      subst d6
      go_simp
      exact hK.out _ _ rfl (Below.refl _ _)
    refine Jo.jcons (i := 8) (o := ⟨some 48, _, _, _, _, _⟩) (di := some 48) (L := [(some 47, 7)]) (f := Jo.Fact.eq (.bool true)) rfl rfl rfl rfl (fun vs wj hJ hd K hK => ?_) ?_
    · have d7 : (Jo.Fact.eq (.bool true)).P (vs 7) wj := hd 7 (by decide)
      clear hd
      simp only [Jo.putl, List.foldl_cons, List.foldl_nil, Act.put, List.setIfInBounds_toArray, List.set_cons_zero, List.set_cons_succ] at hK ⊢
      generalize vs 7 = u7 at hK d7 ⊢
      replace d7 : u7 = _ := d7
      subst d7
      go_simp
      exact hK.out _ _ rfl (Below.refl _ _)
    refine Jo.jcons (i := 9) (o := ⟨some 49, _, _, _, _, _⟩) (di := some 49) (L := [(some 48, 8)]) (f := Jo.Fact.eq (.agg #[.bool s0, .slice a0 len0 cap0, .int .i64 e1])) rfl rfl rfl rfl (fun vs wj hJ hd K hK => ?_) ?_
    · have d8 : (Jo.Fact.eq (.bool true)).P (vs 8) wj := hd 8 (by decide)
      clear hd
      simp only [Jo.putl, List.foldl_cons, List.foldl_nil, Act.put, List.setIfInBounds_toArray, List.set_cons_zero, List.set_cons_succ] at hK ⊢
      generalize vs 8 = u8 at hK d8 ⊢
      replace d8 : u8 = _ := d8
      subst d8
      have xX90 : World.cell? wj ⟨w4.heap.size, 0, none⟩ = some (.bool s0) := (X9.below hJ).cell 0
      have xX91 : World.cell? wj ⟨w4.heap.size, 1, none⟩ = some (.slice a0 len0 cap0) := (X9.below hJ).cell 1
      have xX92 : World.cell? wj ⟨w4.heap.size, 2, none⟩ = some (.int .i64 e1) := (X9.below hJ).cell 2
      go_simp
      exact hK.out _ _ rfl (Below.refl _ _)
    refine Jo.jcons (i := 10) (o := ⟨some 50, _, _, _, _, _⟩) (di := some 50) (L := [(some 48, 8), (some 49, 9)]) (f := Jo.Fact.eq (.bool m)) rfl rfl rfl rfl (fun vs wj hJ hd K hK => ?_) ?_
    · have d8 : (Jo.Fact.eq (.bool true)).P (vs 8) wj := hd 8 (by decide)
      have d9 : (Jo.Fact.eq (.agg #[.bool s0, .slice a0 len0 cap0, .int .i64 e1])).P (vs 9) wj := hd 9 (by decide)
      clear hd
      simp only [Jo.putl, List.foldl_cons, List.foldl_nil, Act.put, List.setIfInBounds_toArray, List.set_cons_zero, List.set_cons_succ] at hK ⊢
      generalize vs 8 = u8 at hK d8 ⊢
      generalize vs 9 = u9 at hK d9 ⊢
      replace d8 : u8 = _ := d8
      subst d8
      replace d9 : u9 = _ := d9
      subst d9
      go_simp
      refine (dMay (r := m) (h0.below hJ).rd Hm.out).mono ?_
      rintro ee wk ⟨rfl, B⟩
      exact hK.out _ _ rfl B
    refine Jo.jcons (i := 11) (o := ⟨some 51, _, _, _, _, _⟩) (di := some 51) (L := [(some 48, 8)]) (f := Jo.Fact.eq (.agg #[.bool s0, .slice a0 len0 cap0, .int .i64 e1])) rfl rfl rfl rfl (fun vs wj hJ hd K hK => ?_) ?_
    · have d8 : (Jo.Fact.eq (.bool true)).P (vs 8) wj := hd 8 (by decide)
      clear hd
      simp only [Jo.putl, List.foldl_cons, List.foldl_nil, Act.put, List.setIfInBounds_toArray, List.set_cons_zero, List.set_cons_succ] at hK ⊢
      generalize vs 8 = u8 at hK d8 ⊢
      replace d8 : u8 = _ := d8
      subst d8
      have xX90 : World.cell? wj ⟨w4.heap.size, 0, none⟩ = some (.bool s0) := (X9.below hJ).cell 0
      have xX91 : World.cell? wj ⟨w4.heap.size, 1, none⟩ = some (.slice a0 len0 cap0) := (X9.below hJ).cell 1
      have xX92 : World.cell? wj ⟨w4.heap.size, 2, none⟩ = some (.int .i64 e1) := (X9.below hJ).cell 2
      go_simp
      exact hK.out _ _ rfl (Below.refl _ _)
    refine Jo.jcons (i := 12) (o := ⟨some 52, _, _, _, _, _⟩) (di := some 52) (L := [(some 48, 8), (some 51, 11)]) (f := Jo.Fact.eq (.bool m)) rfl rfl rfl rfl (fun vs wj hJ hd K hK => ?_) ?_
    · have d8 : (Jo.Fact.eq (.bool true)).P (vs 8) wj := hd 8 (by decide)
      have d11 : (Jo.Fact.eq (.agg #[.bool s0, .slice a0 len0 cap0, .int .i64 e1])).P (vs 11) wj := hd 11 (by decide)
      clear hd
      simp only [Jo.putl, List.foldl_cons, List.foldl_nil, Act.put, List.setIfInBounds_toArray, List.set_cons_zero, List.set_cons_succ] at hK ⊢
      generalize vs 8 = u8 at hK d8 ⊢
      generalize vs 11 = u11 at hK d11 ⊢
      replace d8 : u8 = _ := d8
      subst d8
      replace d11 : u11 = _ := d11
      subst d11
      go_simp
      refine (q3May (r := m) (h0.below hJ).rd Hm.out).mono ?_
      rintro ee wk ⟨rfl, B⟩
      exact hK.out _ _ rfl B
    refine Jo.jcons (i := 13) (o := ⟨some 53, _, _, _, _, _⟩) (di := some 53) (L := [(some 48, 8), (some 50, 10), (some 52, 12)]) (f := Jo.Fact.eq (.bool true)) rfl rfl rfl rfl (fun vs wj hJ hd K hK => ?_) ?_
    · have d8 : (Jo.Fact.eq (.bool true)).P (vs 8) wj := hd 8 (by decide)
      have d10 : (Jo.Fact.eq (.bool m)).P (vs 10) wj := hd 10 (by decide)
      have d12 : (Jo.Fact.eq (.bool m)).P (vs 12) wj := hd 12 (by decide)
      clear hd
      simp only [Jo.putl, List.foldl_cons, List.foldl_nil, Act.put, List.setIfInBounds_toArray, List.set_cons_zero, List.set_cons_succ] at hK ⊢
      generalize vs 8 = u8 at hK d8 ⊢
      generalize vs 10 = u10 at hK d10 ⊢
      generalize vs 12 = u12 at hK d12 ⊢
      replace d8 : u8 = _ := d8
      subst d8
      replace d10 : u10 = _ := d10
      subst d10
      replace d12 : u12 = _ := d12
      subst d12
      go_simp
      exact hK.out _ _ (by first | rfl | simp) (Below.refl _ _)
    refine Jo.jcons (i := 14) (o := ⟨some 54, _, _, _, _, _⟩) (di := some 54) (L := [(some 48, 8), (some 53, 13)]) (f := Jo.Fact.eq (.bool true)) rfl rfl rfl rfl (fun vs wj hJ hd K hK => ?_) ?_
    · have d8 : (Jo.Fact.eq (.bool true)).P (vs 8) wj := hd 8 (by decide)
      have d13 : (Jo.Fact.eq (.bool true)).P (vs 13) wj := hd 13 (by decide)
      clear hd
      simp only [Jo.putl, List.foldl_cons, List.foldl_nil, Act.put, List.setIfInBounds_toArray, List.set_cons_zero, List.set_cons_succ] at hK ⊢
      generalize vs 8 = u8 at hK d8 ⊢
      generalize vs 13 = u13 at hK d13 ⊢
      replace d8 : u8 = _ := d8
      subst d8
      replace d13 : u13 = _ := d13
      subst d13
      go_simp
      exact hK.out _ _ rfl (Below.refl _ _)
    refine Jo.jcons (i := 15) (o := ⟨some 55, _, _, _, _, _⟩) (di := some 55) (L := [(some 54, 14)]) (f := Jo.Fact.eq (.bool true)) rfl rfl rfl rfl (fun vs wj hJ hd K hK => ?_) ?_
    · have d14 : (Jo.Fact.eq (.bool true)).P (vs 14) wj := hd 14 (by decide)
      clear hd
      simp only [Jo.putl, List.foldl_cons, List.foldl_nil, Act.put, List.setIfInBounds_toArray, List.set_cons_zero, List.set_cons_succ] at hK ⊢
      generalize vs 14 = u14 at hK d14 ⊢
      replace d14 : u14 = _ := d14
      subst d14
      go_simp
      exact hK.out _ _ rfl (Below.refl _ _)
    refine Jo.jcons (i := 16) (o := ⟨some 56, _, _, _, _, _⟩) (di := some 56) (L := [(some 55, 15)]) (f := Jo.Fact.eq (.agg #[.bool s0, .slice a0 len0 cap0, .int .i64 e1])) rfl rfl rfl rfl (fun vs wj hJ hd K hK => ?_) ?_
    · have d15 : (Jo.Fact.eq (.bool true)).P (vs 15) wj := hd 15 (by decide)
      clear hd
      simp only [Jo.putl, List.foldl_cons, List.foldl_nil, Act.put, List.setIfInBounds_toArray, List.set_cons_zero, List.set_cons_succ] at hK ⊢
      generalize vs 15 = u15 at hK d15 ⊢
      replace d15 : u15 = _ := d15
      subst d15
      have xX90 : World.cell? wj ⟨w4.heap.size, 0, none⟩ = some (.bool s0) := (X9.below hJ).cell 0
      have xX91 : World.cell? wj ⟨w4.heap.size, 1, none⟩ = some (.slice a0 len0 cap0) := (X9.below hJ).cell 1
      have xX92 : World.cell? wj ⟨w4.heap.size, 2, none⟩ = some (.int .i64 e1) := (X9.below hJ).cell 2
      go_simp
      exact hK.out _ _ rfl (Below.refl _ _)
    refine Jo.jcons (i := 17) (o := ⟨some 57, _, _, _, _, _⟩) (di := some 57) (L := [(some 55, 15), (some 56, 16)]) (f := Jo.Fact.eq (.int .i64 σ)) rfl rfl rfl rfl (fun vs wj hJ hd K hK => ?_) ?_
    · have d15 : (Jo.Fact.eq (.bool true)).P (vs 15) wj := hd 15 (by decide)
      have d16 : (Jo.Fact.eq (.agg #[.bool s0, .slice a0 len0 cap0, .int .i64 e1])).P (vs 16) wj := hd 16 (by decide)
      clear hd
      simp only [Jo.putl, List.foldl_cons, List.foldl_nil, Act.put, List.setIfInBounds_toArray, List.set_cons_zero, List.set_cons_succ] at hK ⊢
      generalize vs 15 = u15 at hK d15 ⊢
      generalize vs 16 = u16 at hK d16 ⊢
      replace d15 : u15 = _ := d15
      subst d15
      replace d16 : u16 = _ := d16
      subst d16
      go_simp
      refine (dSign (r := σ) (hT.below hJ) (h0.below hJ) (by omega) (by rw [HP.out]; exact Hσ.out)).mono ?_
      rintro ee wk ⟨rfl, B⟩
      exact hK.out _ _ rfl B
    refine Jo.jcons (i := 18) (o := ⟨some 58, _, _, _, _, _⟩) (di := some 58) (L := [(some 55, 15)]) (f := Jo.Fact.eq (.agg #[.bool s0, .slice a0 len0 cap0, .int .i64 e1])) rfl rfl rfl rfl (fun vs wj hJ hd K hK => ?_) ?_
    · have d15 : (Jo.Fact.eq (.bool true)).P (vs 15) wj := hd 15 (by decide)
      clear hd
      simp only [Jo.putl, List.foldl_cons, List.foldl_nil, Act.put, List.setIfInBounds_toArray, List.set_cons_zero, List.set_cons_succ] at hK ⊢
      generalize vs 15 = u15 at hK d15 ⊢
      replace d15 : u15 = _ := d15
      subst d15
      have xX90 : World.cell? wj ⟨w4.heap.size, 0, none⟩ = some (.bool s0) := (X9.below hJ).cell 0
      have xX91 : World.cell? wj ⟨w4.heap.size, 1, none⟩ = some (.slice a0 len0 cap0) := (X9.below hJ).cell 1
      have xX92 : World.cell? wj ⟨w4.heap.size, 2, none⟩ = some (.int .i64 e1) := (X9.below hJ).cell 2
      go_simp
      exact hK.out _ _ rfl (Below.refl _ _)
    refine Jo.jcons (i := 19) (o := ⟨some 59, _, _, _, _, _⟩) (di := some 59) (L := [(some 55, 15), (some 58, 18)]) (f := Jo.Fact.eq (.int .i64 σ)) rfl rfl rfl rfl (fun vs wj hJ hd K hK => ?_) ?_
    · have d15 : (Jo.Fact.eq (.bool true)).P (vs 15) wj := hd 15 (by decide)
      have d18 : (Jo.Fact.eq (.agg #[.bool s0, .slice a0 len0 cap0, .int .i64 e1])).P (vs 18) wj := hd 18 (by decide)
      clear hd
      simp only [Jo.putl, List.foldl_cons, List.foldl_nil, Act.put, List.setIfInBounds_toArray, List.set_cons_zero, List.set_cons_succ] at hK ⊢
      generalize vs 15 = u15 at hK d15 ⊢
      generalize vs 18 = u18 at hK d18 ⊢
      replace d15 : u15 = _ := d15
      subst d15
      replace d18 : u18 = _ := d18
      subst d18
      go_simp
      refine (q3Sign (r := σ) (h0.below hJ) (by omega) (by rw [HP.out]; exact Hσ.out)).mono ?_
      rintro ee wk ⟨rfl, B⟩
      exact hK.out _ _ rfl B
    refine Jo.jcons (i := 20) (o := ⟨some 60, _, _, _, _, _⟩) (di := some 60) (L := [(some 55, 15), (some 57, 17), (some 59, 19)]) (f := Jo.Fact.eq (.bool true)) rfl rfl rfl rfl (fun vs wj hJ hd K hK => ?_) ?_
    · have d15 : (Jo.Fact.eq (.bool true)).P (vs 15) wj := hd 15 (by decide)
      have d17 : (Jo.Fact.eq (.int .i64 σ)).P (vs 17) wj := hd 17 (by decide)
      have d19 : (Jo.Fact.eq (.int .i64 σ)).P (vs 19) wj := hd 19 (by decide)
      clear hd
      simp only [Jo.putl, List.foldl_cons, List.foldl_nil, Act.put, List.setIfInBounds_toArray, List.set_cons_zero, List.set_cons_succ] at hK ⊢
      generalize vs 15 = u15 at hK d15 ⊢
      generalize vs 17 = u17 at hK d17 ⊢
      generalize vs 19 = u19 at hK d19 ⊢
      replace d15 : u15 = _ := d15
      subst d15
      replace d17 : u17 = _ := d17
      subst d17
      replace d19 : u19 = _ := d19
      subst d19
      go_simp
      exact hK.out _ _ (by first | rfl | simp) (Below.refl _ _)
    refine Jo.jcons (i := 21) (o := ⟨some 61, _, _, _, _, _⟩) (di := some 61) (L := [(some 55, 15), (some 60, 20)]) (f := Jo.Fact.eq (.bool true)) rfl rfl rfl rfl (fun vs wj hJ hd K hK => ?_) ?_
    · have d15 : (Jo.Fact.eq (.bool true)).P (vs 15) wj := hd 15 (by decide)
      have d20 : (Jo.Fact.eq (.bool true)).P (vs 20) wj := hd 20 (by decide)
      clear hd
      simp only [Jo.putl, List.foldl_cons, List.foldl_nil, Act.put, List.setIfInBounds_toArray, List.set_cons_zero, List.set_cons_succ] at hK ⊢
      generalize vs 15 = u15 at hK d15 ⊢
      generalize vs 20 = u20 at hK d20 ⊢
      replace d15 : u15 = _ := d15
      subst d15
      replace d20 : u20 = _ := d20
      subst d20
      go_simp
      exact hK.out _ _ rfl (Below.refl _ _)
    refine Jo.jcons (i := 22) (o := ⟨some 6, _, _, _, _, _⟩) (di := some 6) (L := [(some 61, 21)]) (f := Jo.Fact.eq (.bool true)) rfl rfl rfl rfl (fun vs wj hJ hd K hK => ?_) ?_
    · have d21 : (Jo.Fact.eq (.bool true)).P (vs 21) wj := hd 21 (by decide)
      clear hd
      simp only [Jo.putl, List.foldl_cons, List.foldl_nil, Act.put, List.setIfInBounds_toArray, List.set_cons_zero, List.set_cons_succ] at hK ⊢
      generalize vs 21 = u21 at hK d21 ⊢
      replace d21 : u21 = _ := d21
      subst d21
      go_simp
      exact hK.out _ _ rfl (Below.refl _ _)
    exact Jo.Steps.nil
  have d0 : (Jo.Fact.eq (.bool true)).P (vs 0) w8 := hd 0 (by decide)
  have d1 : (Jo.Fact.eq (.bool true)).P (vs 1) w8 := hd 1 (by decide)
  have d2 : (Jo.Fact.eq (.bool true)).P (vs 2) w8 := hd 2 (by decide)
  have d3 : (Jo.Fact.eq (.bool true)).P (vs 3) w8 := hd 3 (by decide)
  have d4 : (Jo.Fact.eq (.bool true)).P (vs 4) w8 := hd 4 (by decide)
  have d5 : (Jo.Fact.eq (.agg #[.bool s8, .slice A8 n8 c8, .int .i64 P.2])).P (vs 5) w8 := hd 5 (by decide)
  have d6 : (Jo.Fact.eq (.bool true)).P (vs 6) w8 := hd 6 (by decide)
  have d7 : (Jo.Fact.eq (.bool true)).P (vs 7) w8 := hd 7 (by decide)
  have d8 : (Jo.Fact.eq (.bool true)).P (vs 8) w8 := hd 8 (by decide)
  have d9 : (Jo.Fact.eq (.agg #[.bool s0, .slice a0 len0 cap0, .int .i64 e1])).P (vs 9) w8 := hd 9 (by decide)
  have d10 : (Jo.Fact.eq (.bool m)).P (vs 10) w8 := hd 10 (by decide)
  have d11 : (Jo.Fact.eq (.agg #[.bool s0, .slice a0 len0 cap0, .int .i64 e1])).P (vs 11) w8 := hd 11 (by decide)
  have d12 : (Jo.Fact.eq (.bool m)).P (vs 12) w8 := hd 12 (by decide)
  have d13 : (Jo.Fact.eq (.bool true)).P (vs 13) w8 := hd 13 (by decide)
  have d14 : (Jo.Fact.eq (.bool true)).P (vs 14) w8 := hd 14 (by decide)
  have d15 : (Jo.Fact.eq (.bool true)).P (vs 15) w8 := hd 15 (by decide)
  have d16 : (Jo.Fact.eq (.agg #[.bool s0, .slice a0 len0 cap0, .int .i64 e1])).P (vs 16) w8 := hd 16 (by decide)
  have d17 : (Jo.Fact.eq (.int .i64 σ)).P (vs 17) w8 := hd 17 (by decide)
  have d18 : (Jo.Fact.eq (.agg #[.bool s0, .slice a0 len0 cap0, .int .i64 e1])).P (vs 18) w8 := hd 18 (by decide)
  have d19 : (Jo.Fact.eq (.int .i64 σ)).P (vs 19) w8 := hd 19 (by decide)
  have d20 : (Jo.Fact.eq (.bool true)).P (vs 20) w8 := hd 20 (by decide)
  have d21 : (Jo.Fact.eq (.bool true)).P (vs 21) w8 := hd 21 (by decide)
  have d22 : (Jo.Fact.eq (.bool true)).P (vs 22) w8 := hd 22 (by decide)
  clear hd
  simp only [Jo.putl, List.foldl_cons, List.foldl_nil, Act.put, List.setIfInBounds_toArray, List.set_cons_zero, List.set_cons_succ]
  generalize vs 0 = u0 at d0 ⊢
  generalize vs 1 = u1 at d1 ⊢
  generalize vs 2 = u2 at d2 ⊢
  generalize vs 3 = u3 at d3 ⊢
  generalize vs 4 = u4 at d4 ⊢
  generalize vs 5 = u5 at d5 ⊢
  generalize vs 6 = u6 at d6 ⊢
  generalize vs 7 = u7 at d7 ⊢
  generalize vs 8 = u8 at d8 ⊢
  generalize vs 9 = u9 at d9 ⊢
  generalize vs 10 = u10 at d10 ⊢
  generalize vs 11 = u11 at d11 ⊢
  generalize vs 12 = u12 at d12 ⊢
  generalize vs 13 = u13 at d13 ⊢
  generalize vs 14 = u14 at d14 ⊢
  generalize vs 15 = u15 at d15 ⊢
  generalize vs 16 = u16 at d16 ⊢
  generalize vs 17 = u17 at d17 ⊢
  generalize vs 18 = u18 at d18 ⊢
  generalize vs 19 = u19 at d19 ⊢
  generalize vs 20 = u20 at d20 ⊢
  generalize vs 21 = u21 at d21 ⊢
  generalize vs 22 = u22 at d22 ⊢
  clear vs
  replace d0 : u0 = _ := d0
  subst d0
  replace d1 : u1 = _ := d1
  subst d1
  replace d2 : u2 = _ := d2
  subst d2
  replace d3 : u3 = _ := d3
  subst d3
  replace d4 : u4 = _ := d4
  subst d4
  replace d5 : u5 = _ := d5
  subst d5
  replace d6 : u6 = _ := d6
  subst d6
  replace d7 : u7 = _ := d7
  subst d7
  replace d8 : u8 = _ := d8
  subst d8
  replace d9 : u9 = _ := d9
  subst d9
  replace d10 : u10 = _ := d10
  subst d10
  replace d11 : u11 = _ := d11
  subst d11
  replace d12 : u12 = _ := d12
  subst d12
  replace d13 : u13 = _ := d13
  subst d13
  replace d14 : u14 = _ := d14
  subst d14
  replace d15 : u15 = _ := d15
  subst d15
  replace d16 : u16 = _ := d16
  subst d16
  replace d17 : u17 = _ := d17
  subst d17
  replace d18 : u18 = _ := d18
  subst d18
  replace d19 : u19 = _ := d19
  subst d19
  replace d20 : u20 = _ := d20
  subst d20
  replace d21 : u21 = _ := d21
  subst d21
  replace d22 : u22 = _ := d22
  subst d22
  replace X0 := X0.below hJ
  replace X8 := X8.below hJ
  replace X9 := X9.below hJ
  replace hT := hT.below hJ
  replace h0 := h0.below hJ
  replace p8 := p8.below hJ
  replace HB := Lib.hid (bt HB.out hJ)
  refine Jo.jdone (by kernel_rfl) ?_
  go_wp2
  go_ret
  exact ⟨rfl, HB.out⟩

set_option maxHeartbeats 4000000 in
theorem dyMakes_far (s0 : Bool) (a0 : Option Addr) (len0 cap0 : Nat) (e1 : Int) (e2 : Int) (w : World) (hT : Tab w) (hn : ¬ len0 ≤ 20) :
    Calls Tryd.prog 3 #[.agg #[.bool s0, .slice a0 len0 cap0], .int .i64 e1, .int .i64 e2] w (PB w true) := by
  have t0 : decide ((20 : Int) < len0) = true := by simp; omega
  clear hn
  go_enter Tryd.func3, Tryd.ntmps3
  go_upto_region 1 with (fail)
  have X0 := (Bo.newAt w (g := w.heap.size) (by simp) #[.bool s0, .slice a0 len0 cap0] 24)
  have HB := Lib.hid (bel1 w (.cells #[.bool s0, .slice a0 len0 cap0] 24))
  replace hT := hT.below HB.out
  generalize hW1 : (w.alloc (.cells #[.bool s0, .slice a0 len0 cap0] 24)) = w1 at *
  clear hW1
  go_wp2_with fail
  refine (awake3 _ hT).mono ?_
  rintro ee w2 ⟨rfl, B⟩
  replace X0 := X0.below B
  replace hT := hT.below B
  replace HB := Lib.hid (bt HB.out B)
  clear B
  have xX00 := X0.at (i := 0) (v := .bool s0) rfl
  have xX01 := X0.at (i := 1) (v := .slice a0 len0 cap0) rfl
  go_wp2
  go_ret
  exact ⟨rfl, HB.out⟩

theorem dyMakes_walk (s0 : Bool) (a0 : Option Addr) (len0 cap0 : Nat) (y0 : List Int) (e1 : Int) (e2 : Int) (w : World) (hT : Tab w) (w0 : RowIn w a0 len0 cap0 y0) (w1 : (Lit.int .i64 e1).wf = true) (w2 : (Lit.int .i64 e2).wf = true) :
    Calls Tryd.prog 3 #[.agg #[.bool s0, .slice a0 len0 cap0], .int .i64 e1, .int .i64 e2] w fun e w' => e = .returned (.bool true) ∧ Below w.heap.size w w' := by
  by_cases hn : len0 ≤ 20
  · obtain ⟨u, r0⟩ := w0.rd (by omega)
    exact dyMakes_main s0 a0 len0 cap0 e1 e2 w _ hT (r0.wr s0) hn (wf_i64 w2).1 (wf_i64 w2).2
  · exact dyMakes_far s0 a0 len0 cap0 e1 e2 w hT hn
end Go.Proofs.YteoeoppkefcmdaaDoor

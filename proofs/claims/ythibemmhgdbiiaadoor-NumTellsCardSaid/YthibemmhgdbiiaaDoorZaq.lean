/-
  Contracts and words that the statements' proofs rest on, several texts in one: Kc.
-/
import Derived.Test.YthibemmhgdbiiaaDoorZap
/-
  What num.farther and Cmp do, and the document's Cmp.
-/
namespace Go.Proofs.YthibemmhgdbiiaaDoor
open Go.RowKit
set_option linter.unusedVariables false
set_option linter.unusedSimpArgs false
set_option maxRecDepth 100000

theorem compare64_any (x y : Int) (w : World) : Calls Tryd.prog 81 #[.int .u64 x, .int .u64 y] w fun e w' => e = .returned (.int .i64 (cmpI x y)) ∧ w = w' := by
  go_enter Tryd.func81, Tryd.ntmps81
  go_wp2
  all_goals go_ret
  · exact ⟨ret_int (cmpI_lt (by assumption)).symm, rfl⟩
  · exact ⟨ret_int (cmpI_gt (by assumption)).symm, rfl⟩
  · exact ⟨ret_int (cmpI_eq (by omega)).symm, rfl⟩


theorem vCmpI {x y z : Int} (w : World) (h : cmpI x y = z) : Calls Tryd.prog 56 #[.int .i64 x, .int .i64 y] w (PI w z) := by
  subst h
  refine (compareInt_any x y w).mono ?_
  rintro e w' ⟨rfl, rfl⟩
  exact ⟨rfl, Below.refl _ _⟩
theorem vCmpU {x y z : Int} (w : World) (h : cmpI x y = z) : Calls Tryd.prog 81 #[.int .u64 x, .int .u64 y] w (PI w z) := by
  subst h
  refine (compare64_any x y w).mono ?_
  rintro e w' ⟨rfl, rfl⟩
  exact ⟨rfl, Below.refl _ _⟩
set_option maxHeartbeats 2000000 in
theorem nFar {w : World} {D D' M M' E E' : Int} {s s' : Bool} {r : Int} (hr : fa D M E D' M' E' = r) : Calls Tryd.prog 57 #[.agg #[.int .i64 D, .bool s, .int .u64 M, .int .i64 E], .agg #[.int .i64 D', .bool s', .int .u64 M', .int .i64 E']] w (PI w r) := by
  unfold fa at hr
  by_cases hk : D ≠ D'
  · rw [if_pos hk] at hr
    have e0 : (D == D') = false := by simpa using hk
    have HR := Lib.hid hr
    clear hr hk
    go_enter Tryd.func57, Tryd.ntmps57
    go_upto_region 1 with (fail)
    have X1 := (Bo.newAt w (g := w.heap.size) (by simp) #[.int .i64 D, .bool s, .int .u64 M, .int .i64 E] 30).below (bel1 _ (.cells #[.int .i64 D', .bool s', .int .u64 M', .int .i64 E'] 30))
    have X2 := (Bo.newAt (w.alloc (.cells #[.int .i64 D, .bool s, .int .u64 M, .int .i64 E] 30)) (g := w.heap.size + 1) (by simp) #[.int .i64 D', .bool s', .int .u64 M', .int .i64 E'] 30)
    have HB := Lib.hid (bel2 w (.cells #[.int .i64 D, .bool s, .int .u64 M, .int .i64 E] 30) (.cells #[.int .i64 D', .bool s', .int .u64 M', .int .i64 E'] 30))
    generalize hW1 : ((w.alloc (.cells #[.int .i64 D, .bool s, .int .u64 M, .int .i64 E] 30)).alloc (.cells #[.int .i64 D', .bool s', .int .u64 M', .int .i64 E'] 30)) = w1 at *
    clear hW1
    have xX10 := X1.at (i := 0) (v := .int .i64 D) rfl
    have xX11 := X1.at (i := 1) (v := .bool s) rfl
    have xX12 := X1.at (i := 2) (v := .int .u64 M) rfl
    have xX13 := X1.at (i := 3) (v := .int .i64 E) rfl
    have xX20 := X2.at (i := 0) (v := .int .i64 D') rfl
    have xX21 := X2.at (i := 1) (v := .bool s') rfl
    have xX22 := X2.at (i := 2) (v := .int .u64 M') rfl
    have xX23 := X2.at (i := 3) (v := .int .i64 E') rfl
    go_wp2_with fail
    refine (vCmpI _ HR.out).mono ?_
    rintro ee w2 ⟨rfl, B⟩
    clear xX10 xX11 xX12 xX13 xX20 xX21 xX22 xX23
    replace X1 := X1.below B
    replace X2 := X2.below B
    replace HB := Lib.hid (bt HB.out B)
    clear B
    go_wp2
    go_ret
    exact ⟨rfl, HB.out⟩
  · rw [if_neg hk] at hr
    obtain rfl : D = D' := Decidable.not_not.1 hk
    clear hk
    by_cases he : E ≠ E'
    · rw [if_pos he] at hr
      have e0 : (E == E') = false := by simpa using he
      have HR := Lib.hid hr
      clear hr he
      go_enter Tryd.func57, Tryd.ntmps57
      go_upto_region 1 with (fail)
      have X1 := (Bo.newAt w (g := w.heap.size) (by simp) #[.int .i64 D, .bool s, .int .u64 M, .int .i64 E] 30).below (bel1 _ (.cells #[.int .i64 D, .bool s', .int .u64 M', .int .i64 E'] 30))
      have X2 := (Bo.newAt (w.alloc (.cells #[.int .i64 D, .bool s, .int .u64 M, .int .i64 E] 30)) (g := w.heap.size + 1) (by simp) #[.int .i64 D, .bool s', .int .u64 M', .int .i64 E'] 30)
      have HB := Lib.hid (bel2 w (.cells #[.int .i64 D, .bool s, .int .u64 M, .int .i64 E] 30) (.cells #[.int .i64 D, .bool s', .int .u64 M', .int .i64 E'] 30))
      generalize hW1 : ((w.alloc (.cells #[.int .i64 D, .bool s, .int .u64 M, .int .i64 E] 30)).alloc (.cells #[.int .i64 D, .bool s', .int .u64 M', .int .i64 E'] 30)) = w1 at *
      clear hW1
      have xX10 := X1.at (i := 0) (v := .int .i64 D) rfl
      have xX11 := X1.at (i := 1) (v := .bool s) rfl
      have xX12 := X1.at (i := 2) (v := .int .u64 M) rfl
      have xX13 := X1.at (i := 3) (v := .int .i64 E) rfl
      have xX20 := X2.at (i := 0) (v := .int .i64 D) rfl
      have xX21 := X2.at (i := 1) (v := .bool s') rfl
      have xX22 := X2.at (i := 2) (v := .int .u64 M') rfl
      have xX23 := X2.at (i := 3) (v := .int .i64 E') rfl
      go_wp2_with fail
      refine (vCmpI _ HR.out).mono ?_
      rintro ee w2 ⟨rfl, B⟩
      clear xX10 xX11 xX12 xX13 xX20 xX21 xX22 xX23
      replace X1 := X1.below B
      replace X2 := X2.below B
      replace HB := Lib.hid (bt HB.out B)
      clear B
      go_wp2
      go_ret
      exact ⟨rfl, HB.out⟩
    · rw [if_neg he] at hr
      obtain rfl : E = E' := Decidable.not_not.1 he
      have HR := Lib.hid hr
      clear hr he
      go_enter Tryd.func57, Tryd.ntmps57
      go_upto_region 1 with (fail)
      have X1 := (Bo.newAt w (g := w.heap.size) (by simp) #[.int .i64 D, .bool s, .int .u64 M, .int .i64 E] 30).below (bel1 _ (.cells #[.int .i64 D, .bool s', .int .u64 M', .int .i64 E] 30))
      have X2 := (Bo.newAt (w.alloc (.cells #[.int .i64 D, .bool s, .int .u64 M, .int .i64 E] 30)) (g := w.heap.size + 1) (by simp) #[.int .i64 D, .bool s', .int .u64 M', .int .i64 E] 30)
      have HB := Lib.hid (bel2 w (.cells #[.int .i64 D, .bool s, .int .u64 M, .int .i64 E] 30) (.cells #[.int .i64 D, .bool s', .int .u64 M', .int .i64 E] 30))
      generalize hW1 : ((w.alloc (.cells #[.int .i64 D, .bool s, .int .u64 M, .int .i64 E] 30)).alloc (.cells #[.int .i64 D, .bool s', .int .u64 M', .int .i64 E] 30)) = w1 at *
      clear hW1
      have xX10 := X1.at (i := 0) (v := .int .i64 D) rfl
      have xX11 := X1.at (i := 1) (v := .bool s) rfl
      have xX12 := X1.at (i := 2) (v := .int .u64 M) rfl
      have xX13 := X1.at (i := 3) (v := .int .i64 E) rfl
      have xX20 := X2.at (i := 0) (v := .int .i64 D) rfl
      have xX21 := X2.at (i := 1) (v := .bool s') rfl
      have xX22 := X2.at (i := 2) (v := .int .u64 M') rfl
      have xX23 := X2.at (i := 3) (v := .int .i64 E) rfl
      go_wp2_with fail
      refine (vCmpU _ HR.out).mono ?_
      rintro ee w2 ⟨rfl, B⟩
      clear xX10 xX11 xX12 xX13 xX20 xX21 xX22 xX23
      replace X1 := X1.below B
      replace X2 := X2.below B
      replace HB := Lib.hid (bt HB.out B)
      clear B
      go_wp2
      go_ret
      exact ⟨rfl, HB.out⟩
set_option maxHeartbeats 2000000 in
theorem nCmp {w : World} {D D' M M' E E' : Int} {s s' : Bool} {z : Int} (hM : M < 18446744073709551616) (hM' : M' < 18446744073709551616) (hz : cmpI (rk D s M E) (rk D' s' M' E') = z) : Calls Tryd.prog 25 #[.agg #[.int .i64 D, .bool s, .int .u64 M, .int .i64 E], .agg #[.int .i64 D', .bool s', .int .u64 M', .int .i64 E']] w (PI w z) := by
  have hs := cmp_sign (x := rk D s M E) (y := rk D' s' M' E')
  have hf := cmp_far (K := D) (s := s) (E := E) (K' := D') (s' := s') (E' := E') hM hM'
  have b1 := fa_bd D M E D' M' E'
  have b2 := cmpI_bd (rk D s M E) 0
  revert hs hf b1 b2
  generalize hσ : cmpI (rk D s M E) 0 = σ
  generalize hτ : cmpI (rk D' s' M' E') 0 = τ
  generalize hφ : fa D M E D' M' E' = φ
  rw [hz]
  intro hs hf b1 b2
  have HS := Lib.hid hσ
  have HT := Lib.hid hτ
  have HF := Lib.hid hφ
  clear hσ hτ hφ hz
  by_cases he : σ ≠ τ
  · have e0 : (σ == τ) = false := by simpa using he
    have HZ := Lib.hid (hs he)
    clear hs hf he b1 b2
    go_enter Tryd.func25, Tryd.ntmps25
    go_upto_region 1 with (fail)
    have X1 := (Bo.newAt w (g := w.heap.size) (by simp) #[.int .i64 D, .bool s, .int .u64 M, .int .i64 E] 30).below (bel1 _ (.cells #[.int .i64 D', .bool s', .int .u64 M', .int .i64 E'] 30))
    have X2 := (Bo.newAt (w.alloc (.cells #[.int .i64 D, .bool s, .int .u64 M, .int .i64 E] 30)) (g := w.heap.size + 1) (by simp) #[.int .i64 D', .bool s', .int .u64 M', .int .i64 E'] 30)
    have HB := Lib.hid (bel2 w (.cells #[.int .i64 D, .bool s, .int .u64 M, .int .i64 E] 30) (.cells #[.int .i64 D', .bool s', .int .u64 M', .int .i64 E'] 30))
    generalize hW1 : ((w.alloc (.cells #[.int .i64 D, .bool s, .int .u64 M, .int .i64 E] 30)).alloc (.cells #[.int .i64 D', .bool s', .int .u64 M', .int .i64 E'] 30)) = w1 at *
    clear hW1
    refine Jo.region_joint (T := [0, 1, 2, 3, 4, 5]) (ds := [some 7, some 8, some 9, some 10, some 5, some 6]) (ls := [[], [0], [], [2], [1], [3]]) (k := 6) (L := [(some 7, 0), (some 8, 1), (some 9, 2), (some 10, 3), (some 5, 4), (some 6, 5)]) (fuel := 0) (J := fun wj => Below (World.heap w1).size w1 wj)
      (F := [Jo.Fact.eq (.agg #[.int .i64 D, .bool s, .int .u64 M, .int .i64 E]), Jo.Fact.eq (.int .i64 σ), Jo.Fact.eq (.agg #[.int .i64 D', .bool s', .int .u64 M', .int .i64 E']), Jo.Fact.eq (.int .i64 τ), Jo.Fact.eq (.int .i64 σ), Jo.Fact.eq (.int .i64 τ)])
      (by kernel_rfl) (by kernel_rfl) (by decide) rfl rfl (fun _ _ h b => bt h b) ((Below.refl _ _).drew) ?_ (fun vs w2 hJ hd => ?_)
    · refine Jo.jcons (i := 0) (o := ⟨some 7, _, _, _, _, _⟩) (di := some 7) (L := []) (f := Jo.Fact.eq (.agg #[.int .i64 D, .bool s, .int .u64 M, .int .i64 E])) rfl rfl rfl rfl (fun vs wj hJ hd K hK => ?_) ?_
      · clear hd
        simp only [Jo.putl, List.foldl_nil, Act.put, List.setIfInBounds_toArray, List.set_cons_zero, List.set_cons_succ] at hK ⊢
        have xX10 : World.cell? wj ⟨w.heap.size, 0, none⟩ = some (.int .i64 D) := (X1.below hJ).cell 0
        have xX11 : World.cell? wj ⟨w.heap.size, 1, none⟩ = some (.bool s) := (X1.below hJ).cell 1
        have xX12 : World.cell? wj ⟨w.heap.size, 2, none⟩ = some (.int .u64 M) := (X1.below hJ).cell 2
        have xX13 : World.cell? wj ⟨w.heap.size, 3, none⟩ = some (.int .i64 E) := (X1.below hJ).cell 3
        go_simp
        exact hK.out _ _ rfl (Below.refl _ _)
      refine Jo.jcons (i := 1) (o := ⟨some 8, _, _, _, _, _⟩) (di := some 8) (L := [(some 7, 0)]) (f := Jo.Fact.eq (.int .i64 σ)) rfl rfl rfl rfl (fun vs wj hJ hd K hK => ?_) ?_
      · have d0 : (Jo.Fact.eq (.agg #[.int .i64 D, .bool s, .int .u64 M, .int .i64 E])).P (vs 0) wj := hd 0 (by decide)
        clear hd
        simp only [Jo.putl, List.foldl_cons, List.foldl_nil, Act.put, List.setIfInBounds_toArray, List.set_cons_zero, List.set_cons_succ] at hK ⊢
        generalize vs 0 = u0 at hK d0 ⊢
        replace d0 : u0 = _ := d0
        subst d0
        go_simp
        refine (nSign hM HS.out).mono ?_
        rintro ee wk ⟨rfl, B⟩
        exact hK.out _ _ rfl B
      refine Jo.jcons (i := 2) (o := ⟨some 9, _, _, _, _, _⟩) (di := some 9) (L := []) (f := Jo.Fact.eq (.agg #[.int .i64 D', .bool s', .int .u64 M', .int .i64 E'])) rfl rfl rfl rfl (fun vs wj hJ hd K hK => ?_) ?_
      · clear hd
        simp only [Jo.putl, List.foldl_nil, Act.put, List.setIfInBounds_toArray, List.set_cons_zero, List.set_cons_succ] at hK ⊢
        have xX20 : World.cell? wj ⟨w.heap.size + 1, 0, none⟩ = some (.int .i64 D') := (X2.below hJ).cell 0
        have xX21 : World.cell? wj ⟨w.heap.size + 1, 1, none⟩ = some (.bool s') := (X2.below hJ).cell 1
        have xX22 : World.cell? wj ⟨w.heap.size + 1, 2, none⟩ = some (.int .u64 M') := (X2.below hJ).cell 2
        have xX23 : World.cell? wj ⟨w.heap.size + 1, 3, none⟩ = some (.int .i64 E') := (X2.below hJ).cell 3
        go_simp
        exact hK.out _ _ rfl (Below.refl _ _)
      refine Jo.jcons (i := 3) (o := ⟨some 10, _, _, _, _, _⟩) (di := some 10) (L := [(some 9, 2)]) (f := Jo.Fact.eq (.int .i64 τ)) rfl rfl rfl rfl (fun vs wj hJ hd K hK => ?_) ?_
      · have d2 : (Jo.Fact.eq (.agg #[.int .i64 D', .bool s', .int .u64 M', .int .i64 E'])).P (vs 2) wj := hd 2 (by decide)
        clear hd
        simp only [Jo.putl, List.foldl_cons, List.foldl_nil, Act.put, List.setIfInBounds_toArray, List.set_cons_zero, List.set_cons_succ] at hK ⊢
        generalize vs 2 = u2 at hK d2 ⊢
        replace d2 : u2 = _ := d2
        subst d2
        go_simp
        refine (nSign hM' HT.out).mono ?_
        rintro ee wk ⟨rfl, B⟩
        exact hK.out _ _ rfl B
      refine Jo.jcons (i := 4) (o := ⟨some 5, _, _, _, _, _⟩) (di := some 5) (L := [(some 8, 1)]) (f := Jo.Fact.eq (.int .i64 σ)) rfl rfl rfl rfl (fun vs wj hJ hd K hK => ?_) ?_
      · have d1 : (Jo.Fact.eq (.int .i64 σ)).P (vs 1) wj := hd 1 (by decide)
        clear hd
        simp only [Jo.putl, List.foldl_cons, List.foldl_nil, Act.put, List.setIfInBounds_toArray, List.set_cons_zero, List.set_cons_succ] at hK ⊢
        generalize vs 1 = u1 at hK d1 ⊢
        replace d1 : u1 = _ := d1
        subst d1
        go_simp
        exact hK.out _ _ rfl (Below.refl _ _)
      refine Jo.jcons (i := 5) (o := ⟨some 6, _, _, _, _, _⟩) (di := some 6) (L := [(some 10, 3)]) (f := Jo.Fact.eq (.int .i64 τ)) rfl rfl rfl rfl (fun vs wj hJ hd K hK => ?_) ?_
      · have d3 : (Jo.Fact.eq (.int .i64 τ)).P (vs 3) wj := hd 3 (by decide)
        clear hd
        simp only [Jo.putl, List.foldl_cons, List.foldl_nil, Act.put, List.setIfInBounds_toArray, List.set_cons_zero, List.set_cons_succ] at hK ⊢
        generalize vs 3 = u3 at hK d3 ⊢
        replace d3 : u3 = _ := d3
        subst d3
        go_simp
        exact hK.out _ _ rfl (Below.refl _ _)
      exact Jo.Steps.nil
    have d0 : (Jo.Fact.eq (.agg #[.int .i64 D, .bool s, .int .u64 M, .int .i64 E])).P (vs 0) w2 := hd 0 (by decide)
    have d1 : (Jo.Fact.eq (.int .i64 σ)).P (vs 1) w2 := hd 1 (by decide)
    have d2 : (Jo.Fact.eq (.agg #[.int .i64 D', .bool s', .int .u64 M', .int .i64 E'])).P (vs 2) w2 := hd 2 (by decide)
    have d3 : (Jo.Fact.eq (.int .i64 τ)).P (vs 3) w2 := hd 3 (by decide)
    have d4 : (Jo.Fact.eq (.int .i64 σ)).P (vs 4) w2 := hd 4 (by decide)
    have d5 : (Jo.Fact.eq (.int .i64 τ)).P (vs 5) w2 := hd 5 (by decide)
    clear hd
    simp only [Jo.putl, List.foldl_cons, List.foldl_nil, Act.put, List.setIfInBounds_toArray, List.set_cons_zero, List.set_cons_succ]
    generalize vs 0 = u0 at d0 ⊢
    generalize vs 1 = u1 at d1 ⊢
    generalize vs 2 = u2 at d2 ⊢
    generalize vs 3 = u3 at d3 ⊢
    generalize vs 4 = u4 at d4 ⊢
    generalize vs 5 = u5 at d5 ⊢
    clear vs
    replace d0 : u0 = _ := d0
    subst d0
    replace d1 : u1 = _ := d1
    subst d1
    replace d2 : u2 = _ := d2
    subst d2
    replace d3 : u3 = _ := d3
    subst d3
    replace d4 : u4 = _ := d4
    subst d4
    replace d5 : u5 = _ := d5
    subst d5
    replace X1 := X1.below hJ
    replace X2 := X2.below hJ
    replace HB := Lib.hid (bt HB.out hJ)
    refine Jo.jdone (by kernel_rfl) ?_
    go_wp2_with fail
    refine (vCmpI _ HZ.out).mono ?_
    rintro ee w3 ⟨rfl, B⟩
    replace X1 := X1.below B
    replace X2 := X2.below B
    replace HB := Lib.hid (bt HB.out B)
    clear B
    go_wp2
    go_ret
    exact ⟨rfl, HB.out⟩
  · obtain rfl : σ = τ := Decidable.not_not.1 he
    have HZ := Lib.hid (hf rfl)
    have HW : Hid (IntKind.i64.wrap (σ * φ) = z) := Lib.hid (by
      rw [hf rfl]
      refine IntWalk.i64_in _ ?_
      rw [← hf rfl]
      rcases (show σ = -1 ∨ σ = 0 ∨ σ = 1 by omega) with h | h | h <;> rw [h] <;> omega)
    clear hs hf he b1 b2
    go_enter Tryd.func25, Tryd.ntmps25
    go_upto_region 1 with (fail)
    have X1 := (Bo.newAt w (g := w.heap.size) (by simp) #[.int .i64 D, .bool s, .int .u64 M, .int .i64 E] 30).below (bel1 _ (.cells #[.int .i64 D', .bool s', .int .u64 M', .int .i64 E'] 30))
    have X2 := (Bo.newAt (w.alloc (.cells #[.int .i64 D, .bool s, .int .u64 M, .int .i64 E] 30)) (g := w.heap.size + 1) (by simp) #[.int .i64 D', .bool s', .int .u64 M', .int .i64 E'] 30)
    have HB := Lib.hid (bel2 w (.cells #[.int .i64 D, .bool s, .int .u64 M, .int .i64 E] 30) (.cells #[.int .i64 D', .bool s', .int .u64 M', .int .i64 E'] 30))
    generalize hW1 : ((w.alloc (.cells #[.int .i64 D, .bool s, .int .u64 M, .int .i64 E] 30)).alloc (.cells #[.int .i64 D', .bool s', .int .u64 M', .int .i64 E'] 30)) = w1 at *
    clear hW1
    refine Jo.region_joint (T := [0, 1, 2, 3, 4, 5]) (ds := [some 7, some 8, some 9, some 10, some 5, some 6]) (ls := [[], [0], [], [2], [1], [3]]) (k := 6) (L := [(some 7, 0), (some 8, 1), (some 9, 2), (some 10, 3), (some 5, 4), (some 6, 5)]) (fuel := 0) (J := fun wj => Below (World.heap w1).size w1 wj)
      (F := [Jo.Fact.eq (.agg #[.int .i64 D, .bool s, .int .u64 M, .int .i64 E]), Jo.Fact.eq (.int .i64 σ), Jo.Fact.eq (.agg #[.int .i64 D', .bool s', .int .u64 M', .int .i64 E']), Jo.Fact.eq (.int .i64 σ), Jo.Fact.eq (.int .i64 σ), Jo.Fact.eq (.int .i64 σ)])
      (by kernel_rfl) (by kernel_rfl) (by decide) rfl rfl (fun _ _ h b => bt h b) ((Below.refl _ _).drew) ?_ (fun vs w2 hJ hd => ?_)
    · refine Jo.jcons (i := 0) (o := ⟨some 7, _, _, _, _, _⟩) (di := some 7) (L := []) (f := Jo.Fact.eq (.agg #[.int .i64 D, .bool s, .int .u64 M, .int .i64 E])) rfl rfl rfl rfl (fun vs wj hJ hd K hK => ?_) ?_
      · clear hd
        simp only [Jo.putl, List.foldl_nil, Act.put, List.setIfInBounds_toArray, List.set_cons_zero, List.set_cons_succ] at hK ⊢
        have xX10 : World.cell? wj ⟨w.heap.size, 0, none⟩ = some (.int .i64 D) := (X1.below hJ).cell 0
        have xX11 : World.cell? wj ⟨w.heap.size, 1, none⟩ = some (.bool s) := (X1.below hJ).cell 1
        have xX12 : World.cell? wj ⟨w.heap.size, 2, none⟩ = some (.int .u64 M) := (X1.below hJ).cell 2
        have xX13 : World.cell? wj ⟨w.heap.size, 3, none⟩ = some (.int .i64 E) := (X1.below hJ).cell 3
        go_simp
        exact hK.out _ _ rfl (Below.refl _ _)
      refine Jo.jcons (i := 1) (o := ⟨some 8, _, _, _, _, _⟩) (di := some 8) (L := [(some 7, 0)]) (f := Jo.Fact.eq (.int .i64 σ)) rfl rfl rfl rfl (fun vs wj hJ hd K hK => ?_) ?_
      · have d0 : (Jo.Fact.eq (.agg #[.int .i64 D, .bool s, .int .u64 M, .int .i64 E])).P (vs 0) wj := hd 0 (by decide)
        clear hd
        simp only [Jo.putl, List.foldl_cons, List.foldl_nil, Act.put, List.setIfInBounds_toArray, List.set_cons_zero, List.set_cons_succ] at hK ⊢
        generalize vs 0 = u0 at hK d0 ⊢
        replace d0 : u0 = _ := d0
        subst d0
        go_simp
        refine (nSign hM HS.out).mono ?_
        rintro ee wk ⟨rfl, B⟩
        exact hK.out _ _ rfl B
      refine Jo.jcons (i := 2) (o := ⟨some 9, _, _, _, _, _⟩) (di := some 9) (L := []) (f := Jo.Fact.eq (.agg #[.int .i64 D', .bool s', .int .u64 M', .int .i64 E'])) rfl rfl rfl rfl (fun vs wj hJ hd K hK => ?_) ?_
      · clear hd
        simp only [Jo.putl, List.foldl_nil, Act.put, List.setIfInBounds_toArray, List.set_cons_zero, List.set_cons_succ] at hK ⊢
        have xX20 : World.cell? wj ⟨w.heap.size + 1, 0, none⟩ = some (.int .i64 D') := (X2.below hJ).cell 0
        have xX21 : World.cell? wj ⟨w.heap.size + 1, 1, none⟩ = some (.bool s') := (X2.below hJ).cell 1
        have xX22 : World.cell? wj ⟨w.heap.size + 1, 2, none⟩ = some (.int .u64 M') := (X2.below hJ).cell 2
        have xX23 : World.cell? wj ⟨w.heap.size + 1, 3, none⟩ = some (.int .i64 E') := (X2.below hJ).cell 3
        go_simp
        exact hK.out _ _ rfl (Below.refl _ _)
      refine Jo.jcons (i := 3) (o := ⟨some 10, _, _, _, _, _⟩) (di := some 10) (L := [(some 9, 2)]) (f := Jo.Fact.eq (.int .i64 σ)) rfl rfl rfl rfl (fun vs wj hJ hd K hK => ?_) ?_
      · have d2 : (Jo.Fact.eq (.agg #[.int .i64 D', .bool s', .int .u64 M', .int .i64 E'])).P (vs 2) wj := hd 2 (by decide)
        clear hd
        simp only [Jo.putl, List.foldl_cons, List.foldl_nil, Act.put, List.setIfInBounds_toArray, List.set_cons_zero, List.set_cons_succ] at hK ⊢
        generalize vs 2 = u2 at hK d2 ⊢
        replace d2 : u2 = _ := d2
        subst d2
        go_simp
        refine (nSign hM' HT.out).mono ?_
        rintro ee wk ⟨rfl, B⟩
        exact hK.out _ _ rfl B
      refine Jo.jcons (i := 4) (o := ⟨some 5, _, _, _, _, _⟩) (di := some 5) (L := [(some 8, 1)]) (f := Jo.Fact.eq (.int .i64 σ)) rfl rfl rfl rfl (fun vs wj hJ hd K hK => ?_) ?_
      · have d1 : (Jo.Fact.eq (.int .i64 σ)).P (vs 1) wj := hd 1 (by decide)
        clear hd
        simp only [Jo.putl, List.foldl_cons, List.foldl_nil, Act.put, List.setIfInBounds_toArray, List.set_cons_zero, List.set_cons_succ] at hK ⊢
        generalize vs 1 = u1 at hK d1 ⊢
        replace d1 : u1 = _ := d1
        subst d1
        go_simp
        exact hK.out _ _ rfl (Below.refl _ _)
      refine Jo.jcons (i := 5) (o := ⟨some 6, _, _, _, _, _⟩) (di := some 6) (L := [(some 10, 3)]) (f := Jo.Fact.eq (.int .i64 σ)) rfl rfl rfl rfl (fun vs wj hJ hd K hK => ?_) ?_
      · have d3 : (Jo.Fact.eq (.int .i64 σ)).P (vs 3) wj := hd 3 (by decide)
        clear hd
        simp only [Jo.putl, List.foldl_cons, List.foldl_nil, Act.put, List.setIfInBounds_toArray, List.set_cons_zero, List.set_cons_succ] at hK ⊢
        generalize vs 3 = u3 at hK d3 ⊢
        replace d3 : u3 = _ := d3
        subst d3
        go_simp
        exact hK.out _ _ rfl (Below.refl _ _)
      exact Jo.Steps.nil
    have d0 : (Jo.Fact.eq (.agg #[.int .i64 D, .bool s, .int .u64 M, .int .i64 E])).P (vs 0) w2 := hd 0 (by decide)
    have d1 : (Jo.Fact.eq (.int .i64 σ)).P (vs 1) w2 := hd 1 (by decide)
    have d2 : (Jo.Fact.eq (.agg #[.int .i64 D', .bool s', .int .u64 M', .int .i64 E'])).P (vs 2) w2 := hd 2 (by decide)
    have d3 : (Jo.Fact.eq (.int .i64 σ)).P (vs 3) w2 := hd 3 (by decide)
    have d4 : (Jo.Fact.eq (.int .i64 σ)).P (vs 4) w2 := hd 4 (by decide)
    have d5 : (Jo.Fact.eq (.int .i64 σ)).P (vs 5) w2 := hd 5 (by decide)
    clear hd
    simp only [Jo.putl, List.foldl_cons, List.foldl_nil, Act.put, List.setIfInBounds_toArray, List.set_cons_zero, List.set_cons_succ]
    generalize vs 0 = u0 at d0 ⊢
    generalize vs 1 = u1 at d1 ⊢
    generalize vs 2 = u2 at d2 ⊢
    generalize vs 3 = u3 at d3 ⊢
    generalize vs 4 = u4 at d4 ⊢
    generalize vs 5 = u5 at d5 ⊢
    clear vs
    replace d0 : u0 = _ := d0
    subst d0
    replace d1 : u1 = _ := d1
    subst d1
    replace d2 : u2 = _ := d2
    subst d2
    replace d3 : u3 = _ := d3
    subst d3
    replace d4 : u4 = _ := d4
    subst d4
    replace d5 : u5 = _ := d5
    subst d5
    replace X1 := X1.below hJ
    replace X2 := X2.below hJ
    replace HB := Lib.hid (bt HB.out hJ)
    refine Jo.jdone (by kernel_rfl) ?_
    have xX10 := X1.at (i := 0) (v := .int .i64 D) rfl
    have xX11 := X1.at (i := 1) (v := .bool s) rfl
    have xX12 := X1.at (i := 2) (v := .int .u64 M) rfl
    have xX13 := X1.at (i := 3) (v := .int .i64 E) rfl
    have xX20 := X2.at (i := 0) (v := .int .i64 D') rfl
    have xX21 := X2.at (i := 1) (v := .bool s') rfl
    have xX22 := X2.at (i := 2) (v := .int .u64 M') rfl
    have xX23 := X2.at (i := 3) (v := .int .i64 E') rfl
    go_wp2_with fail
    refine (nFar HF.out).mono ?_
    rintro ee w3 ⟨rfl, B⟩
    clear xX10 xX11 xX12 xX13 xX20 xX21 xX22 xX23
    replace X1 := X1.below B
    replace X2 := X2.below B
    replace HB := Lib.hid (bt HB.out B)
    clear B
    have hw := HW.out
    go_wp2
    go_ret
    exact ⟨rfl, HB.out⟩
set_option maxHeartbeats 4000000 in
theorem yCmp {w : World} {D D' M M' E E' : Int} {s s' : Bool} {z : Int} (hM : M < 18446744073709551616) (hM' : M' < 18446744073709551616) (hz : cmpI (rk D s M E) (rk D' s' M' E') = z) : Calls Tryd.prog 26 #[.agg #[.int .i64 D, .bool s, .int .u64 M, .int .i64 E], .agg #[.int .i64 D', .bool s', .int .u64 M', .int .i64 E']] w (PI w z) := by
  obtain ⟨r, hr⟩ : ∃ r, rk D s M E = r := ⟨_, rfl⟩
  obtain ⟨r', hr'⟩ : ∃ r, rk D' s' M' E' = r := ⟨_, rfl⟩
  rw [hr, hr'] at hz
  have hs := cmp_sign (x := r) (y := r')
  obtain ⟨σ, hσ⟩ : ∃ x, cmpI r 0 = x := ⟨_, rfl⟩
  obtain ⟨τ, hτ⟩ : ∃ x, cmpI r' 0 = x := ⟨_, rfl⟩
  rw [hσ, hτ, hz] at hs
  have HS := Lib.hid hσ
  have HT := Lib.hid hτ
  have HR := Lib.hid hr
  have HR' := Lib.hid hr'
  have HZ := Lib.hid hz
  have HQ := Lib.hid hs
  clear hr hr' hσ hτ hz hs
  go_enter Tryd.func26, Tryd.ntmps26
  go_upto_region 1 with (fail)
  have X1 := (Bo.newAt w (g := w.heap.size) (by simp) #[.int .i64 D, .bool s, .int .u64 M, .int .i64 E] 30).below (bel1 _ (.cells #[.int .i64 D', .bool s', .int .u64 M', .int .i64 E'] 30))
  have X2 := (Bo.newAt (w.alloc (.cells #[.int .i64 D, .bool s, .int .u64 M, .int .i64 E] 30)) (g := w.heap.size + 1) (by simp) #[.int .i64 D', .bool s', .int .u64 M', .int .i64 E'] 30)
  have HB := Lib.hid (bel2 w (.cells #[.int .i64 D, .bool s, .int .u64 M, .int .i64 E] 30) (.cells #[.int .i64 D', .bool s', .int .u64 M', .int .i64 E'] 30))
  generalize hW1 : ((w.alloc (.cells #[.int .i64 D, .bool s, .int .u64 M, .int .i64 E] 30)).alloc (.cells #[.int .i64 D', .bool s', .int .u64 M', .int .i64 E'] 30)) = w1 at *
  clear hW1
  have xX10 := X1.at (i := 0) (v := .int .i64 D) rfl
  have xX11 := X1.at (i := 1) (v := .bool s) rfl
  have xX12 := X1.at (i := 2) (v := .int .u64 M) rfl
  have xX13 := X1.at (i := 3) (v := .int .i64 E) rfl
  go_wp2_with fail
  refine (yTaken hM HR.out).mono ?_
  rintro ee w2 ⟨K1, s1, M1, E1, rfl, q1, B⟩
  clear xX10 xX11 xX12 xX13
  replace X1 := X1.below B
  replace X2 := X2.below B
  replace HB := Lib.hid (bt HB.out B)
  clear B
  go_upto_region 2 with (fail)
  have lX5 := Nat.le_refl (World.heap w2).size
  have nX5X1 := X1.lt
  have nX5X2 := X2.lt
  replace X1 := X1.below (bel1 _ (.cells #[.int .i64 K1, .bool s1, .int .u64 M1, .int .i64 E1] 30))
  replace X2 := X2.below (bel1 _ (.cells #[.int .i64 K1, .bool s1, .int .u64 M1, .int .i64 E1] 30))
  replace HB := Lib.hid (bt HB.out (bel1 _ (.cells #[.int .i64 K1, .bool s1, .int .u64 M1, .int .i64 E1] 30)))
  have X5 := Bo.new w2 #[.int .i64 K1, .bool s1, .int .u64 M1, .int .i64 E1] 30
  generalize hWn : World.alloc w2 (.cells #[.int .i64 K1, .bool s1, .int .u64 M1, .int .i64 E1] 30) = w3 at *
  clear hWn
  have xX20 := X2.at (i := 0) (v := .int .i64 D') rfl
  have xX21 := X2.at (i := 1) (v := .bool s') rfl
  have xX22 := X2.at (i := 2) (v := .int .u64 M') rfl
  have xX23 := X2.at (i := 3) (v := .int .i64 E') rfl
  go_wp2_with fail
  refine (yTaken hM' HR'.out).mono ?_
  rintro ee w4 ⟨K2, s2, M2, E2, rfl, q2, B⟩
  clear xX20 xX21 xX22 xX23
  replace X1 := X1.below B
  replace X2 := X2.below B
  replace X5 := X5.below B
  replace HB := Lib.hid (bt HB.out B)
  clear B
  go_upto_region 3 with (fail)
  have lX6 := Nat.le_refl (World.heap w4).size
  have nX6X1 := X1.lt
  have nX6X2 := X2.lt
  have nX6X5 := X5.lt
  replace X1 := X1.below (bel1 _ (.cells #[.int .i64 K2, .bool s2, .int .u64 M2, .int .i64 E2] 30))
  replace X2 := X2.below (bel1 _ (.cells #[.int .i64 K2, .bool s2, .int .u64 M2, .int .i64 E2] 30))
  replace X5 := X5.below (bel1 _ (.cells #[.int .i64 K2, .bool s2, .int .u64 M2, .int .i64 E2] 30))
  replace HB := Lib.hid (bt HB.out (bel1 _ (.cells #[.int .i64 K2, .bool s2, .int .u64 M2, .int .i64 E2] 30)))
  have X6 := Bo.new w4 #[.int .i64 K2, .bool s2, .int .u64 M2, .int .i64 E2] 30
  generalize hWn : World.alloc w4 (.cells #[.int .i64 K2, .bool s2, .int .u64 M2, .int .i64 E2] 30) = w5 at *
  clear hWn
  clear lX5 lX6
  have hs1 := HS.out
  rw [← q1.rk] at hs1
  have hs2 := HT.out
  rw [← q2.rk] at hs2
  have HS1 := Lib.hid hs1
  have HS2 := Lib.hid hs2
  clear hs1 hs2
  have xX50 := X5.at (i := 0) (v := .int .i64 K1) rfl
  have xX51 := X5.at (i := 1) (v := .bool s1) rfl
  have xX52 := X5.at (i := 2) (v := .int .u64 M1) rfl
  have xX53 := X5.at (i := 3) (v := .int .i64 E1) rfl
  go_wp2_with fail
  refine (ySign q1.top HS1.out).mono ?_
  rintro ee w6 ⟨rfl, B⟩
  clear xX50 xX51 xX52 xX53
  replace X5 := X5.below B
  replace X6 := X6.below B
  replace HB := Lib.hid (bt HB.out B)
  clear B
  have xX60 := X6.at (i := 0) (v := .int .i64 K2) rfl
  have xX61 := X6.at (i := 1) (v := .bool s2) rfl
  have xX62 := X6.at (i := 2) (v := .int .u64 M2) rfl
  have xX63 := X6.at (i := 3) (v := .int .i64 E2) rfl
  go_wp2_with fail
  refine (ySign q2.top HS2.out).mono ?_
  rintro ee w7 ⟨rfl, B⟩
  clear xX60 xX61 xX62 xX63
  replace X5 := X5.below B
  replace X6 := X6.below B
  replace HB := Lib.hid (bt HB.out B)
  clear B
  clear HS1 HS2
  by_cases he : σ ≠ τ
  · have e0 : (σ == τ) = false := by simpa using he
    have h1 := HQ.out he
    rcases cmpI_tri σ τ with ⟨a1, a2⟩ | ⟨a1, a2⟩ | ⟨a1, a2⟩
    · obtain rfl : -1 = z := a2.symm.trans h1
      go_wp2
      go_ret
      exact ⟨rfl, HB.out⟩
    · exact absurd a1 he
    · obtain rfl : 1 = z := a2.symm.trans h1
      go_wp2
      go_ret
      exact ⟨rfl, HB.out⟩
  · obtain rfl : σ = τ := Decidable.not_not.1 he
    by_cases h0 : σ = 0
    · subst h0
      obtain rfl : 0 = z := by
        have h1 := cmpI_zero.1 HS.out
        have h2 := cmpI_zero.1 HT.out
        rw [← HZ.out, h1, h2]; rfl
      go_wp2
      go_ret
      exact ⟨rfl, HB.out⟩
    · have e0 : (σ == 0) = false := by simpa using h0
      have k1 : K1 ≠ 0 := fun e => h0 (by rw [← HS.out, q1.zero_iff.1 e]; rfl)
      have k2 : K2 ≠ 0 := fun e => h0 (by rw [← HT.out, q2.zero_iff.1 e]; rfl)
      have hst : s1 = s2 := by
        have e1 := q1.sign k1
        have e2 := q2.sign k2
        rw [HS.out] at e1
        rw [HT.out, e1] at e2
        cases s1 <;> cases s2 <;> first | rfl | exact absurd e2 (by decide)
      subst hst
      have hf := fa_fq q1 q2 k1 k2
      rw [HS.out, HZ.out] at hf
      have hσ : σ = -1 ∨ σ = 1 := by
        have := cmpI_bd r 0
        rw [HS.out] at this
        omega
      by_cases hrr : r = r'
      · subst hrr
        obtain ⟨rfl, -, rfl, rfl⟩ := q1.uniq q2
        obtain rfl : 0 = z := by rw [← HZ.out, cmpI_eq rfl]
        have xX50 := X5.at (i := 0) (v := .int .i64 K1) rfl
        have xX51 := X5.at (i := 1) (v := .bool s1) rfl
        have xX52 := X5.at (i := 2) (v := .int .u64 M1) rfl
        have xX53 := X5.at (i := 3) (v := .int .i64 E1) rfl
        have xX60 := X6.at (i := 0) (v := .int .i64 K1) rfl
        have xX61 := X6.at (i := 1) (v := .bool s1) rfl
        have xX62 := X6.at (i := 2) (v := .int .u64 M1) rfl
        have xX63 := X6.at (i := 3) (v := .int .i64 E1) rfl
        go_wp2
        go_ret
        exact ⟨rfl, HB.out⟩
      · have HW : Hid (IntKind.i64.wrap (-σ) = -σ) := Lib.hid (IntWalk.i64_in _ (by omega))
        clear hσ
        unfold fa at hf
        clear HS HT HQ HZ
        rcases q1.plc k1 with ⟨rfl, h1, h2, h3, h4, h5⟩ | ⟨rfl, rfl, rfl, h5⟩ <;> rcases q2.plc k2 with ⟨rfl, g1, g2, g3, g4, g5⟩ | ⟨rfl, rfl, rfl, g5⟩
        · rw [if_neg (by decide)] at hf
          clear h1 h2 h3 h4 h5 g1 g2 g3 g4 g5
          rcases cmpI_tri E1 E2 with ⟨a1, a2⟩ | ⟨a1, a2⟩ | ⟨a1, a2⟩
          · rw [if_pos (by omega), a2] at hf
            have e2 : decide (E2 < E1) = false := decide_eq_false (by omega)
            have e3 : (E1 == E2) = false := by
              have : E1 ≠ E2 := by omega
              simpa using this
            obtain rfl : -σ = z := by omega
            have hw := HW.out
            clear hf
            have xX50 := X5.at (i := 0) (v := .int .i64 1) rfl
            have xX51 := X5.at (i := 1) (v := .bool s1) rfl
            have xX52 := X5.at (i := 2) (v := .int .u64 M1) rfl
            have xX53 := X5.at (i := 3) (v := .int .i64 E1) rfl
            have xX60 := X6.at (i := 0) (v := .int .i64 1) rfl
            have xX61 := X6.at (i := 1) (v := .bool s1) rfl
            have xX62 := X6.at (i := 2) (v := .int .u64 M2) rfl
            have xX63 := X6.at (i := 3) (v := .int .i64 E2) rfl
            go_wp2
            go_ret
            exact ⟨rfl, HB.out⟩
          · obtain rfl : E1 = E2 := a1
            rw [if_neg (by simp)] at hf
            rcases cmpI_tri M1 M2 with ⟨b1, b2⟩ | ⟨b1, b2⟩ | ⟨b1, b2⟩
            · rw [b2] at hf
              have e2 : decide (M2 < M1) = false := decide_eq_false (by omega)
              obtain rfl : -σ = z := by omega
              have hw := HW.out
              clear hf
              have xX50 := X5.at (i := 0) (v := .int .i64 1) rfl
              have xX51 := X5.at (i := 1) (v := .bool s1) rfl
              have xX52 := X5.at (i := 2) (v := .int .u64 M1) rfl
              have xX53 := X5.at (i := 3) (v := .int .i64 E1) rfl
              have xX60 := X6.at (i := 0) (v := .int .i64 1) rfl
              have xX61 := X6.at (i := 1) (v := .bool s1) rfl
              have xX62 := X6.at (i := 2) (v := .int .u64 M2) rfl
              have xX63 := X6.at (i := 3) (v := .int .i64 E1) rfl
              go_wp2
              go_ret
              exact ⟨rfl, HB.out⟩
            · exact absurd (q1.2.2.symm.trans (b1 ▸ q2.2.2)) hrr
            · rw [b2] at hf
              have e2 : decide (M2 < M1) = true := decide_eq_true b1
              rw [Int.mul_one] at hf
              subst hf
              have xX50 := X5.at (i := 0) (v := .int .i64 1) rfl
              have xX51 := X5.at (i := 1) (v := .bool s1) rfl
              have xX52 := X5.at (i := 2) (v := .int .u64 M1) rfl
              have xX53 := X5.at (i := 3) (v := .int .i64 E1) rfl
              have xX60 := X6.at (i := 0) (v := .int .i64 1) rfl
              have xX61 := X6.at (i := 1) (v := .bool s1) rfl
              have xX62 := X6.at (i := 2) (v := .int .u64 M2) rfl
              have xX63 := X6.at (i := 3) (v := .int .i64 E1) rfl
              go_wp2
              go_ret
              exact ⟨rfl, HB.out⟩
          · rw [if_pos (by omega), a2] at hf
            have e2 : decide (E2 < E1) = true := decide_eq_true a1
            rw [Int.mul_one] at hf
            subst hf
            have xX50 := X5.at (i := 0) (v := .int .i64 1) rfl
            have xX51 := X5.at (i := 1) (v := .bool s1) rfl
            have xX52 := X5.at (i := 2) (v := .int .u64 M1) rfl
            have xX53 := X5.at (i := 3) (v := .int .i64 E1) rfl
            have xX60 := X6.at (i := 0) (v := .int .i64 1) rfl
            have xX61 := X6.at (i := 1) (v := .bool s1) rfl
            have xX62 := X6.at (i := 2) (v := .int .u64 M2) rfl
            have xX63 := X6.at (i := 3) (v := .int .i64 E2) rfl
            go_wp2
            go_ret
            exact ⟨rfl, HB.out⟩
        · rw [if_pos (by decide), cmpI_lt (by decide)] at hf
          clear h1 h2 h3 h4 h5 g5
          obtain rfl : -σ = z := by omega
          have hw := HW.out
          clear hf
          have xX50 := X5.at (i := 0) (v := .int .i64 1) rfl
          have xX51 := X5.at (i := 1) (v := .bool s1) rfl
          have xX52 := X5.at (i := 2) (v := .int .u64 M1) rfl
          have xX53 := X5.at (i := 3) (v := .int .i64 E1) rfl
          have xX60 := X6.at (i := 0) (v := .int .i64 2) rfl
          have xX61 := X6.at (i := 1) (v := .bool s1) rfl
          have xX62 := X6.at (i := 2) (v := .int .u64 0) rfl
          have xX63 := X6.at (i := 3) (v := .int .i64 0) rfl
          go_wp2
          go_ret
          exact ⟨rfl, HB.out⟩
        · rw [if_pos (by decide), cmpI_gt (by decide)] at hf
          clear g1 g2 g3 g4 g5 h5
          rw [Int.mul_one] at hf
          subst hf
          have xX50 := X5.at (i := 0) (v := .int .i64 2) rfl
          have xX51 := X5.at (i := 1) (v := .bool s1) rfl
          have xX52 := X5.at (i := 2) (v := .int .u64 0) rfl
          have xX53 := X5.at (i := 3) (v := .int .i64 0) rfl
          have xX60 := X6.at (i := 0) (v := .int .i64 1) rfl
          have xX61 := X6.at (i := 1) (v := .bool s1) rfl
          have xX62 := X6.at (i := 2) (v := .int .u64 M2) rfl
          have xX63 := X6.at (i := 3) (v := .int .i64 E2) rfl
          go_wp2
          go_ret
          exact ⟨rfl, HB.out⟩
        · exact absurd (q1.2.2.symm.trans q2.2.2) hrr
end Go.Proofs.YthibemmhgdbiiaaDoor

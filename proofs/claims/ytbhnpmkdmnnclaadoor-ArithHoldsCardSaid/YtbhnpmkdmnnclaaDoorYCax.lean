/-
  Contracts and words that the statement's proof rests on, several texts in one: Hh.
-/
import Derived.Test.YtbhnpmkdmnnclaaDoorYCat
import Derived.Test.YtbhnpmkdmnnclaaDoorYCaw
/-
  What the sum, the product, the difference of two numbers, a half and twice a number are, rounded.
-/
namespace Go.Proofs.YtbhnpmkdmnnclaaDoor
open Go.RowKit
set_option linter.unusedVariables false
set_option linter.unusedSimpArgs false
set_option maxRecDepth 100000

theorem fq_tk {D : Int} {s : Bool} {M E : Int} (hM : M < 18446744073709551616) : ∃ K1 s1 M1 E1, Fq K1 s1 M1 E1 (rk D s M E) := by
  by_cases hm : MayQ D s M E
  · exact ⟨_, _, _, _, rk_fq hM hm⟩
  · rw [rk_not hm]
    exact ⟨_, _, _, _, Fq.nought⟩
set_option maxHeartbeats 2000000 in
theorem aTaken {w : World} {D M E : Int} {s : Bool} {K1 M1 E1 x : Int} {s1 : Bool} (hM : M < 18446744073709551616) (q : Fq K1 s1 M1 E1 x) (hx : rk D s M E = x) : Calls Tryd.prog 36 #[.agg #[.int .i64 D, .bool s, .int .u64 M, .int .i64 E]] w (fun e w' => e = .returned (.agg #[.int .i64 K1, .bool s1, .int .u64 M1, .int .i64 E1]) ∧ Below w.heap.size w w') := by
  by_cases hm : MayQ D s M E
  · obtain ⟨rfl, rfl, rfl, rfl⟩ := q.uniq (hx ▸ rk_fq hM hm)
    have HC := Lib.hid (show decide (MayQ K1 s1 M1 E1) = true from decide_eq_true hm)
    clear hm hx hM q
    go_enter Tryd.func36, Tryd.ntmps36
    go_upto_region 1 with (fail)
    have X1 := (Bo.newAt w (g := w.heap.size) (by simp) #[.int .i64 K1, .bool s1, .int .u64 M1, .int .i64 E1] 24).below (bel1 _ (.cells #[.int .i64 0, .bool false, .int .u64 0, .int .i64 0] 24))
    have XR := (Bo.newAt (w.alloc (.cells #[.int .i64 K1, .bool s1, .int .u64 M1, .int .i64 E1] 24)) (g := w.heap.size + 1) (by simp) #[.int .i64 0, .bool false, .int .u64 0, .int .i64 0] 24)
    have HB := Lib.hid (bel2 w (.cells #[.int .i64 K1, .bool s1, .int .u64 M1, .int .i64 E1] 24) (.cells #[.int .i64 0, .bool false, .int .u64 0, .int .i64 0] 24))
    generalize hW1 : ((w.alloc (.cells #[.int .i64 K1, .bool s1, .int .u64 M1, .int .i64 E1] 24)).alloc (.cells #[.int .i64 0, .bool false, .int .u64 0, .int .i64 0] 24)) = w1 at *
    clear hW1
    have xX10 := X1.at (i := 0) (v := .int .i64 K1) rfl
    have xX11 := X1.at (i := 1) (v := .bool s1) rfl
    have xX12 := X1.at (i := 2) (v := .int .u64 M1) rfl
    have xX13 := X1.at (i := 3) (v := .int .i64 E1) rfl
    go_wp2_with fail
    refine (nMay HC.out).mono ?_
    rintro ee w2 ⟨rfl, B⟩
    clear xX10 xX11 xX12 xX13
    replace X1 := X1.below B
    replace XR := XR.below B
    replace HB := Lib.hid (bt HB.out B)
    clear B
    have xXR0 := XR.at (i := 0) (v := .int .i64 0) rfl
    have zXR0 := XR.frozen 0
    have xXR1 := XR.at (i := 1) (v := .bool false) rfl
    have zXR1 := XR.frozen 1
    have xXR2 := XR.at (i := 2) (v := .int .u64 0) rfl
    have zXR2 := XR.frozen 2
    have xXR3 := XR.at (i := 3) (v := .int .i64 0) rfl
    have zXR3 := XR.frozen 3
    have xX10 := X1.at (i := 0) (v := .int .i64 K1) rfl
    have xX11 := X1.at (i := 1) (v := .bool s1) rfl
    have xX12 := X1.at (i := 2) (v := .int .u64 M1) rfl
    have xX13 := X1.at (i := 3) (v := .int .i64 E1) rfl
    go_wp2
    clear xXR0 zXR0 xXR1 zXR1 xXR2 zXR2 xXR3 zXR3 xX10 xX11 xX12 xX13
    have SX := StN.mk4 XR (.int .i64 K1) (.bool s1) (.int .u64 M1) (.int .i64 E1)
    replace X1 := X1.stn SX (by omega)
    replace HB := Lib.hid (SX.below HB.out (by omega))
    replace XR := SX.box
    clear SX
    generalize (World.setCell (World.setCell (World.setCell (World.setCell w2 ⟨w.heap.size + 1, 0, none⟩ (.int .i64 K1)) ⟨w.heap.size + 1, 1, none⟩ (.bool s1)) ⟨w.heap.size + 1, 2, none⟩ (.int .u64 M1)) ⟨w.heap.size + 1, 3, none⟩ (.int .i64 E1)) = w3 at *
    have r0 := XR.cell 0
    have r1 := XR.cell 1
    have r2 := XR.cell 2
    have r3 := XR.cell 3
    exact bodyPost_ret (v := .agg #[.int .i64 K1, .bool s1, .int .u64 M1, .int .i64 E1]) (by simp [results, Tryd.results36, go_sem, r0, r1, r2, r3]) rfl ⟨rfl, HB.out⟩
  · rw [rk_not hm] at hx
    subst hx
    obtain ⟨rfl, rfl, rfl, rfl⟩ := q.uniq Fq.nought
    have HC := Lib.hid (show decide (MayQ D s M E) = false from decide_eq_false hm)
    clear hm hM q
    go_enter Tryd.func36, Tryd.ntmps36
    go_upto_region 1 with (fail)
    have X1 := (Bo.newAt w (g := w.heap.size) (by simp) #[.int .i64 D, .bool s, .int .u64 M, .int .i64 E] 24).below (bel1 _ (.cells #[.int .i64 0, .bool false, .int .u64 0, .int .i64 0] 24))
    have XR := (Bo.newAt (w.alloc (.cells #[.int .i64 D, .bool s, .int .u64 M, .int .i64 E] 24)) (g := w.heap.size + 1) (by simp) #[.int .i64 0, .bool false, .int .u64 0, .int .i64 0] 24)
    have HB := Lib.hid (bel2 w (.cells #[.int .i64 D, .bool s, .int .u64 M, .int .i64 E] 24) (.cells #[.int .i64 0, .bool false, .int .u64 0, .int .i64 0] 24))
    generalize hW1 : ((w.alloc (.cells #[.int .i64 D, .bool s, .int .u64 M, .int .i64 E] 24)).alloc (.cells #[.int .i64 0, .bool false, .int .u64 0, .int .i64 0] 24)) = w1 at *
    clear hW1
    have xX10 := X1.at (i := 0) (v := .int .i64 D) rfl
    have xX11 := X1.at (i := 1) (v := .bool s) rfl
    have xX12 := X1.at (i := 2) (v := .int .u64 M) rfl
    have xX13 := X1.at (i := 3) (v := .int .i64 E) rfl
    go_wp2_with fail
    refine (nMay HC.out).mono ?_
    rintro ee w2 ⟨rfl, B⟩
    clear xX10 xX11 xX12 xX13
    replace X1 := X1.below B
    replace XR := XR.below B
    replace HB := Lib.hid (bt HB.out B)
    clear B
    have xXR0 := XR.at (i := 0) (v := .int .i64 0) rfl
    have zXR0 := XR.frozen 0
    have xXR1 := XR.at (i := 1) (v := .bool false) rfl
    have zXR1 := XR.frozen 1
    have xXR2 := XR.at (i := 2) (v := .int .u64 0) rfl
    have zXR2 := XR.frozen 2
    have xXR3 := XR.at (i := 3) (v := .int .i64 0) rfl
    have zXR3 := XR.frozen 3
    have xX10 := X1.at (i := 0) (v := .int .i64 D) rfl
    have xX11 := X1.at (i := 1) (v := .bool s) rfl
    have xX12 := X1.at (i := 2) (v := .int .u64 M) rfl
    have xX13 := X1.at (i := 3) (v := .int .i64 E) rfl
    go_wp2
    clear xXR0 zXR0 xXR1 zXR1 xXR2 zXR2 xXR3 zXR3 xX10 xX11 xX12 xX13
    have SX := StN.mk4 XR (.int .i64 0) (.bool false) (.int .u64 0) (.int .i64 0)
    replace X1 := X1.stn SX (by omega)
    replace HB := Lib.hid (SX.below HB.out (by omega))
    replace XR := SX.box
    clear SX
    generalize (World.setCell (World.setCell (World.setCell (World.setCell w2 ⟨w.heap.size + 1, 0, none⟩ (.int .i64 0)) ⟨w.heap.size + 1, 1, none⟩ (.bool false)) ⟨w.heap.size + 1, 2, none⟩ (.int .u64 0)) ⟨w.heap.size + 1, 3, none⟩ (.int .i64 0)) = w3 at *
    have r0 := XR.cell 0
    have r1 := XR.cell 1
    have r2 := XR.cell 2
    have r3 := XR.cell 3
    exact bodyPost_ret (v := .agg #[.int .i64 0, .bool false, .int .u64 0, .int .i64 0]) (by simp [results, Tryd.results36, go_sem, r0, r1, r2, r3]) rfl ⟨rfl, HB.out⟩
set_option maxHeartbeats 8000000 in
theorem aAdd {w : World} {D D' M M' E E' : Int} {s s' : Bool} {up : Bool} {x y r : Int} (hT : Tb w) (hM : M < 18446744073709551616) (hM' : M' < 18446744073709551616) (hx : rk D s M E = x) (hy : rk D' s' M' E' = y) (hr : addp up x y = r) : Calls Tryd.prog 13 #[.agg #[.int .i64 D, .bool s, .int .u64 M, .int .i64 E], .agg #[.int .i64 D', .bool s', .int .u64 M', .int .i64 E'], .bool up] w (PN w r) := by
  obtain ⟨K1, s1, M1, E1, q1⟩ := fq_tk (D := D) (s := s) (M := M) (E := E) hM
  obtain ⟨K2, s2, M2, E2, q2⟩ := fq_tk (D := D') (s := s') (M := M') (E := E') hM'
  rw [hx] at q1
  rw [hy] at q2
  have HX := Lib.hid hx
  have HY := Lib.hid hy
  clear hx hy
  go_enter Tryd.func13, Tryd.ntmps13
  go_upto_region 1 with (fail)
  have X3 := (Bo.newAt w (g := w.heap.size) (by simp) #[.int .i64 D, .bool s, .int .u64 M, .int .i64 E] 24).below (bel2 _ (.cells #[.int .i64 D', .bool s', .int .u64 M', .int .i64 E'] 24) (.cells #[.int .i64 0, .bool false, .int .u64 0, .int .i64 0] 24))
  have X4 := (Bo.newAt (w.alloc (.cells #[.int .i64 D, .bool s, .int .u64 M, .int .i64 E] 24)) (g := w.heap.size + 1) (by simp) #[.int .i64 D', .bool s', .int .u64 M', .int .i64 E'] 24).below (bel1 _ (.cells #[.int .i64 0, .bool false, .int .u64 0, .int .i64 0] 24))
  have XR := (Bo.newAt ((w.alloc (.cells #[.int .i64 D, .bool s, .int .u64 M, .int .i64 E] 24)).alloc (.cells #[.int .i64 D', .bool s', .int .u64 M', .int .i64 E'] 24)) (g := w.heap.size + 1 + 1) (by simp) #[.int .i64 0, .bool false, .int .u64 0, .int .i64 0] 24)
  have HB := Lib.hid (bel3 w (.cells #[.int .i64 D, .bool s, .int .u64 M, .int .i64 E] 24) (.cells #[.int .i64 D', .bool s', .int .u64 M', .int .i64 E'] 24) (.cells #[.int .i64 0, .bool false, .int .u64 0, .int .i64 0] 24))
  replace hT := hT.below HB.out
  generalize hW1 : (((w.alloc (.cells #[.int .i64 D, .bool s, .int .u64 M, .int .i64 E] 24)).alloc (.cells #[.int .i64 D', .bool s', .int .u64 M', .int .i64 E'] 24)).alloc (.cells #[.int .i64 0, .bool false, .int .u64 0, .int .i64 0] 24)) = w1 at *
  clear hW1
  refine Jo.region_joint (T := [0, 1, 2, 3]) (ds := [some 7, some 8, some 9, some 10, none, none]) (ls := [[], [0], [], [2], [], []]) (k := 6) (L := [(some 7, 0), (some 8, 1), (some 9, 2), (some 10, 3)]) (fuel := 2) (J := fun wj => Below (World.heap w1).size w1 wj)
    (F := [Jo.Fact.eq (.agg #[.int .i64 D, .bool s, .int .u64 M, .int .i64 E]), Jo.Fact.eq (.agg #[.int .i64 K1, .bool s1, .int .u64 M1, .int .i64 E1]), Jo.Fact.eq (.agg #[.int .i64 D', .bool s', .int .u64 M', .int .i64 E']), Jo.Fact.eq (.agg #[.int .i64 K2, .bool s2, .int .u64 M2, .int .i64 E2]), Jo.Fact.any, Jo.Fact.any])
    (by kernel_rfl) (by kernel_rfl) (by decide) rfl rfl (fun _ _ h b => bt h b) ((Below.refl _ _).drew) ?_ (fun vs w2 hJ hd => ?_)
  · refine Jo.jcons (i := 0) (o := ⟨some 7, _, _, _, _, _⟩) (di := some 7) (L := []) (f := Jo.Fact.eq (.agg #[.int .i64 D, .bool s, .int .u64 M, .int .i64 E])) rfl rfl rfl rfl (fun vs wj hJ hd K hK => ?_) ?_
    · clear hd
      simp only [Jo.putl, List.foldl_nil, Act.put, List.setIfInBounds_toArray, List.set_cons_zero, List.set_cons_succ] at hK ⊢
      have xX30 : World.cell? wj ⟨w.heap.size, 0, none⟩ = some (.int .i64 D) := (X3.below hJ).cell 0
      have xX31 : World.cell? wj ⟨w.heap.size, 1, none⟩ = some (.bool s) := (X3.below hJ).cell 1
      have xX32 : World.cell? wj ⟨w.heap.size, 2, none⟩ = some (.int .u64 M) := (X3.below hJ).cell 2
      have xX33 : World.cell? wj ⟨w.heap.size, 3, none⟩ = some (.int .i64 E) := (X3.below hJ).cell 3
      go_simp
      exact hK.out _ _ rfl (Below.refl _ _)
    refine Jo.jcons (i := 1) (o := ⟨some 8, _, _, _, _, _⟩) (di := some 8) (L := [(some 7, 0)]) (f := Jo.Fact.eq (.agg #[.int .i64 K1, .bool s1, .int .u64 M1, .int .i64 E1])) rfl rfl rfl rfl (fun vs wj hJ hd K hK => ?_) ?_
    · have d0 : (Jo.Fact.eq (.agg #[.int .i64 D, .bool s, .int .u64 M, .int .i64 E])).P (vs 0) wj := hd 0 (by decide)
      clear hd
      simp only [Jo.putl, List.foldl_cons, List.foldl_nil, Act.put, List.setIfInBounds_toArray, List.set_cons_zero, List.set_cons_succ] at hK ⊢
      generalize vs 0 = u0 at hK d0 ⊢
      replace d0 : u0 = _ := d0
      subst d0
      go_simp
      refine (aTaken hM q1 HX.out).mono ?_
      rintro ee wk ⟨rfl, B⟩
      exact hK.out _ _ rfl B
    refine Jo.jcons (i := 2) (o := ⟨some 9, _, _, _, _, _⟩) (di := some 9) (L := []) (f := Jo.Fact.eq (.agg #[.int .i64 D', .bool s', .int .u64 M', .int .i64 E'])) rfl rfl rfl rfl (fun vs wj hJ hd K hK => ?_) ?_
    · clear hd
      simp only [Jo.putl, List.foldl_nil, Act.put, List.setIfInBounds_toArray, List.set_cons_zero, List.set_cons_succ] at hK ⊢
      have xX40 : World.cell? wj ⟨w.heap.size + 1, 0, none⟩ = some (.int .i64 D') := (X4.below hJ).cell 0
      have xX41 : World.cell? wj ⟨w.heap.size + 1, 1, none⟩ = some (.bool s') := (X4.below hJ).cell 1
      have xX42 : World.cell? wj ⟨w.heap.size + 1, 2, none⟩ = some (.int .u64 M') := (X4.below hJ).cell 2
      have xX43 : World.cell? wj ⟨w.heap.size + 1, 3, none⟩ = some (.int .i64 E') := (X4.below hJ).cell 3
      go_simp
      exact hK.out _ _ rfl (Below.refl _ _)
    refine Jo.jcons (i := 3) (o := ⟨some 10, _, _, _, _, _⟩) (di := some 10) (L := [(some 9, 2)]) (f := Jo.Fact.eq (.agg #[.int .i64 K2, .bool s2, .int .u64 M2, .int .i64 E2])) rfl rfl rfl rfl (fun vs wj hJ hd K hK => ?_) ?_
    · have d2 : (Jo.Fact.eq (.agg #[.int .i64 D', .bool s', .int .u64 M', .int .i64 E'])).P (vs 2) wj := hd 2 (by decide)
      clear hd
      simp only [Jo.putl, List.foldl_cons, List.foldl_nil, Act.put, List.setIfInBounds_toArray, List.set_cons_zero, List.set_cons_succ] at hK ⊢
      generalize vs 2 = u2 at hK d2 ⊢
      replace d2 : u2 = _ := d2
      subst d2
      go_simp
      refine (aTaken hM' q2 HY.out).mono ?_
      rintro ee wk ⟨rfl, B⟩
      exact hK.out _ _ rfl B
    exact Jo.Steps.nil
  have d0 : (Jo.Fact.eq (.agg #[.int .i64 D, .bool s, .int .u64 M, .int .i64 E])).P (vs 0) w2 := hd 0 (by decide)
  have d1 : (Jo.Fact.eq (.agg #[.int .i64 K1, .bool s1, .int .u64 M1, .int .i64 E1])).P (vs 1) w2 := hd 1 (by decide)
  have d2 : (Jo.Fact.eq (.agg #[.int .i64 D', .bool s', .int .u64 M', .int .i64 E'])).P (vs 2) w2 := hd 2 (by decide)
  have d3 : (Jo.Fact.eq (.agg #[.int .i64 K2, .bool s2, .int .u64 M2, .int .i64 E2])).P (vs 3) w2 := hd 3 (by decide)
  clear hd
  simp only [Jo.putl, List.foldl_cons, List.foldl_nil, Act.put, List.setIfInBounds_toArray, List.set_cons_zero, List.set_cons_succ]
  generalize vs 0 = u0 at d0 ⊢
  generalize vs 1 = u1 at d1 ⊢
  generalize vs 2 = u2 at d2 ⊢
  generalize vs 3 = u3 at d3 ⊢
  clear vs
  replace d0 : u0 = _ := d0
  subst d0
  replace d1 : u1 = _ := d1
  subst d1
  replace d2 : u2 = _ := d2
  subst d2
  replace d3 : u3 = _ := d3
  subst d3
  replace X3 := X3.below hJ
  replace X4 := X4.below hJ
  replace XR := XR.below hJ
  replace hT := hT.below hJ
  replace HB := Lib.hid (bt HB.out hJ)
  have xX30 := X3.at (i := 0) (v := .int .i64 D) rfl
  have zX30 := X3.frozen 0
  have xX31 := X3.at (i := 1) (v := .bool s) rfl
  have zX31 := X3.frozen 1
  have xX32 := X3.at (i := 2) (v := .int .u64 M) rfl
  have zX32 := X3.frozen 2
  have xX33 := X3.at (i := 3) (v := .int .i64 E) rfl
  have zX33 := X3.frozen 3
  refine Jo.jnext (i := 4) (o := ⟨none, _, _, _, _, _⟩) (by kernel_rfl) rfl (fun K hK => ?_)
  go_simp
  refine hK.out _ _ ?_
  clear hK K xX30 zX30 xX31 zX31 xX32 zX32 xX33 zX33
  have SX := StN.mk4 X3 (.int .i64 K1) (.bool s1) (.int .u64 M1) (.int .i64 E1)
  replace X4 := X4.stn SX (by omega)
  replace XR := XR.stn SX (by omega)
  replace hT := hT.stn SX (by simp [no8])
  replace HB := Lib.hid (SX.below HB.out (by omega))
  replace X3 := SX.box
  clear SX
  generalize (World.setCell (World.setCell (World.setCell (World.setCell w2 ⟨w.heap.size, 0, none⟩ (.int .i64 K1)) ⟨w.heap.size, 1, none⟩ (.bool s1)) ⟨w.heap.size, 2, none⟩ (.int .u64 M1)) ⟨w.heap.size, 3, none⟩ (.int .i64 E1)) = w3 at *
  have xX40 := X4.at (i := 0) (v := .int .i64 D') rfl
  have zX40 := X4.frozen 0
  have xX41 := X4.at (i := 1) (v := .bool s') rfl
  have zX41 := X4.frozen 1
  have xX42 := X4.at (i := 2) (v := .int .u64 M') rfl
  have zX42 := X4.frozen 2
  have xX43 := X4.at (i := 3) (v := .int .i64 E') rfl
  have zX43 := X4.frozen 3
  refine Jo.jnext (i := 5) (o := ⟨none, _, _, _, _, _⟩) (by kernel_rfl) rfl (fun K hK => ?_)
  go_simp
  refine hK.out _ _ ?_
  clear hK K xX40 zX40 xX41 zX41 xX42 zX42 xX43 zX43
  have SX := StN.mk4 X4 (.int .i64 K2) (.bool s2) (.int .u64 M2) (.int .i64 E2)
  replace X3 := X3.stn SX (by omega)
  replace XR := XR.stn SX (by omega)
  replace hT := hT.stn SX (by simp [no8])
  replace HB := Lib.hid (SX.below HB.out (by omega))
  replace X4 := SX.box
  clear SX
  generalize (World.setCell (World.setCell (World.setCell (World.setCell w3 ⟨w.heap.size + 1, 0, none⟩ (.int .i64 K2)) ⟨w.heap.size + 1, 1, none⟩ (.bool s2)) ⟨w.heap.size + 1, 2, none⟩ (.int .u64 M2)) ⟨w.heap.size + 1, 3, none⟩ (.int .i64 E2)) = w4 at *
  refine Jo.jdone (by kernel_rfl) ?_
  clear HX HY hM hM'
  have i1 := fq_inf q1
  have i2 := fq_inf q2
  have z1 := q1.zero_iff
  have z2 := q2.zero_iff
  have d1 := q1.bd
  have d2 := q2.bd
  have kk1 : K1 = 2 ∨ K1 = 0 ∨ K1 = 1 := by rcases q1.cases with ⟨h, _⟩ | ⟨h, _⟩ | ⟨h, _⟩ <;> omega
  have kk2 : K2 = 2 ∨ K2 = 0 ∨ K2 = 1 := by rcases q2.cases with ⟨h, _⟩ | ⟨h, _⟩ | ⟨h, _⟩ <;> omega
  rcases kk1 with rfl | rfl | rfl
  · rcases kk2 with rfl | rfl | rfl
    · by_cases ks : s1 = s2
      · rw [addp_same up i1 ((fq_same q1 q2).2 ks)] at hr
        subst hr
        subst ks
        clear i1 i2 z1 z2 d1 d2 q2
        have xXR0 := XR.at (i := 0) (v := .int .i64 0) rfl
        have zXR0 := XR.frozen 0
        have xXR1 := XR.at (i := 1) (v := .bool false) rfl
        have zXR1 := XR.frozen 1
        have xXR2 := XR.at (i := 2) (v := .int .u64 0) rfl
        have zXR2 := XR.frozen 2
        have xXR3 := XR.at (i := 3) (v := .int .i64 0) rfl
        have zXR3 := XR.frozen 3
        have xX30 := X3.at (i := 0) (v := .int .i64 2) rfl
        have xX31 := X3.at (i := 1) (v := .bool s1) rfl
        have xX32 := X3.at (i := 2) (v := .int .u64 M1) rfl
        have xX33 := X3.at (i := 3) (v := .int .i64 E1) rfl
        have xX40 := X4.at (i := 0) (v := .int .i64 2) rfl
        have xX41 := X4.at (i := 1) (v := .bool s1) rfl
        have xX42 := X4.at (i := 2) (v := .int .u64 M2) rfl
        have xX43 := X4.at (i := 3) (v := .int .i64 E2) rfl
        go_wp2
        clear xXR0 zXR0 xXR1 zXR1 xXR2 zXR2 xXR3 zXR3 xX30 xX31 xX32 xX33 xX40 xX41 xX42 xX43
        have SX := StN.mk4 XR (.int .i64 2) (.bool s1) (.int .u64 M1) (.int .i64 E1)
        replace X3 := X3.stn SX (by omega)
        replace X4 := X4.stn SX (by omega)
        replace HB := Lib.hid (SX.below HB.out (by omega))
        replace XR := SX.box
        clear SX
        generalize (World.setCell (World.setCell (World.setCell (World.setCell w4 ⟨w.heap.size + 1 + 1, 0, none⟩ (.int .i64 2)) ⟨w.heap.size + 1 + 1, 1, none⟩ (.bool s1)) ⟨w.heap.size + 1 + 1, 2, none⟩ (.int .u64 M1)) ⟨w.heap.size + 1 + 1, 3, none⟩ (.int .i64 E1)) = w5 at *
        have r0 := XR.cell 0
        have r1 := XR.cell 1
        have r2 := XR.cell 2
        have r3 := XR.cell 3
        exact bodyPost_ret (v := .agg #[.int .i64 2, .bool s1, .int .u64 M1, .int .i64 E1]) (by simp [results, Tryd.results13, go_sem, r0, r1, r2, r3]) rfl ⟨_, _, _, _, rfl, q1, HB.out⟩
      · rw [addp_diff up i1 i2 (fun e => ks ((fq_same q1 q2).1 e))] at hr
        obtain rfl : (!s1) = s2 := by cases s1 <;> cases s2 <;> first | rfl | exact absurd rfl ks
        have e2 : (s1 == !s1) = false := by cases s1 <;> rfl
        have HRR := Lib.hid hr
        clear i1 i2 z1 z2 d1 d2 q1 q2 hr ks
        have xX30 := X3.at (i := 0) (v := .int .i64 2) rfl
        have xX31 := X3.at (i := 1) (v := .bool s1) rfl
        have xX32 := X3.at (i := 2) (v := .int .u64 M1) rfl
        have xX33 := X3.at (i := 3) (v := .int .i64 E1) rfl
        have xX40 := X4.at (i := 0) (v := .int .i64 2) rfl
        have xX41 := X4.at (i := 1) (v := .bool (!s1)) rfl
        have xX42 := X4.at (i := 2) (v := .int .u64 M2) rfl
        have xX43 := X4.at (i := 3) (v := .int .i64 E2) rfl
        go_wp2_with fail
        refine (nInf (s := !up) HRR.out).mono ?_
        rintro ee w5 ⟨K3, s3, M3, E3, rfl, q3, B⟩
        clear xX30 xX31 xX32 xX33 xX40 xX41 xX42 xX43
        replace X3 := X3.below B
        replace X4 := X4.below B
        replace XR := XR.below B
        replace HB := Lib.hid (bt HB.out B)
        clear B
        have xXR0 := XR.at (i := 0) (v := .int .i64 0) rfl
        have zXR0 := XR.frozen 0
        have xXR1 := XR.at (i := 1) (v := .bool false) rfl
        have zXR1 := XR.frozen 1
        have xXR2 := XR.at (i := 2) (v := .int .u64 0) rfl
        have zXR2 := XR.frozen 2
        have xXR3 := XR.at (i := 3) (v := .int .i64 0) rfl
        have zXR3 := XR.frozen 3
        go_wp2
        clear xXR0 zXR0 xXR1 zXR1 xXR2 zXR2 xXR3 zXR3
        have SX := StN.mk4 XR (.int .i64 K3) (.bool s3) (.int .u64 M3) (.int .i64 E3)
        replace X3 := X3.stn SX (by omega)
        replace X4 := X4.stn SX (by omega)
        replace HB := Lib.hid (SX.below HB.out (by omega))
        replace XR := SX.box
        clear SX
        generalize (World.setCell (World.setCell (World.setCell (World.setCell w5 ⟨w.heap.size + 1 + 1, 0, none⟩ (.int .i64 K3)) ⟨w.heap.size + 1 + 1, 1, none⟩ (.bool s3)) ⟨w.heap.size + 1 + 1, 2, none⟩ (.int .u64 M3)) ⟨w.heap.size + 1 + 1, 3, none⟩ (.int .i64 E3)) = w6 at *
        have r0 := XR.cell 0
        have r1 := XR.cell 1
        have r2 := XR.cell 2
        have r3 := XR.cell 3
        exact bodyPost_ret (v := .agg #[.int .i64 K3, .bool s3, .int .u64 M3, .int .i64 E3]) (by simp [results, Tryd.results13, go_sem, r0, r1, r2, r3]) rfl ⟨_, _, _, _, rfl, q3, HB.out⟩
    · rw [addp_tf up i1 i2] at hr
      subst hr
      clear i1 i2 z1 z2 d1 d2 q2
      have xXR0 := XR.at (i := 0) (v := .int .i64 0) rfl
      have zXR0 := XR.frozen 0
      have xXR1 := XR.at (i := 1) (v := .bool false) rfl
      have zXR1 := XR.frozen 1
      have xXR2 := XR.at (i := 2) (v := .int .u64 0) rfl
      have zXR2 := XR.frozen 2
      have xXR3 := XR.at (i := 3) (v := .int .i64 0) rfl
      have zXR3 := XR.frozen 3
      have xX30 := X3.at (i := 0) (v := .int .i64 2) rfl
      have xX31 := X3.at (i := 1) (v := .bool s1) rfl
      have xX32 := X3.at (i := 2) (v := .int .u64 M1) rfl
      have xX33 := X3.at (i := 3) (v := .int .i64 E1) rfl
      have xX40 := X4.at (i := 0) (v := .int .i64 0) rfl
      have xX41 := X4.at (i := 1) (v := .bool s2) rfl
      have xX42 := X4.at (i := 2) (v := .int .u64 M2) rfl
      have xX43 := X4.at (i := 3) (v := .int .i64 E2) rfl
      go_wp2
      clear xXR0 zXR0 xXR1 zXR1 xXR2 zXR2 xXR3 zXR3 xX30 xX31 xX32 xX33 xX40 xX41 xX42 xX43
      have SX := StN.mk4 XR (.int .i64 2) (.bool s1) (.int .u64 M1) (.int .i64 E1)
      replace X3 := X3.stn SX (by omega)
      replace X4 := X4.stn SX (by omega)
      replace HB := Lib.hid (SX.below HB.out (by omega))
      replace XR := SX.box
      clear SX
      generalize (World.setCell (World.setCell (World.setCell (World.setCell w4 ⟨w.heap.size + 1 + 1, 0, none⟩ (.int .i64 2)) ⟨w.heap.size + 1 + 1, 1, none⟩ (.bool s1)) ⟨w.heap.size + 1 + 1, 2, none⟩ (.int .u64 M1)) ⟨w.heap.size + 1 + 1, 3, none⟩ (.int .i64 E1)) = w5 at *
      have r0 := XR.cell 0
      have r1 := XR.cell 1
      have r2 := XR.cell 2
      have r3 := XR.cell 3
      exact bodyPost_ret (v := .agg #[.int .i64 2, .bool s1, .int .u64 M1, .int .i64 E1]) (by simp [results, Tryd.results13, go_sem, r0, r1, r2, r3]) rfl ⟨_, _, _, _, rfl, q1, HB.out⟩
    · rw [addp_tf up i1 i2] at hr
      subst hr
      clear i1 i2 z1 z2 d1 d2 q2
      have xXR0 := XR.at (i := 0) (v := .int .i64 0) rfl
      have zXR0 := XR.frozen 0
      have xXR1 := XR.at (i := 1) (v := .bool false) rfl
      have zXR1 := XR.frozen 1
      have xXR2 := XR.at (i := 2) (v := .int .u64 0) rfl
      have zXR2 := XR.frozen 2
      have xXR3 := XR.at (i := 3) (v := .int .i64 0) rfl
      have zXR3 := XR.frozen 3
      have xX30 := X3.at (i := 0) (v := .int .i64 2) rfl
      have xX31 := X3.at (i := 1) (v := .bool s1) rfl
      have xX32 := X3.at (i := 2) (v := .int .u64 M1) rfl
      have xX33 := X3.at (i := 3) (v := .int .i64 E1) rfl
      have xX40 := X4.at (i := 0) (v := .int .i64 1) rfl
      have xX41 := X4.at (i := 1) (v := .bool s2) rfl
      have xX42 := X4.at (i := 2) (v := .int .u64 M2) rfl
      have xX43 := X4.at (i := 3) (v := .int .i64 E2) rfl
      go_wp2
      clear xXR0 zXR0 xXR1 zXR1 xXR2 zXR2 xXR3 zXR3 xX30 xX31 xX32 xX33 xX40 xX41 xX42 xX43
      have SX := StN.mk4 XR (.int .i64 2) (.bool s1) (.int .u64 M1) (.int .i64 E1)
      replace X3 := X3.stn SX (by omega)
      replace X4 := X4.stn SX (by omega)
      replace HB := Lib.hid (SX.below HB.out (by omega))
      replace XR := SX.box
      clear SX
      generalize (World.setCell (World.setCell (World.setCell (World.setCell w4 ⟨w.heap.size + 1 + 1, 0, none⟩ (.int .i64 2)) ⟨w.heap.size + 1 + 1, 1, none⟩ (.bool s1)) ⟨w.heap.size + 1 + 1, 2, none⟩ (.int .u64 M1)) ⟨w.heap.size + 1 + 1, 3, none⟩ (.int .i64 E1)) = w5 at *
      have r0 := XR.cell 0
      have r1 := XR.cell 1
      have r2 := XR.cell 2
      have r3 := XR.cell 3
      exact bodyPost_ret (v := .agg #[.int .i64 2, .bool s1, .int .u64 M1, .int .i64 E1]) (by simp [results, Tryd.results13, go_sem, r0, r1, r2, r3]) rfl ⟨_, _, _, _, rfl, q1, HB.out⟩
  · rcases kk2 with rfl | rfl | rfl
    · rw [addp_ft up i1 i2] at hr
      subst hr
      clear i1 i2 z1 z2 d1 d2 q1
      have xXR0 := XR.at (i := 0) (v := .int .i64 0) rfl
      have zXR0 := XR.frozen 0
      have xXR1 := XR.at (i := 1) (v := .bool false) rfl
      have zXR1 := XR.frozen 1
      have xXR2 := XR.at (i := 2) (v := .int .u64 0) rfl
      have zXR2 := XR.frozen 2
      have xXR3 := XR.at (i := 3) (v := .int .i64 0) rfl
      have zXR3 := XR.frozen 3
      have xX30 := X3.at (i := 0) (v := .int .i64 0) rfl
      have xX31 := X3.at (i := 1) (v := .bool s1) rfl
      have xX32 := X3.at (i := 2) (v := .int .u64 M1) rfl
      have xX33 := X3.at (i := 3) (v := .int .i64 E1) rfl
      have xX40 := X4.at (i := 0) (v := .int .i64 2) rfl
      have xX41 := X4.at (i := 1) (v := .bool s2) rfl
      have xX42 := X4.at (i := 2) (v := .int .u64 M2) rfl
      have xX43 := X4.at (i := 3) (v := .int .i64 E2) rfl
      go_wp2
      clear xXR0 zXR0 xXR1 zXR1 xXR2 zXR2 xXR3 zXR3 xX30 xX31 xX32 xX33 xX40 xX41 xX42 xX43
      have SX := StN.mk4 XR (.int .i64 2) (.bool s2) (.int .u64 M2) (.int .i64 E2)
      replace X3 := X3.stn SX (by omega)
      replace X4 := X4.stn SX (by omega)
      replace HB := Lib.hid (SX.below HB.out (by omega))
      replace XR := SX.box
      clear SX
      generalize (World.setCell (World.setCell (World.setCell (World.setCell w4 ⟨w.heap.size + 1 + 1, 0, none⟩ (.int .i64 2)) ⟨w.heap.size + 1 + 1, 1, none⟩ (.bool s2)) ⟨w.heap.size + 1 + 1, 2, none⟩ (.int .u64 M2)) ⟨w.heap.size + 1 + 1, 3, none⟩ (.int .i64 E2)) = w5 at *
      have r0 := XR.cell 0
      have r1 := XR.cell 1
      have r2 := XR.cell 2
      have r3 := XR.cell 3
      exact bodyPost_ret (v := .agg #[.int .i64 2, .bool s2, .int .u64 M2, .int .i64 E2]) (by simp [results, Tryd.results13, go_sem, r0, r1, r2, r3]) rfl ⟨_, _, _, _, rfl, q2, HB.out⟩
    · rw [z2.1 rfl, addp_zero up d1.1 d1.2] at hr
      subst hr
      clear i1 i2 z1 z2 d1 d2 q2
      have xXR0 := XR.at (i := 0) (v := .int .i64 0) rfl
      have zXR0 := XR.frozen 0
      have xXR1 := XR.at (i := 1) (v := .bool false) rfl
      have zXR1 := XR.frozen 1
      have xXR2 := XR.at (i := 2) (v := .int .u64 0) rfl
      have zXR2 := XR.frozen 2
      have xXR3 := XR.at (i := 3) (v := .int .i64 0) rfl
      have zXR3 := XR.frozen 3
      have xX30 := X3.at (i := 0) (v := .int .i64 0) rfl
      have xX31 := X3.at (i := 1) (v := .bool s1) rfl
      have xX32 := X3.at (i := 2) (v := .int .u64 M1) rfl
      have xX33 := X3.at (i := 3) (v := .int .i64 E1) rfl
      have xX40 := X4.at (i := 0) (v := .int .i64 0) rfl
      have xX41 := X4.at (i := 1) (v := .bool s2) rfl
      have xX42 := X4.at (i := 2) (v := .int .u64 M2) rfl
      have xX43 := X4.at (i := 3) (v := .int .i64 E2) rfl
      go_wp2
      clear xXR0 zXR0 xXR1 zXR1 xXR2 zXR2 xXR3 zXR3 xX30 xX31 xX32 xX33 xX40 xX41 xX42 xX43
      have SX := StN.mk4 XR (.int .i64 0) (.bool s1) (.int .u64 M1) (.int .i64 E1)
      replace X3 := X3.stn SX (by omega)
      replace X4 := X4.stn SX (by omega)
      replace HB := Lib.hid (SX.below HB.out (by omega))
      replace XR := SX.box
      clear SX
      generalize (World.setCell (World.setCell (World.setCell (World.setCell w4 ⟨w.heap.size + 1 + 1, 0, none⟩ (.int .i64 0)) ⟨w.heap.size + 1 + 1, 1, none⟩ (.bool s1)) ⟨w.heap.size + 1 + 1, 2, none⟩ (.int .u64 M1)) ⟨w.heap.size + 1 + 1, 3, none⟩ (.int .i64 E1)) = w5 at *
      have r0 := XR.cell 0
      have r1 := XR.cell 1
      have r2 := XR.cell 2
      have r3 := XR.cell 3
      exact bodyPost_ret (v := .agg #[.int .i64 0, .bool s1, .int .u64 M1, .int .i64 E1]) (by simp [results, Tryd.results13, go_sem, r0, r1, r2, r3]) rfl ⟨_, _, _, _, rfl, q1, HB.out⟩
    · rw [z1.1 rfl, addp_comm, addp_zero up d2.1 d2.2] at hr
      subst hr
      clear i1 i2 z1 z2 d1 d2 q1
      have xXR0 := XR.at (i := 0) (v := .int .i64 0) rfl
      have zXR0 := XR.frozen 0
      have xXR1 := XR.at (i := 1) (v := .bool false) rfl
      have zXR1 := XR.frozen 1
      have xXR2 := XR.at (i := 2) (v := .int .u64 0) rfl
      have zXR2 := XR.frozen 2
      have xXR3 := XR.at (i := 3) (v := .int .i64 0) rfl
      have zXR3 := XR.frozen 3
      have xX30 := X3.at (i := 0) (v := .int .i64 0) rfl
      have xX31 := X3.at (i := 1) (v := .bool s1) rfl
      have xX32 := X3.at (i := 2) (v := .int .u64 M1) rfl
      have xX33 := X3.at (i := 3) (v := .int .i64 E1) rfl
      have xX40 := X4.at (i := 0) (v := .int .i64 1) rfl
      have xX41 := X4.at (i := 1) (v := .bool s2) rfl
      have xX42 := X4.at (i := 2) (v := .int .u64 M2) rfl
      have xX43 := X4.at (i := 3) (v := .int .i64 E2) rfl
      go_wp2
      clear xXR0 zXR0 xXR1 zXR1 xXR2 zXR2 xXR3 zXR3 xX30 xX31 xX32 xX33 xX40 xX41 xX42 xX43
      have SX := StN.mk4 XR (.int .i64 1) (.bool s2) (.int .u64 M2) (.int .i64 E2)
      replace X3 := X3.stn SX (by omega)
      replace X4 := X4.stn SX (by omega)
      replace HB := Lib.hid (SX.below HB.out (by omega))
      replace XR := SX.box
      clear SX
      generalize (World.setCell (World.setCell (World.setCell (World.setCell w4 ⟨w.heap.size + 1 + 1, 0, none⟩ (.int .i64 1)) ⟨w.heap.size + 1 + 1, 1, none⟩ (.bool s2)) ⟨w.heap.size + 1 + 1, 2, none⟩ (.int .u64 M2)) ⟨w.heap.size + 1 + 1, 3, none⟩ (.int .i64 E2)) = w5 at *
      have r0 := XR.cell 0
      have r1 := XR.cell 1
      have r2 := XR.cell 2
      have r3 := XR.cell 3
      exact bodyPost_ret (v := .agg #[.int .i64 1, .bool s2, .int .u64 M2, .int .i64 E2]) (by simp [results, Tryd.results13, go_sem, r0, r1, r2, r3]) rfl ⟨_, _, _, _, rfl, q2, HB.out⟩
  · rcases kk2 with rfl | rfl | rfl
    · rw [addp_ft up i1 i2] at hr
      subst hr
      clear i1 i2 z1 z2 d1 d2 q1
      have xXR0 := XR.at (i := 0) (v := .int .i64 0) rfl
      have zXR0 := XR.frozen 0
      have xXR1 := XR.at (i := 1) (v := .bool false) rfl
      have zXR1 := XR.frozen 1
      have xXR2 := XR.at (i := 2) (v := .int .u64 0) rfl
      have zXR2 := XR.frozen 2
      have xXR3 := XR.at (i := 3) (v := .int .i64 0) rfl
      have zXR3 := XR.frozen 3
      have xX30 := X3.at (i := 0) (v := .int .i64 1) rfl
      have xX31 := X3.at (i := 1) (v := .bool s1) rfl
      have xX32 := X3.at (i := 2) (v := .int .u64 M1) rfl
      have xX33 := X3.at (i := 3) (v := .int .i64 E1) rfl
      have xX40 := X4.at (i := 0) (v := .int .i64 2) rfl
      have xX41 := X4.at (i := 1) (v := .bool s2) rfl
      have xX42 := X4.at (i := 2) (v := .int .u64 M2) rfl
      have xX43 := X4.at (i := 3) (v := .int .i64 E2) rfl
      go_wp2
      clear xXR0 zXR0 xXR1 zXR1 xXR2 zXR2 xXR3 zXR3 xX30 xX31 xX32 xX33 xX40 xX41 xX42 xX43
      have SX := StN.mk4 XR (.int .i64 2) (.bool s2) (.int .u64 M2) (.int .i64 E2)
      replace X3 := X3.stn SX (by omega)
      replace X4 := X4.stn SX (by omega)
      replace HB := Lib.hid (SX.below HB.out (by omega))
      replace XR := SX.box
      clear SX
      generalize (World.setCell (World.setCell (World.setCell (World.setCell w4 ⟨w.heap.size + 1 + 1, 0, none⟩ (.int .i64 2)) ⟨w.heap.size + 1 + 1, 1, none⟩ (.bool s2)) ⟨w.heap.size + 1 + 1, 2, none⟩ (.int .u64 M2)) ⟨w.heap.size + 1 + 1, 3, none⟩ (.int .i64 E2)) = w5 at *
      have r0 := XR.cell 0
      have r1 := XR.cell 1
      have r2 := XR.cell 2
      have r3 := XR.cell 3
      exact bodyPost_ret (v := .agg #[.int .i64 2, .bool s2, .int .u64 M2, .int .i64 E2]) (by simp [results, Tryd.results13, go_sem, r0, r1, r2, r3]) rfl ⟨_, _, _, _, rfl, q2, HB.out⟩
    · rw [z2.1 rfl, addp_zero up d1.1 d1.2] at hr
      subst hr
      clear i1 i2 z1 z2 d1 d2 q2
      have xXR0 := XR.at (i := 0) (v := .int .i64 0) rfl
      have zXR0 := XR.frozen 0
      have xXR1 := XR.at (i := 1) (v := .bool false) rfl
      have zXR1 := XR.frozen 1
      have xXR2 := XR.at (i := 2) (v := .int .u64 0) rfl
      have zXR2 := XR.frozen 2
      have xXR3 := XR.at (i := 3) (v := .int .i64 0) rfl
      have zXR3 := XR.frozen 3
      have xX30 := X3.at (i := 0) (v := .int .i64 1) rfl
      have xX31 := X3.at (i := 1) (v := .bool s1) rfl
      have xX32 := X3.at (i := 2) (v := .int .u64 M1) rfl
      have xX33 := X3.at (i := 3) (v := .int .i64 E1) rfl
      have xX40 := X4.at (i := 0) (v := .int .i64 0) rfl
      have xX41 := X4.at (i := 1) (v := .bool s2) rfl
      have xX42 := X4.at (i := 2) (v := .int .u64 M2) rfl
      have xX43 := X4.at (i := 3) (v := .int .i64 E2) rfl
      go_wp2
      clear xXR0 zXR0 xXR1 zXR1 xXR2 zXR2 xXR3 zXR3 xX30 xX31 xX32 xX33 xX40 xX41 xX42 xX43
      have SX := StN.mk4 XR (.int .i64 1) (.bool s1) (.int .u64 M1) (.int .i64 E1)
      replace X3 := X3.stn SX (by omega)
      replace X4 := X4.stn SX (by omega)
      replace HB := Lib.hid (SX.below HB.out (by omega))
      replace XR := SX.box
      clear SX
      generalize (World.setCell (World.setCell (World.setCell (World.setCell w4 ⟨w.heap.size + 1 + 1, 0, none⟩ (.int .i64 1)) ⟨w.heap.size + 1 + 1, 1, none⟩ (.bool s1)) ⟨w.heap.size + 1 + 1, 2, none⟩ (.int .u64 M1)) ⟨w.heap.size + 1 + 1, 3, none⟩ (.int .i64 E1)) = w5 at *
      have r0 := XR.cell 0
      have r1 := XR.cell 1
      have r2 := XR.cell 2
      have r3 := XR.cell 3
      exact bodyPost_ret (v := .agg #[.int .i64 1, .bool s1, .int .u64 M1, .int .i64 E1]) (by simp [results, Tryd.results13, go_sem, r0, r1, r2, r3]) rfl ⟨_, _, _, _, rfl, q1, HB.out⟩
    · have HRR := Lib.hid hr
      clear i1 i2 z1 z2 d1 d2 hr
      have xX30 := X3.at (i := 0) (v := .int .i64 1) rfl
      have xX31 := X3.at (i := 1) (v := .bool s1) rfl
      have xX32 := X3.at (i := 2) (v := .int .u64 M1) rfl
      have xX33 := X3.at (i := 3) (v := .int .i64 E1) rfl
      have xX40 := X4.at (i := 0) (v := .int .i64 1) rfl
      have xX41 := X4.at (i := 1) (v := .bool s2) rfl
      have xX42 := X4.at (i := 2) (v := .int .u64 M2) rfl
      have xX43 := X4.at (i := 3) (v := .int .i64 E2) rfl
      go_wp2_with fail
      refine (aSum2 hT q1 q2).mono ?_
      rintro ee w5 ⟨s3, H3, L3, x3, rfl, p3, B⟩
      clear xX30 xX31 xX32 xX33 xX40 xX41 xX42 xX43
      replace X3 := X3.below B
      replace X4 := X4.below B
      replace XR := XR.below B
      replace hT := hT.below B
      replace HB := Lib.hid (bt HB.out B)
      clear B
      go_wp2_with fail
      refine (aRound p3 HRR.out).mono ?_
      rintro ee w6 ⟨K4, s4, M4, E4, rfl, q4, B⟩
      replace X3 := X3.below B
      replace X4 := X4.below B
      replace XR := XR.below B
      replace HB := Lib.hid (bt HB.out B)
      clear B
      have xXR0 := XR.at (i := 0) (v := .int .i64 0) rfl
      have zXR0 := XR.frozen 0
      have xXR1 := XR.at (i := 1) (v := .bool false) rfl
      have zXR1 := XR.frozen 1
      have xXR2 := XR.at (i := 2) (v := .int .u64 0) rfl
      have zXR2 := XR.frozen 2
      have xXR3 := XR.at (i := 3) (v := .int .i64 0) rfl
      have zXR3 := XR.frozen 3
      go_wp2
      clear xXR0 zXR0 xXR1 zXR1 xXR2 zXR2 xXR3 zXR3
      have SX := StN.mk4 XR (.int .i64 K4) (.bool s4) (.int .u64 M4) (.int .i64 E4)
      replace X3 := X3.stn SX (by omega)
      replace X4 := X4.stn SX (by omega)
      replace HB := Lib.hid (SX.below HB.out (by omega))
      replace XR := SX.box
      clear SX
      generalize (World.setCell (World.setCell (World.setCell (World.setCell w6 ⟨w.heap.size + 1 + 1, 0, none⟩ (.int .i64 K4)) ⟨w.heap.size + 1 + 1, 1, none⟩ (.bool s4)) ⟨w.heap.size + 1 + 1, 2, none⟩ (.int .u64 M4)) ⟨w.heap.size + 1 + 1, 3, none⟩ (.int .i64 E4)) = w7 at *
      have r0 := XR.cell 0
      have r1 := XR.cell 1
      have r2 := XR.cell 2
      have r3 := XR.cell 3
      exact bodyPost_ret (v := .agg #[.int .i64 K4, .bool s4, .int .u64 M4, .int .i64 E4]) (by simp [results, Tryd.results13, go_sem, r0, r1, r2, r3]) rfl ⟨_, _, _, _, rfl, q4, HB.out⟩
set_option maxHeartbeats 8000000 in
theorem aMul {w : World} {D D' M M' E E' : Int} {s s' : Bool} {up : Bool} {x y r : Int} (hM : M < 18446744073709551616) (hM' : M' < 18446744073709551616) (hx : rk D s M E = x) (hy : rk D' s' M' E' = y) (hr : mulp up x y = r) : Calls Tryd.prog 18 #[.agg #[.int .i64 D, .bool s, .int .u64 M, .int .i64 E], .agg #[.int .i64 D', .bool s', .int .u64 M', .int .i64 E'], .bool up] w (PN w r) := by
  obtain ⟨K1, s1, M1, E1, q1⟩ := fq_tk (D := D) (s := s) (M := M) (E := E) hM
  obtain ⟨K2, s2, M2, E2, q2⟩ := fq_tk (D := D') (s := s') (M := M') (E := E') hM'
  rw [hx] at q1
  rw [hy] at q2
  have HX := Lib.hid hx
  have HY := Lib.hid hy
  clear hx hy
  go_enter Tryd.func18, Tryd.ntmps18
  go_upto_region 1 with (fail)
  have X3 := (Bo.newAt w (g := w.heap.size) (by simp) #[.int .i64 D, .bool s, .int .u64 M, .int .i64 E] 24).below (bel2 _ (.cells #[.int .i64 D', .bool s', .int .u64 M', .int .i64 E'] 24) (.cells #[.int .i64 0, .bool false, .int .u64 0, .int .i64 0] 24))
  have X4 := (Bo.newAt (w.alloc (.cells #[.int .i64 D, .bool s, .int .u64 M, .int .i64 E] 24)) (g := w.heap.size + 1) (by simp) #[.int .i64 D', .bool s', .int .u64 M', .int .i64 E'] 24).below (bel1 _ (.cells #[.int .i64 0, .bool false, .int .u64 0, .int .i64 0] 24))
  have XR := (Bo.newAt ((w.alloc (.cells #[.int .i64 D, .bool s, .int .u64 M, .int .i64 E] 24)).alloc (.cells #[.int .i64 D', .bool s', .int .u64 M', .int .i64 E'] 24)) (g := w.heap.size + 1 + 1) (by simp) #[.int .i64 0, .bool false, .int .u64 0, .int .i64 0] 24)
  have HB := Lib.hid (bel3 w (.cells #[.int .i64 D, .bool s, .int .u64 M, .int .i64 E] 24) (.cells #[.int .i64 D', .bool s', .int .u64 M', .int .i64 E'] 24) (.cells #[.int .i64 0, .bool false, .int .u64 0, .int .i64 0] 24))
  generalize hW1 : (((w.alloc (.cells #[.int .i64 D, .bool s, .int .u64 M, .int .i64 E] 24)).alloc (.cells #[.int .i64 D', .bool s', .int .u64 M', .int .i64 E'] 24)).alloc (.cells #[.int .i64 0, .bool false, .int .u64 0, .int .i64 0] 24)) = w1 at *
  clear hW1
  refine Jo.region_joint (T := [0, 1, 2, 3]) (ds := [some 7, some 8, some 9, some 10, none, none]) (ls := [[], [0], [], [2], [], []]) (k := 6) (L := [(some 7, 0), (some 8, 1), (some 9, 2), (some 10, 3)]) (fuel := 2) (J := fun wj => Below (World.heap w1).size w1 wj)
    (F := [Jo.Fact.eq (.agg #[.int .i64 D, .bool s, .int .u64 M, .int .i64 E]), Jo.Fact.eq (.agg #[.int .i64 K1, .bool s1, .int .u64 M1, .int .i64 E1]), Jo.Fact.eq (.agg #[.int .i64 D', .bool s', .int .u64 M', .int .i64 E']), Jo.Fact.eq (.agg #[.int .i64 K2, .bool s2, .int .u64 M2, .int .i64 E2]), Jo.Fact.any, Jo.Fact.any])
    (by kernel_rfl) (by kernel_rfl) (by decide) rfl rfl (fun _ _ h b => bt h b) ((Below.refl _ _).drew) ?_ (fun vs w2 hJ hd => ?_)
  · refine Jo.jcons (i := 0) (o := ⟨some 7, _, _, _, _, _⟩) (di := some 7) (L := []) (f := Jo.Fact.eq (.agg #[.int .i64 D, .bool s, .int .u64 M, .int .i64 E])) rfl rfl rfl rfl (fun vs wj hJ hd K hK => ?_) ?_
    · clear hd
      simp only [Jo.putl, List.foldl_nil, Act.put, List.setIfInBounds_toArray, List.set_cons_zero, List.set_cons_succ] at hK ⊢
      have xX30 : World.cell? wj ⟨w.heap.size, 0, none⟩ = some (.int .i64 D) := (X3.below hJ).cell 0
      have xX31 : World.cell? wj ⟨w.heap.size, 1, none⟩ = some (.bool s) := (X3.below hJ).cell 1
      have xX32 : World.cell? wj ⟨w.heap.size, 2, none⟩ = some (.int .u64 M) := (X3.below hJ).cell 2
      have xX33 : World.cell? wj ⟨w.heap.size, 3, none⟩ = some (.int .i64 E) := (X3.below hJ).cell 3
      go_simp
      exact hK.out _ _ rfl (Below.refl _ _)
    refine Jo.jcons (i := 1) (o := ⟨some 8, _, _, _, _, _⟩) (di := some 8) (L := [(some 7, 0)]) (f := Jo.Fact.eq (.agg #[.int .i64 K1, .bool s1, .int .u64 M1, .int .i64 E1])) rfl rfl rfl rfl (fun vs wj hJ hd K hK => ?_) ?_
    · have d0 : (Jo.Fact.eq (.agg #[.int .i64 D, .bool s, .int .u64 M, .int .i64 E])).P (vs 0) wj := hd 0 (by decide)
      clear hd
      simp only [Jo.putl, List.foldl_cons, List.foldl_nil, Act.put, List.setIfInBounds_toArray, List.set_cons_zero, List.set_cons_succ] at hK ⊢
      generalize vs 0 = u0 at hK d0 ⊢
      replace d0 : u0 = _ := d0
      subst d0
      go_simp
      refine (aTaken hM q1 HX.out).mono ?_
      rintro ee wk ⟨rfl, B⟩
      exact hK.out _ _ rfl B
    refine Jo.jcons (i := 2) (o := ⟨some 9, _, _, _, _, _⟩) (di := some 9) (L := []) (f := Jo.Fact.eq (.agg #[.int .i64 D', .bool s', .int .u64 M', .int .i64 E'])) rfl rfl rfl rfl (fun vs wj hJ hd K hK => ?_) ?_
    · clear hd
      simp only [Jo.putl, List.foldl_nil, Act.put, List.setIfInBounds_toArray, List.set_cons_zero, List.set_cons_succ] at hK ⊢
      have xX40 : World.cell? wj ⟨w.heap.size + 1, 0, none⟩ = some (.int .i64 D') := (X4.below hJ).cell 0
      have xX41 : World.cell? wj ⟨w.heap.size + 1, 1, none⟩ = some (.bool s') := (X4.below hJ).cell 1
      have xX42 : World.cell? wj ⟨w.heap.size + 1, 2, none⟩ = some (.int .u64 M') := (X4.below hJ).cell 2
      have xX43 : World.cell? wj ⟨w.heap.size + 1, 3, none⟩ = some (.int .i64 E') := (X4.below hJ).cell 3
      go_simp
      exact hK.out _ _ rfl (Below.refl _ _)
    refine Jo.jcons (i := 3) (o := ⟨some 10, _, _, _, _, _⟩) (di := some 10) (L := [(some 9, 2)]) (f := Jo.Fact.eq (.agg #[.int .i64 K2, .bool s2, .int .u64 M2, .int .i64 E2])) rfl rfl rfl rfl (fun vs wj hJ hd K hK => ?_) ?_
    · have d2 : (Jo.Fact.eq (.agg #[.int .i64 D', .bool s', .int .u64 M', .int .i64 E'])).P (vs 2) wj := hd 2 (by decide)
      clear hd
      simp only [Jo.putl, List.foldl_cons, List.foldl_nil, Act.put, List.setIfInBounds_toArray, List.set_cons_zero, List.set_cons_succ] at hK ⊢
      generalize vs 2 = u2 at hK d2 ⊢
      replace d2 : u2 = _ := d2
      subst d2
      go_simp
      refine (aTaken hM' q2 HY.out).mono ?_
      rintro ee wk ⟨rfl, B⟩
      exact hK.out _ _ rfl B
    exact Jo.Steps.nil
  have d0 : (Jo.Fact.eq (.agg #[.int .i64 D, .bool s, .int .u64 M, .int .i64 E])).P (vs 0) w2 := hd 0 (by decide)
  have d1 : (Jo.Fact.eq (.agg #[.int .i64 K1, .bool s1, .int .u64 M1, .int .i64 E1])).P (vs 1) w2 := hd 1 (by decide)
  have d2 : (Jo.Fact.eq (.agg #[.int .i64 D', .bool s', .int .u64 M', .int .i64 E'])).P (vs 2) w2 := hd 2 (by decide)
  have d3 : (Jo.Fact.eq (.agg #[.int .i64 K2, .bool s2, .int .u64 M2, .int .i64 E2])).P (vs 3) w2 := hd 3 (by decide)
  clear hd
  simp only [Jo.putl, List.foldl_cons, List.foldl_nil, Act.put, List.setIfInBounds_toArray, List.set_cons_zero, List.set_cons_succ]
  generalize vs 0 = u0 at d0 ⊢
  generalize vs 1 = u1 at d1 ⊢
  generalize vs 2 = u2 at d2 ⊢
  generalize vs 3 = u3 at d3 ⊢
  clear vs
  replace d0 : u0 = _ := d0
  subst d0
  replace d1 : u1 = _ := d1
  subst d1
  replace d2 : u2 = _ := d2
  subst d2
  replace d3 : u3 = _ := d3
  subst d3
  replace X3 := X3.below hJ
  replace X4 := X4.below hJ
  replace XR := XR.below hJ
  replace HB := Lib.hid (bt HB.out hJ)
  have xX30 := X3.at (i := 0) (v := .int .i64 D) rfl
  have zX30 := X3.frozen 0
  have xX31 := X3.at (i := 1) (v := .bool s) rfl
  have zX31 := X3.frozen 1
  have xX32 := X3.at (i := 2) (v := .int .u64 M) rfl
  have zX32 := X3.frozen 2
  have xX33 := X3.at (i := 3) (v := .int .i64 E) rfl
  have zX33 := X3.frozen 3
  refine Jo.jnext (i := 4) (o := ⟨none, _, _, _, _, _⟩) (by kernel_rfl) rfl (fun K hK => ?_)
  go_simp
  refine hK.out _ _ ?_
  clear hK K xX30 zX30 xX31 zX31 xX32 zX32 xX33 zX33
  have SX := StN.mk4 X3 (.int .i64 K1) (.bool s1) (.int .u64 M1) (.int .i64 E1)
  replace X4 := X4.stn SX (by omega)
  replace XR := XR.stn SX (by omega)
  replace HB := Lib.hid (SX.below HB.out (by omega))
  replace X3 := SX.box
  clear SX
  generalize (World.setCell (World.setCell (World.setCell (World.setCell w2 ⟨w.heap.size, 0, none⟩ (.int .i64 K1)) ⟨w.heap.size, 1, none⟩ (.bool s1)) ⟨w.heap.size, 2, none⟩ (.int .u64 M1)) ⟨w.heap.size, 3, none⟩ (.int .i64 E1)) = w3 at *
  have xX40 := X4.at (i := 0) (v := .int .i64 D') rfl
  have zX40 := X4.frozen 0
  have xX41 := X4.at (i := 1) (v := .bool s') rfl
  have zX41 := X4.frozen 1
  have xX42 := X4.at (i := 2) (v := .int .u64 M') rfl
  have zX42 := X4.frozen 2
  have xX43 := X4.at (i := 3) (v := .int .i64 E') rfl
  have zX43 := X4.frozen 3
  refine Jo.jnext (i := 5) (o := ⟨none, _, _, _, _, _⟩) (by kernel_rfl) rfl (fun K hK => ?_)
  go_simp
  refine hK.out _ _ ?_
  clear hK K xX40 zX40 xX41 zX41 xX42 zX42 xX43 zX43
  have SX := StN.mk4 X4 (.int .i64 K2) (.bool s2) (.int .u64 M2) (.int .i64 E2)
  replace X3 := X3.stn SX (by omega)
  replace XR := XR.stn SX (by omega)
  replace HB := Lib.hid (SX.below HB.out (by omega))
  replace X4 := SX.box
  clear SX
  generalize (World.setCell (World.setCell (World.setCell (World.setCell w3 ⟨w.heap.size + 1, 0, none⟩ (.int .i64 K2)) ⟨w.heap.size + 1, 1, none⟩ (.bool s2)) ⟨w.heap.size + 1, 2, none⟩ (.int .u64 M2)) ⟨w.heap.size + 1, 3, none⟩ (.int .i64 E2)) = w4 at *
  refine Jo.jdone (by kernel_rfl) ?_
  clear HX HY hM hM'
  have i1 := fq_inf q1
  have i2 := fq_inf q2
  have z1 := q1.zero_iff
  have z2 := q2.zero_iff
  have d1 := q1.bd
  have d2 := q2.bd
  have kk1 : K1 = 2 ∨ K1 = 0 ∨ K1 = 1 := by rcases q1.cases with ⟨h, _⟩ | ⟨h, _⟩ | ⟨h, _⟩ <;> omega
  have kk2 : K2 = 2 ∨ K2 = 0 ∨ K2 = 1 := by rcases q2.cases with ⟨h, _⟩ | ⟨h, _⟩ | ⟨h, _⟩ <;> omega
  rcases kk1 with rfl | rfl | rfl
  · rcases kk2 with rfl | rfl | rfl
    · have hnz : ¬ (x = 0 ∨ y = 0) := fun c => c.elim (fun c => absurd (z1.2 c) (by decide)) (fun c => absurd (z2.2 c) (by decide))
      have sx : decide (x < 0) = s1 := by
        rcases q1.three with ⟨a, _⟩ | ⟨_, rfl, b⟩ | ⟨_, rfl, b⟩
        · exact absurd a (by decide)
        · exact decide_eq_false (by omega)
        · exact decide_eq_true b
      have sy : decide (y < 0) = s2 := by
        rcases q2.three with ⟨a, _⟩ | ⟨_, rfl, b⟩ | ⟨_, rfl, b⟩
        · exact absurd a (by decide)
        · exact decide_eq_false (by omega)
        · exact decide_eq_true b
      rw [mulp_inf up hnz (.inl i1), sx, sy] at hr
      have HRR := Lib.hid hr
      clear i1 i2 z1 z2 d1 d2 q1 q2 hr sx sy hnz
      have xX30 := X3.at (i := 0) (v := .int .i64 2) rfl
      have xX31 := X3.at (i := 1) (v := .bool s1) rfl
      have xX32 := X3.at (i := 2) (v := .int .u64 M1) rfl
      have xX33 := X3.at (i := 3) (v := .int .i64 E1) rfl
      have xX40 := X4.at (i := 0) (v := .int .i64 2) rfl
      have xX41 := X4.at (i := 1) (v := .bool s2) rfl
      have xX42 := X4.at (i := 2) (v := .int .u64 M2) rfl
      have xX43 := X4.at (i := 3) (v := .int .i64 E2) rfl
      go_wp2_with fail
      refine (nInf (s := s1 != s2) HRR.out).mono ?_
      rintro ee w5 ⟨K3, s3, M3, E3, rfl, q3, B⟩
      clear xX30 xX31 xX32 xX33 xX40 xX41 xX42 xX43
      replace X3 := X3.below B
      replace X4 := X4.below B
      replace XR := XR.below B
      replace HB := Lib.hid (bt HB.out B)
      clear B
      have xXR0 := XR.at (i := 0) (v := .int .i64 0) rfl
      have zXR0 := XR.frozen 0
      have xXR1 := XR.at (i := 1) (v := .bool false) rfl
      have zXR1 := XR.frozen 1
      have xXR2 := XR.at (i := 2) (v := .int .u64 0) rfl
      have zXR2 := XR.frozen 2
      have xXR3 := XR.at (i := 3) (v := .int .i64 0) rfl
      have zXR3 := XR.frozen 3
      go_wp2
      clear xXR0 zXR0 xXR1 zXR1 xXR2 zXR2 xXR3 zXR3
      have SX := StN.mk4 XR (.int .i64 K3) (.bool s3) (.int .u64 M3) (.int .i64 E3)
      replace X3 := X3.stn SX (by omega)
      replace X4 := X4.stn SX (by omega)
      replace HB := Lib.hid (SX.below HB.out (by omega))
      replace XR := SX.box
      clear SX
      generalize (World.setCell (World.setCell (World.setCell (World.setCell w5 ⟨w.heap.size + 1 + 1, 0, none⟩ (.int .i64 K3)) ⟨w.heap.size + 1 + 1, 1, none⟩ (.bool s3)) ⟨w.heap.size + 1 + 1, 2, none⟩ (.int .u64 M3)) ⟨w.heap.size + 1 + 1, 3, none⟩ (.int .i64 E3)) = w6 at *
      have r0 := XR.cell 0
      have r1 := XR.cell 1
      have r2 := XR.cell 2
      have r3 := XR.cell 3
      exact bodyPost_ret (v := .agg #[.int .i64 K3, .bool s3, .int .u64 M3, .int .i64 E3]) (by simp [results, Tryd.results18, go_sem, r0, r1, r2, r3]) rfl ⟨_, _, _, _, rfl, q3, HB.out⟩
    · rw [mulp_zero up (.inr (z2.1 rfl))] at hr
      subst hr
      clear i1 i2 z1 z2 d1 d2 q1 q2
      have xXR0 := XR.at (i := 0) (v := .int .i64 0) rfl
      have zXR0 := XR.frozen 0
      have xXR1 := XR.at (i := 1) (v := .bool false) rfl
      have zXR1 := XR.frozen 1
      have xXR2 := XR.at (i := 2) (v := .int .u64 0) rfl
      have zXR2 := XR.frozen 2
      have xXR3 := XR.at (i := 3) (v := .int .i64 0) rfl
      have zXR3 := XR.frozen 3
      have xX30 := X3.at (i := 0) (v := .int .i64 2) rfl
      have xX31 := X3.at (i := 1) (v := .bool s1) rfl
      have xX32 := X3.at (i := 2) (v := .int .u64 M1) rfl
      have xX33 := X3.at (i := 3) (v := .int .i64 E1) rfl
      have xX40 := X4.at (i := 0) (v := .int .i64 0) rfl
      have xX41 := X4.at (i := 1) (v := .bool s2) rfl
      have xX42 := X4.at (i := 2) (v := .int .u64 M2) rfl
      have xX43 := X4.at (i := 3) (v := .int .i64 E2) rfl
      go_wp2
      clear xXR0 zXR0 xXR1 zXR1 xXR2 zXR2 xXR3 zXR3 xX30 xX31 xX32 xX33 xX40 xX41 xX42 xX43
      have SX := StN.mk4 XR (.int .i64 0) (.bool false) (.int .u64 0) (.int .i64 0)
      replace X3 := X3.stn SX (by omega)
      replace X4 := X4.stn SX (by omega)
      replace HB := Lib.hid (SX.below HB.out (by omega))
      replace XR := SX.box
      clear SX
      generalize (World.setCell (World.setCell (World.setCell (World.setCell w4 ⟨w.heap.size + 1 + 1, 0, none⟩ (.int .i64 0)) ⟨w.heap.size + 1 + 1, 1, none⟩ (.bool false)) ⟨w.heap.size + 1 + 1, 2, none⟩ (.int .u64 0)) ⟨w.heap.size + 1 + 1, 3, none⟩ (.int .i64 0)) = w5 at *
      have r0 := XR.cell 0
      have r1 := XR.cell 1
      have r2 := XR.cell 2
      have r3 := XR.cell 3
      exact bodyPost_ret (v := .agg #[.int .i64 0, .bool false, .int .u64 0, .int .i64 0]) (by simp [results, Tryd.results18, go_sem, r0, r1, r2, r3]) rfl ⟨_, _, _, _, rfl, Fq.nought, HB.out⟩
    · have hnz : ¬ (x = 0 ∨ y = 0) := fun c => c.elim (fun c => absurd (z1.2 c) (by decide)) (fun c => absurd (z2.2 c) (by decide))
      have sx : decide (x < 0) = s1 := by
        rcases q1.three with ⟨a, _⟩ | ⟨_, rfl, b⟩ | ⟨_, rfl, b⟩
        · exact absurd a (by decide)
        · exact decide_eq_false (by omega)
        · exact decide_eq_true b
      have sy : decide (y < 0) = s2 := by
        rcases q2.three with ⟨a, _⟩ | ⟨_, rfl, b⟩ | ⟨_, rfl, b⟩
        · exact absurd a (by decide)
        · exact decide_eq_false (by omega)
        · exact decide_eq_true b
      rw [mulp_inf up hnz (.inl i1), sx, sy] at hr
      have HRR := Lib.hid hr
      clear i1 i2 z1 z2 d1 d2 q1 q2 hr sx sy hnz
      have xX30 := X3.at (i := 0) (v := .int .i64 2) rfl
      have xX31 := X3.at (i := 1) (v := .bool s1) rfl
      have xX32 := X3.at (i := 2) (v := .int .u64 M1) rfl
      have xX33 := X3.at (i := 3) (v := .int .i64 E1) rfl
      have xX40 := X4.at (i := 0) (v := .int .i64 1) rfl
      have xX41 := X4.at (i := 1) (v := .bool s2) rfl
      have xX42 := X4.at (i := 2) (v := .int .u64 M2) rfl
      have xX43 := X4.at (i := 3) (v := .int .i64 E2) rfl
      go_wp2_with fail
      refine (nInf (s := s1 != s2) HRR.out).mono ?_
      rintro ee w5 ⟨K3, s3, M3, E3, rfl, q3, B⟩
      clear xX30 xX31 xX32 xX33 xX40 xX41 xX42 xX43
      replace X3 := X3.below B
      replace X4 := X4.below B
      replace XR := XR.below B
      replace HB := Lib.hid (bt HB.out B)
      clear B
      have xXR0 := XR.at (i := 0) (v := .int .i64 0) rfl
      have zXR0 := XR.frozen 0
      have xXR1 := XR.at (i := 1) (v := .bool false) rfl
      have zXR1 := XR.frozen 1
      have xXR2 := XR.at (i := 2) (v := .int .u64 0) rfl
      have zXR2 := XR.frozen 2
      have xXR3 := XR.at (i := 3) (v := .int .i64 0) rfl
      have zXR3 := XR.frozen 3
      go_wp2
      clear xXR0 zXR0 xXR1 zXR1 xXR2 zXR2 xXR3 zXR3
      have SX := StN.mk4 XR (.int .i64 K3) (.bool s3) (.int .u64 M3) (.int .i64 E3)
      replace X3 := X3.stn SX (by omega)
      replace X4 := X4.stn SX (by omega)
      replace HB := Lib.hid (SX.below HB.out (by omega))
      replace XR := SX.box
      clear SX
      generalize (World.setCell (World.setCell (World.setCell (World.setCell w5 ⟨w.heap.size + 1 + 1, 0, none⟩ (.int .i64 K3)) ⟨w.heap.size + 1 + 1, 1, none⟩ (.bool s3)) ⟨w.heap.size + 1 + 1, 2, none⟩ (.int .u64 M3)) ⟨w.heap.size + 1 + 1, 3, none⟩ (.int .i64 E3)) = w6 at *
      have r0 := XR.cell 0
      have r1 := XR.cell 1
      have r2 := XR.cell 2
      have r3 := XR.cell 3
      exact bodyPost_ret (v := .agg #[.int .i64 K3, .bool s3, .int .u64 M3, .int .i64 E3]) (by simp [results, Tryd.results18, go_sem, r0, r1, r2, r3]) rfl ⟨_, _, _, _, rfl, q3, HB.out⟩
  · rcases kk2 with rfl | rfl | rfl
    · rw [mulp_zero up (.inl (z1.1 rfl))] at hr
      subst hr
      clear i1 i2 z1 z2 d1 d2 q1 q2
      have xXR0 := XR.at (i := 0) (v := .int .i64 0) rfl
      have zXR0 := XR.frozen 0
      have xXR1 := XR.at (i := 1) (v := .bool false) rfl
      have zXR1 := XR.frozen 1
      have xXR2 := XR.at (i := 2) (v := .int .u64 0) rfl
      have zXR2 := XR.frozen 2
      have xXR3 := XR.at (i := 3) (v := .int .i64 0) rfl
      have zXR3 := XR.frozen 3
      have xX30 := X3.at (i := 0) (v := .int .i64 0) rfl
      have xX31 := X3.at (i := 1) (v := .bool s1) rfl
      have xX32 := X3.at (i := 2) (v := .int .u64 M1) rfl
      have xX33 := X3.at (i := 3) (v := .int .i64 E1) rfl
      have xX40 := X4.at (i := 0) (v := .int .i64 2) rfl
      have xX41 := X4.at (i := 1) (v := .bool s2) rfl
      have xX42 := X4.at (i := 2) (v := .int .u64 M2) rfl
      have xX43 := X4.at (i := 3) (v := .int .i64 E2) rfl
      go_wp2
      clear xXR0 zXR0 xXR1 zXR1 xXR2 zXR2 xXR3 zXR3 xX30 xX31 xX32 xX33 xX40 xX41 xX42 xX43
      have SX := StN.mk4 XR (.int .i64 0) (.bool false) (.int .u64 0) (.int .i64 0)
      replace X3 := X3.stn SX (by omega)
      replace X4 := X4.stn SX (by omega)
      replace HB := Lib.hid (SX.below HB.out (by omega))
      replace XR := SX.box
      clear SX
      generalize (World.setCell (World.setCell (World.setCell (World.setCell w4 ⟨w.heap.size + 1 + 1, 0, none⟩ (.int .i64 0)) ⟨w.heap.size + 1 + 1, 1, none⟩ (.bool false)) ⟨w.heap.size + 1 + 1, 2, none⟩ (.int .u64 0)) ⟨w.heap.size + 1 + 1, 3, none⟩ (.int .i64 0)) = w5 at *
      have r0 := XR.cell 0
      have r1 := XR.cell 1
      have r2 := XR.cell 2
      have r3 := XR.cell 3
      exact bodyPost_ret (v := .agg #[.int .i64 0, .bool false, .int .u64 0, .int .i64 0]) (by simp [results, Tryd.results18, go_sem, r0, r1, r2, r3]) rfl ⟨_, _, _, _, rfl, Fq.nought, HB.out⟩
    · rw [mulp_zero up (.inl (z1.1 rfl))] at hr
      subst hr
      clear i1 i2 z1 z2 d1 d2 q1 q2
      have xXR0 := XR.at (i := 0) (v := .int .i64 0) rfl
      have zXR0 := XR.frozen 0
      have xXR1 := XR.at (i := 1) (v := .bool false) rfl
      have zXR1 := XR.frozen 1
      have xXR2 := XR.at (i := 2) (v := .int .u64 0) rfl
      have zXR2 := XR.frozen 2
      have xXR3 := XR.at (i := 3) (v := .int .i64 0) rfl
      have zXR3 := XR.frozen 3
      have xX30 := X3.at (i := 0) (v := .int .i64 0) rfl
      have xX31 := X3.at (i := 1) (v := .bool s1) rfl
      have xX32 := X3.at (i := 2) (v := .int .u64 M1) rfl
      have xX33 := X3.at (i := 3) (v := .int .i64 E1) rfl
      have xX40 := X4.at (i := 0) (v := .int .i64 0) rfl
      have xX41 := X4.at (i := 1) (v := .bool s2) rfl
      have xX42 := X4.at (i := 2) (v := .int .u64 M2) rfl
      have xX43 := X4.at (i := 3) (v := .int .i64 E2) rfl
      go_wp2
      clear xXR0 zXR0 xXR1 zXR1 xXR2 zXR2 xXR3 zXR3 xX30 xX31 xX32 xX33 xX40 xX41 xX42 xX43
      have SX := StN.mk4 XR (.int .i64 0) (.bool false) (.int .u64 0) (.int .i64 0)
      replace X3 := X3.stn SX (by omega)
      replace X4 := X4.stn SX (by omega)
      replace HB := Lib.hid (SX.below HB.out (by omega))
      replace XR := SX.box
      clear SX
      generalize (World.setCell (World.setCell (World.setCell (World.setCell w4 ⟨w.heap.size + 1 + 1, 0, none⟩ (.int .i64 0)) ⟨w.heap.size + 1 + 1, 1, none⟩ (.bool false)) ⟨w.heap.size + 1 + 1, 2, none⟩ (.int .u64 0)) ⟨w.heap.size + 1 + 1, 3, none⟩ (.int .i64 0)) = w5 at *
      have r0 := XR.cell 0
      have r1 := XR.cell 1
      have r2 := XR.cell 2
      have r3 := XR.cell 3
      exact bodyPost_ret (v := .agg #[.int .i64 0, .bool false, .int .u64 0, .int .i64 0]) (by simp [results, Tryd.results18, go_sem, r0, r1, r2, r3]) rfl ⟨_, _, _, _, rfl, Fq.nought, HB.out⟩
    · rw [mulp_zero up (.inl (z1.1 rfl))] at hr
      subst hr
      clear i1 i2 z1 z2 d1 d2 q1 q2
      have xXR0 := XR.at (i := 0) (v := .int .i64 0) rfl
      have zXR0 := XR.frozen 0
      have xXR1 := XR.at (i := 1) (v := .bool false) rfl
      have zXR1 := XR.frozen 1
      have xXR2 := XR.at (i := 2) (v := .int .u64 0) rfl
      have zXR2 := XR.frozen 2
      have xXR3 := XR.at (i := 3) (v := .int .i64 0) rfl
      have zXR3 := XR.frozen 3
      have xX30 := X3.at (i := 0) (v := .int .i64 0) rfl
      have xX31 := X3.at (i := 1) (v := .bool s1) rfl
      have xX32 := X3.at (i := 2) (v := .int .u64 M1) rfl
      have xX33 := X3.at (i := 3) (v := .int .i64 E1) rfl
      have xX40 := X4.at (i := 0) (v := .int .i64 1) rfl
      have xX41 := X4.at (i := 1) (v := .bool s2) rfl
      have xX42 := X4.at (i := 2) (v := .int .u64 M2) rfl
      have xX43 := X4.at (i := 3) (v := .int .i64 E2) rfl
      go_wp2
      clear xXR0 zXR0 xXR1 zXR1 xXR2 zXR2 xXR3 zXR3 xX30 xX31 xX32 xX33 xX40 xX41 xX42 xX43
      have SX := StN.mk4 XR (.int .i64 0) (.bool false) (.int .u64 0) (.int .i64 0)
      replace X3 := X3.stn SX (by omega)
      replace X4 := X4.stn SX (by omega)
      replace HB := Lib.hid (SX.below HB.out (by omega))
      replace XR := SX.box
      clear SX
      generalize (World.setCell (World.setCell (World.setCell (World.setCell w4 ⟨w.heap.size + 1 + 1, 0, none⟩ (.int .i64 0)) ⟨w.heap.size + 1 + 1, 1, none⟩ (.bool false)) ⟨w.heap.size + 1 + 1, 2, none⟩ (.int .u64 0)) ⟨w.heap.size + 1 + 1, 3, none⟩ (.int .i64 0)) = w5 at *
      have r0 := XR.cell 0
      have r1 := XR.cell 1
      have r2 := XR.cell 2
      have r3 := XR.cell 3
      exact bodyPost_ret (v := .agg #[.int .i64 0, .bool false, .int .u64 0, .int .i64 0]) (by simp [results, Tryd.results18, go_sem, r0, r1, r2, r3]) rfl ⟨_, _, _, _, rfl, Fq.nought, HB.out⟩
  · rcases kk2 with rfl | rfl | rfl
    · have hnz : ¬ (x = 0 ∨ y = 0) := fun c => c.elim (fun c => absurd (z1.2 c) (by decide)) (fun c => absurd (z2.2 c) (by decide))
      have sx : decide (x < 0) = s1 := by
        rcases q1.three with ⟨a, _⟩ | ⟨_, rfl, b⟩ | ⟨_, rfl, b⟩
        · exact absurd a (by decide)
        · exact decide_eq_false (by omega)
        · exact decide_eq_true b
      have sy : decide (y < 0) = s2 := by
        rcases q2.three with ⟨a, _⟩ | ⟨_, rfl, b⟩ | ⟨_, rfl, b⟩
        · exact absurd a (by decide)
        · exact decide_eq_false (by omega)
        · exact decide_eq_true b
      rw [mulp_inf up hnz (.inr i2), sx, sy] at hr
      have HRR := Lib.hid hr
      clear i1 i2 z1 z2 d1 d2 q1 q2 hr sx sy hnz
      have xX30 := X3.at (i := 0) (v := .int .i64 1) rfl
      have xX31 := X3.at (i := 1) (v := .bool s1) rfl
      have xX32 := X3.at (i := 2) (v := .int .u64 M1) rfl
      have xX33 := X3.at (i := 3) (v := .int .i64 E1) rfl
      have xX40 := X4.at (i := 0) (v := .int .i64 2) rfl
      have xX41 := X4.at (i := 1) (v := .bool s2) rfl
      have xX42 := X4.at (i := 2) (v := .int .u64 M2) rfl
      have xX43 := X4.at (i := 3) (v := .int .i64 E2) rfl
      go_wp2_with fail
      refine (nInf (s := s1 != s2) HRR.out).mono ?_
      rintro ee w5 ⟨K3, s3, M3, E3, rfl, q3, B⟩
      clear xX30 xX31 xX32 xX33 xX40 xX41 xX42 xX43
      replace X3 := X3.below B
      replace X4 := X4.below B
      replace XR := XR.below B
      replace HB := Lib.hid (bt HB.out B)
      clear B
      have xXR0 := XR.at (i := 0) (v := .int .i64 0) rfl
      have zXR0 := XR.frozen 0
      have xXR1 := XR.at (i := 1) (v := .bool false) rfl
      have zXR1 := XR.frozen 1
      have xXR2 := XR.at (i := 2) (v := .int .u64 0) rfl
      have zXR2 := XR.frozen 2
      have xXR3 := XR.at (i := 3) (v := .int .i64 0) rfl
      have zXR3 := XR.frozen 3
      go_wp2
      clear xXR0 zXR0 xXR1 zXR1 xXR2 zXR2 xXR3 zXR3
      have SX := StN.mk4 XR (.int .i64 K3) (.bool s3) (.int .u64 M3) (.int .i64 E3)
      replace X3 := X3.stn SX (by omega)
      replace X4 := X4.stn SX (by omega)
      replace HB := Lib.hid (SX.below HB.out (by omega))
      replace XR := SX.box
      clear SX
      generalize (World.setCell (World.setCell (World.setCell (World.setCell w5 ⟨w.heap.size + 1 + 1, 0, none⟩ (.int .i64 K3)) ⟨w.heap.size + 1 + 1, 1, none⟩ (.bool s3)) ⟨w.heap.size + 1 + 1, 2, none⟩ (.int .u64 M3)) ⟨w.heap.size + 1 + 1, 3, none⟩ (.int .i64 E3)) = w6 at *
      have r0 := XR.cell 0
      have r1 := XR.cell 1
      have r2 := XR.cell 2
      have r3 := XR.cell 3
      exact bodyPost_ret (v := .agg #[.int .i64 K3, .bool s3, .int .u64 M3, .int .i64 E3]) (by simp [results, Tryd.results18, go_sem, r0, r1, r2, r3]) rfl ⟨_, _, _, _, rfl, q3, HB.out⟩
    · rw [mulp_zero up (.inr (z2.1 rfl))] at hr
      subst hr
      clear i1 i2 z1 z2 d1 d2 q1 q2
      have xXR0 := XR.at (i := 0) (v := .int .i64 0) rfl
      have zXR0 := XR.frozen 0
      have xXR1 := XR.at (i := 1) (v := .bool false) rfl
      have zXR1 := XR.frozen 1
      have xXR2 := XR.at (i := 2) (v := .int .u64 0) rfl
      have zXR2 := XR.frozen 2
      have xXR3 := XR.at (i := 3) (v := .int .i64 0) rfl
      have zXR3 := XR.frozen 3
      have xX30 := X3.at (i := 0) (v := .int .i64 1) rfl
      have xX31 := X3.at (i := 1) (v := .bool s1) rfl
      have xX32 := X3.at (i := 2) (v := .int .u64 M1) rfl
      have xX33 := X3.at (i := 3) (v := .int .i64 E1) rfl
      have xX40 := X4.at (i := 0) (v := .int .i64 0) rfl
      have xX41 := X4.at (i := 1) (v := .bool s2) rfl
      have xX42 := X4.at (i := 2) (v := .int .u64 M2) rfl
      have xX43 := X4.at (i := 3) (v := .int .i64 E2) rfl
      go_wp2
      clear xXR0 zXR0 xXR1 zXR1 xXR2 zXR2 xXR3 zXR3 xX30 xX31 xX32 xX33 xX40 xX41 xX42 xX43
      have SX := StN.mk4 XR (.int .i64 0) (.bool false) (.int .u64 0) (.int .i64 0)
      replace X3 := X3.stn SX (by omega)
      replace X4 := X4.stn SX (by omega)
      replace HB := Lib.hid (SX.below HB.out (by omega))
      replace XR := SX.box
      clear SX
      generalize (World.setCell (World.setCell (World.setCell (World.setCell w4 ⟨w.heap.size + 1 + 1, 0, none⟩ (.int .i64 0)) ⟨w.heap.size + 1 + 1, 1, none⟩ (.bool false)) ⟨w.heap.size + 1 + 1, 2, none⟩ (.int .u64 0)) ⟨w.heap.size + 1 + 1, 3, none⟩ (.int .i64 0)) = w5 at *
      have r0 := XR.cell 0
      have r1 := XR.cell 1
      have r2 := XR.cell 2
      have r3 := XR.cell 3
      exact bodyPost_ret (v := .agg #[.int .i64 0, .bool false, .int .u64 0, .int .i64 0]) (by simp [results, Tryd.results18, go_sem, r0, r1, r2, r3]) rfl ⟨_, _, _, _, rfl, Fq.nought, HB.out⟩
    · have HRR := Lib.hid hr
      clear i1 i2 z1 z2 d1 d2 hr
      have xX30 := X3.at (i := 0) (v := .int .i64 1) rfl
      have xX31 := X3.at (i := 1) (v := .bool s1) rfl
      have xX32 := X3.at (i := 2) (v := .int .u64 M1) rfl
      have xX33 := X3.at (i := 3) (v := .int .i64 E1) rfl
      have xX40 := X4.at (i := 0) (v := .int .i64 1) rfl
      have xX41 := X4.at (i := 1) (v := .bool s2) rfl
      have xX42 := X4.at (i := 2) (v := .int .u64 M2) rfl
      have xX43 := X4.at (i := 3) (v := .int .i64 E2) rfl
      go_wp2_with fail
      refine (aProduct q1 q2).mono ?_
      rintro ee w5 ⟨s3, H3, L3, x3, rfl, p3, B⟩
      clear xX30 xX31 xX32 xX33 xX40 xX41 xX42 xX43
      replace X3 := X3.below B
      replace X4 := X4.below B
      replace XR := XR.below B
      replace HB := Lib.hid (bt HB.out B)
      clear B
      go_wp2_with fail
      refine (aRound p3 HRR.out).mono ?_
      rintro ee w6 ⟨K4, s4, M4, E4, rfl, q4, B⟩
      replace X3 := X3.below B
      replace X4 := X4.below B
      replace XR := XR.below B
      replace HB := Lib.hid (bt HB.out B)
      clear B
      have xXR0 := XR.at (i := 0) (v := .int .i64 0) rfl
      have zXR0 := XR.frozen 0
      have xXR1 := XR.at (i := 1) (v := .bool false) rfl
      have zXR1 := XR.frozen 1
      have xXR2 := XR.at (i := 2) (v := .int .u64 0) rfl
      have zXR2 := XR.frozen 2
      have xXR3 := XR.at (i := 3) (v := .int .i64 0) rfl
      have zXR3 := XR.frozen 3
      go_wp2
      clear xXR0 zXR0 xXR1 zXR1 xXR2 zXR2 xXR3 zXR3
      have SX := StN.mk4 XR (.int .i64 K4) (.bool s4) (.int .u64 M4) (.int .i64 E4)
      replace X3 := X3.stn SX (by omega)
      replace X4 := X4.stn SX (by omega)
      replace HB := Lib.hid (SX.below HB.out (by omega))
      replace XR := SX.box
      clear SX
      generalize (World.setCell (World.setCell (World.setCell (World.setCell w6 ⟨w.heap.size + 1 + 1, 0, none⟩ (.int .i64 K4)) ⟨w.heap.size + 1 + 1, 1, none⟩ (.bool s4)) ⟨w.heap.size + 1 + 1, 2, none⟩ (.int .u64 M4)) ⟨w.heap.size + 1 + 1, 3, none⟩ (.int .i64 E4)) = w7 at *
      have r0 := XR.cell 0
      have r1 := XR.cell 1
      have r2 := XR.cell 2
      have r3 := XR.cell 3
      exact bodyPost_ret (v := .agg #[.int .i64 K4, .bool s4, .int .u64 M4, .int .i64 E4]) (by simp [results, Tryd.results18, go_sem, r0, r1, r2, r3]) rfl ⟨_, _, _, _, rfl, q4, HB.out⟩
end Go.Proofs.YtbhnpmkdmnnclaaDoor

/-
  Contracts and words that the statement's proof rests on, several texts in one: Hh, Hi.
-/
import Derived.Test.YtbhnpmkdmnnclaaDoorYBat
import Derived.Test.YtbhnpmkdmnnclaaDoorYBau
import Derived.Test.YtbhnpmkdmnnclaaDoorYBax
/-
  What the sum, the product, the difference of two numbers, a half and twice a number are, rounded.
-/
namespace Go.Proofs.YtbhnpmkdmnnclaaDoor
open Go.RowKit
set_option linter.unusedVariables false
set_option linter.unusedSimpArgs false
set_option maxRecDepth 100000

theorem fq_tk {D : Int} {s : Bool} {M E : Int} (hM : M < 18446744073709551616) : ∃ K1 s1 M1 E1, Fq K1 s1 M1 E1 (rk D s M E) := by
  by_cases hm : MayQ D s M E
  · exact ⟨_, _, _, _, rk_fq hM hm⟩
  · rw [rk_not hm]
    exact ⟨_, _, _, _, Fq.nought⟩
set_option maxHeartbeats 2000000 in
theorem aTaken {w : World} {D M E : Int} {s : Bool} {K1 M1 E1 x : Int} {s1 : Bool} (hM : M < 18446744073709551616) (q : Fq K1 s1 M1 E1 x) (hx : rk D s M E = x) : Calls Tryd.prog 36 #[.agg #[.int .i64 D, .bool s, .int .u64 M, .int .i64 E]] w (fun e w' => e = .returned (.agg #[.int .i64 K1, .bool s1, .int .u64 M1, .int .i64 E1]) ∧ Below w.heap.size w w') := by
  by_cases hm : MayQ D s M E
  · obtain ⟨rfl, rfl, rfl, rfl⟩ := q.uniq (hx ▸ rk_fq hM hm)
    have HC := Lib.hid (show decide (MayQ K1 s1 M1 E1) = true from decide_eq_true hm)
    clear hm hx hM q
    go_enter Tryd.func36, Tryd.ntmps36
    go_upto_region 1 with (fail)
    have X1 := (Bo.newAt w (g := w.heap.size) (by simp) #[.int .i64 K1, .bool s1, .int .u64 M1, .int .i64 E1] 24).below (bel1 _ (.cells #[.int .i64 0, .bool false, .int .u64 0, .int .i64 0] 24))
    have XR := (Bo.newAt (w.alloc (.cells #[.int .i64 K1, .bool s1, .int .u64 M1, .int .i64 E1] 24)) (g := w.heap.size + 1) (by simp) #[.int .i64 0, .bool false, .int .u64 0, .int .i64 0] 24)
    have HB := Lib.hid (bel2 w (.cells #[.int .i64 K1, .bool s1, .int .u64 M1, .int .i64 E1] 24) (.cells #[.int .i64 0, .bool false, .int .u64 0, .int .i64 0] 24))
    generalize hW1 : ((w.alloc (.cells #[.int .i64 K1, .bool s1, .int .u64 M1, .int .i64 E1] 24)).alloc (.cells #[.int .i64 0, .bool false, .int .u64 0, .int .i64 0] 24)) = w1 at *
    clear hW1
    have xX10 := X1.at (i := 0) (v := .int .i64 K1) rfl
    have xX11 := X1.at (i := 1) (v := .bool s1) rfl
    have xX12 := X1.at (i := 2) (v := .int .u64 M1) rfl
    have xX13 := X1.at (i := 3) (v := .int .i64 E1) rfl
    go_wp2_with fail
    refine (nMay HC.out).mono ?_
    rintro ee w2 ⟨rfl, B⟩
    clear xX10 xX11 xX12 xX13
    replace X1 := X1.below B
    replace XR := XR.below B
    replace HB := Lib.hid (bt HB.out B)
    clear B
    have xXR0 := XR.at (i := 0) (v := .int .i64 0) rfl
    have zXR0 := XR.frozen 0
    have xXR1 := XR.at (i := 1) (v := .bool false) rfl
    have zXR1 := XR.frozen 1
    have xXR2 := XR.at (i := 2) (v := .int .u64 0) rfl
    have zXR2 := XR.frozen 2
    have xXR3 := XR.at (i := 3) (v := .int .i64 0) rfl
    have zXR3 := XR.frozen 3
    have xX10 := X1.at (i := 0) (v := .int .i64 K1) rfl
    have xX11 := X1.at (i := 1) (v := .bool s1) rfl
    have xX12 := X1.at (i := 2) (v := .int .u64 M1) rfl
    have xX13 := X1.at (i := 3) (v := .int .i64 E1) rfl
    go_wp2
    clear xXR0 zXR0 xXR1 zXR1 xXR2 zXR2 xXR3 zXR3 xX10 xX11 xX12 xX13
    have SX := StN.mk4 XR (.int .i64 K1) (.bool s1) (.int .u64 M1) (.int .i64 E1)
    replace X1 := X1.stn SX (by omega)
    replace HB := Lib.hid (SX.below HB.out (by omega))
    replace XR := SX.box
    clear SX
    generalize (World.setCell (World.setCell (World.setCell (World.setCell w2 ⟨w.heap.size + 1, 0, none⟩ (.int .i64 K1)) ⟨w.heap.size + 1, 1, none⟩ (.bool s1)) ⟨w.heap.size + 1, 2, none⟩ (.int .u64 M1)) ⟨w.heap.size + 1, 3, none⟩ (.int .i64 E1)) = w3 at *
    have r0 := XR.cell 0
    have r1 := XR.cell 1
    have r2 := XR.cell 2
    have r3 := XR.cell 3
    exact bodyPost_ret (v := .agg #[.int .i64 K1, .bool s1, .int .u64 M1, .int .i64 E1]) (by simp [results, Tryd.results36, go_sem, r0, r1, r2, r3]) rfl ⟨rfl, HB.out⟩
  · rw [rk_not hm] at hx
    subst hx
    obtain ⟨rfl, rfl, rfl, rfl⟩ := q.uniq Fq.nought
    have HC := Lib.hid (show decide (MayQ D s M E) = false from decide_eq_false hm)
    clear hm hM q
    go_enter Tryd.func36, Tryd.ntmps36
    go_upto_region 1 with (fail)
    have X1 := (Bo.newAt w (g := w.heap.size) (by simp) #[.int .i64 D, .bool s, .int .u64 M, .int .i64 E] 24).below (bel1 _ (.cells #[.int .i64 0, .bool false, .int .u64 0, .int .i64 0] 24))
    have XR := (Bo.newAt (w.alloc (.cells #[.int .i64 D, .bool s, .int .u64 M, .int .i64 E] 24)) (g := w.heap.size + 1) (by simp) #[.int .i64 0, .bool false, .int .u64 0, .int .i64 0] 24)
    have HB := Lib.hid (bel2 w (.cells #[.int .i64 D, .bool s, .int .u64 M, .int .i64 E] 24) (.cells #[.int .i64 0, .bool false, .int .u64 0, .int .i64 0] 24))
    generalize hW1 : ((w.alloc (.cells #[.int .i64 D, .bool s, .int .u64 M, .int .i64 E] 24)).alloc (.cells #[.int .i64 0, .bool false, .int .u64 0, .int .i64 0] 24)) = w1 at *
    clear hW1
    have xX10 := X1.at (i := 0) (v := .int .i64 D) rfl
    have xX11 := X1.at (i := 1) (v := .bool s) rfl
    have xX12 := X1.at (i := 2) (v := .int .u64 M) rfl
    have xX13 := X1.at (i := 3) (v := .int .i64 E) rfl
    go_wp2_with fail
    refine (nMay HC.out).mono ?_
    rintro ee w2 ⟨rfl, B⟩
    clear xX10 xX11 xX12 xX13
    replace X1 := X1.below B
    replace XR := XR.below B
    replace HB := Lib.hid (bt HB.out B)
    clear B
    have xXR0 := XR.at (i := 0) (v := .int .i64 0) rfl
    have zXR0 := XR.frozen 0
    have xXR1 := XR.at (i := 1) (v := .bool false) rfl
    have zXR1 := XR.frozen 1
    have xXR2 := XR.at (i := 2) (v := .int .u64 0) rfl
    have zXR2 := XR.frozen 2
    have xXR3 := XR.at (i := 3) (v := .int .i64 0) rfl
    have zXR3 := XR.frozen 3
    have xX10 := X1.at (i := 0) (v := .int .i64 D) rfl
    have xX11 := X1.at (i := 1) (v := .bool s) rfl
    have xX12 := X1.at (i := 2) (v := .int .u64 M) rfl
    have xX13 := X1.at (i := 3) (v := .int .i64 E) rfl
    go_wp2
    clear xXR0 zXR0 xXR1 zXR1 xXR2 zXR2 xXR3 zXR3 xX10 xX11 xX12 xX13
    have SX := StN.mk4 XR (.int .i64 0) (.bool false) (.int .u64 0) (.int .i64 0)
    replace X1 := X1.stn SX (by omega)
    replace HB := Lib.hid (SX.below HB.out (by omega))
    replace XR := SX.box
    clear SX
    generalize (World.setCell (World.setCell (World.setCell (World.setCell w2 ⟨w.heap.size + 1, 0, none⟩ (.int .i64 0)) ⟨w.heap.size + 1, 1, none⟩ (.bool false)) ⟨w.heap.size + 1, 2, none⟩ (.int .u64 0)) ⟨w.heap.size + 1, 3, none⟩ (.int .i64 0)) = w3 at *
    have r0 := XR.cell 0
    have r1 := XR.cell 1
    have r2 := XR.cell 2
    have r3 := XR.cell 3
    exact bodyPost_ret (v := .agg #[.int .i64 0, .bool false, .int .u64 0, .int .i64 0]) (by simp [results, Tryd.results36, go_sem, r0, r1, r2, r3]) rfl ⟨rfl, HB.out⟩
set_option maxHeartbeats 8000000 in
theorem aAdd {w : World} {D D' M M' E E' : Int} {s s' : Bool} {up : Bool} {x y r : Int} (hT : Tb w) (hM : M < 18446744073709551616) (hM' : M' < 18446744073709551616) (hx : rk D s M E = x) (hy : rk D' s' M' E' = y) (hr : addp up x y = r) : Calls Tryd.prog 13 #[.agg #[.int .i64 D, .bool s, .int .u64 M, .int .i64 E], .agg #[.int .i64 D', .bool s', .int .u64 M', .int .i64 E'], .bool up] w (PN w r) := by
  obtain ⟨K1, s1, M1, E1, q1⟩ := fq_tk (D := D) (s := s) (M := M) (E := E) hM
  obtain ⟨K2, s2, M2, E2, q2⟩ := fq_tk (D := D') (s := s') (M := M') (E := E') hM'
  rw [hx] at q1
  rw [hy] at q2
  have HX := Lib.hid hx
  have HY := Lib.hid hy
  clear hx hy
  go_enter Tryd.func13, Tryd.ntmps13
  go_upto_region 1 with (fail)
  have X3 := (Bo.newAt w (g := w.heap.size) (by simp) #[.int .i64 D, .bool s, .int .u64 M, .int .i64 E] 24).below (bel2 _ (.cells #[.int .i64 D', .bool s', .int .u64 M', .int .i64 E'] 24) (.cells #[.int .i64 0, .bool false, .int .u64 0, .int .i64 0] 24))
  have X4 := (Bo.newAt (w.alloc (.cells #[.int .i64 D, .bool s, .int .u64 M, .int .i64 E] 24)) (g := w.heap.size + 1) (by simp) #[.int .i64 D', .bool s', .int .u64 M', .int .i64 E'] 24).below (bel1 _ (.cells #[.int .i64 0, .bool false, .int .u64 0, .int .i64 0] 24))
  have XR := (Bo.newAt ((w.alloc (.cells #[.int .i64 D, .bool s, .int .u64 M, .int .i64 E] 24)).alloc (.cells #[.int .i64 D', .bool s', .int .u64 M', .int .i64 E'] 24)) (g := w.heap.size + 1 + 1) (by simp) #[.int .i64 0, .bool false, .int .u64 0, .int .i64 0] 24)
  have HB := Lib.hid (bel3 w (.cells #[.int .i64 D, .bool s, .int .u64 M, .int .i64 E] 24) (.cells #[.int .i64 D', .bool s', .int .u64 M', .int .i64 E'] 24) (.cells #[.int .i64 0, .bool false, .int .u64 0, .int .i64 0] 24))
  replace hT := hT.below HB.out
  generalize hW1 : (((w.alloc (.cells #[.int .i64 D, .bool s, .int .u64 M, .int .i64 E] 24)).alloc (.cells #[.int .i64 D', .bool s', .int .u64 M', .int .i64 E'] 24)).alloc (.cells #[.int .i64 0, .bool false, .int .u64 0, .int .i64 0] 24)) = w1 at *
  clear hW1
  refine Jo.region_joint (T := [0, 1, 2, 3]) (ds := [some 7, some 8, some 9, some 10, none, none]) (ls := [[], [0], [], [2], [], []]) (k := 6) (L := [(some 7, 0), (some 8, 1), (some 9, 2), (some 10, 3)]) (fuel := 2) (J := fun wj => Below (World.heap w1).size w1 wj)
    (F := [Jo.Fact.eq (.agg #[.int .i64 D, .bool s, .int .u64 M, .int .i64 E]), Jo.Fact.eq (.agg #[.int .i64 K1, .bool s1, .int .u64 M1, .int .i64 E1]), Jo.Fact.eq (.agg #[.int .i64 D', .bool s', .int .u64 M', .int .i64 E']), Jo.Fact.eq (.agg #[.int .i64 K2, .bool s2, .int .u64 M2, .int .i64 E2]), Jo.Fact.any, Jo.Fact.any])
    (by kernel_rfl) (by kernel_rfl) (by decide) rfl rfl (fun _ _ h b => bt h b) ((Below.refl _ _).drew) ?_ (fun vs w2 hJ hd => ?_)
  · refine Jo.jcons (i := 0) (o := ⟨some 7, _, _, _, _, _⟩) (di := some 7) (L := []) (f := Jo.Fact.eq (.agg #[.int .i64 D, .bool s, .int .u64 M, .int .i64 E])) rfl rfl rfl rfl (fun vs wj hJ hd K hK => ?_) ?_
    · clear hd
      simp only [Jo.putl, List.foldl_nil, Act.put, List.setIfInBounds_toArray, List.set_cons_zero, List.set_cons_succ] at hK ⊢
      have xX30 : World.cell? wj ⟨w.heap.size, 0, none⟩ = some (.int .i64 D) := (X3.below hJ).cell 0
      have xX31 : World.cell? wj ⟨w.heap.size, 1, none⟩ = some (.bool s) := (X3.below hJ).cell 1
      have xX32 : World.cell? wj ⟨w.heap.size, 2, none⟩ = some (.int .u64 M) := (X3.below hJ).cell 2
      have xX33 : World.cell? wj ⟨w.heap.size, 3, none⟩ = some (.int .i64 E) := (X3.below hJ).cell 3
      go_simp
      exact hK.out _ _ rfl (Below.refl _ _)
    refine Jo.jcons (i := 1) (o := ⟨some 8, _, _, _, _, _⟩) (di := some 8) (L := [(some 7, 0)]) (f := Jo.Fact.eq (.agg #[.int .i64 K1, .bool s1, .int .u64 M1, .int .i64 E1])) rfl rfl rfl rfl (fun vs wj hJ hd K hK => ?_) ?_
    · have d0 : (Jo.Fact.eq (.agg #[.int .i64 D, .bool s, .int .u64 M, .int .i64 E])).P (vs 0) wj := hd 0 (by decide)
      clear hd
      simp only [Jo.putl, List.foldl_cons, List.foldl_nil, Act.put, List.setIfInBounds_toArray, List.set_cons_zero, List.set_cons_succ] at hK ⊢
      generalize vs 0 = u0 at hK d0 ⊢
      replace d0 : u0 = _ := d0
      subst d0
      go_simp
      refine (aTaken hM q1 HX.out).mono ?_
      rintro ee wk ⟨rfl, B⟩
      exact hK.out _ _ rfl B
    refine Jo.jcons (i := 2) (o := ⟨some 9, _, _, _, _, _⟩) (di := some 9) (L := []) (f := Jo.Fact.eq (.agg #[.int .i64 D', .bool s', .int .u64 M', .int .i64 E'])) rfl rfl rfl rfl (fun vs wj hJ hd K hK => ?_) ?_
    · clear hd
      simp only [Jo.putl, List.foldl_nil, Act.put, List.setIfInBounds_toArray, List.set_cons_zero, List.set_cons_succ] at hK ⊢
      have xX40 : World.cell? wj ⟨w.heap.size + 1, 0, none⟩ = some (.int .i64 D') := (X4.below hJ).cell 0
      have xX41 : World.cell? wj ⟨w.heap.size + 1, 1, none⟩ = some (.bool s') := (X4.below hJ).cell 1
      have xX42 : World.cell? wj ⟨w.heap.size + 1, 2, none⟩ = some (.int .u64 M') := (X4.below hJ).cell 2
      have xX43 : World.cell? wj ⟨w.heap.size + 1, 3, none⟩ = some (.int .i64 E') := (X4.below hJ).cell 3
      go_simp
      exact hK.out _ _ rfl (Below.refl _ _)
    refine Jo.jcons (i := 3) (o := ⟨some 10, _, _, _, _, _⟩) (di := some 10) (L := [(some 9, 2)]) (f := Jo.Fact.eq (.agg #[.int .i64 K2, .bool s2, .int .u64 M2, .int .i64 E2])) rfl rfl rfl rfl (fun vs wj hJ hd K hK => ?_) ?_
    · have d2 : (Jo.Fact.eq (.agg #[.int .i64 D', .bool s', .int .u64 M', .int .i64 E'])).P (vs 2) wj := hd 2 (by decide)
      clear hd
      simp only [Jo.putl, List.foldl_cons, List.foldl_nil, Act.put, List.setIfInBounds_toArray, List.set_cons_zero, List.set_cons_succ] at hK ⊢
      generalize vs 2 = u2 at hK d2 ⊢
      replace d2 : u2 = _ := d2
      subst d2
      go_simp
      refine (aTaken hM' q2 HY.out).mono ?_
      rintro ee wk ⟨rfl, B⟩
      exact hK.out _ _ rfl B
    exact Jo.Steps.nil
  have d0 : (Jo.Fact.eq (.agg #[.int .i64 D, .bool s, .int .u64 M, .int .i64 E])).P (vs 0) w2 := hd 0 (by decide)
  have d1 : (Jo.Fact.eq (.agg #[.int .i64 K1, .bool s1, .int .u64 M1, .int .i64 E1])).P (vs 1) w2 := hd 1 (by decide)
  have d2 : (Jo.Fact.eq (.agg #[.int .i64 D', .bool s', .int .u64 M', .int .i64 E'])).P (vs 2) w2 := hd 2 (by decide)
  have d3 : (Jo.Fact.eq (.agg #[.int .i64 K2, .bool s2, .int .u64 M2, .int .i64 E2])).P (vs 3) w2 := hd 3 (by decide)
  clear hd
  simp only [Jo.putl, List.foldl_cons, List.foldl_nil, Act.put, List.setIfInBounds_toArray, List.set_cons_zero, List.set_cons_succ]
  generalize vs 0 = u0 at d0 ⊢
  generalize vs 1 = u1 at d1 ⊢
  generalize vs 2 = u2 at d2 ⊢
  generalize vs 3 = u3 at d3 ⊢
  clear vs
  replace d0 : u0 = _ := d0
  subst d0
  replace d1 : u1 = _ := d1
  subst d1
  replace d2 : u2 = _ := d2
  subst d2
  replace d3 : u3 = _ := d3
  subst d3
  replace X3 := X3.below hJ
  replace X4 := X4.below hJ
  replace XR := XR.below hJ
  replace hT := hT.below hJ
  replace HB := Lib.hid (bt HB.out hJ)
  have xX30 := X3.at (i := 0) (v := .int .i64 D) rfl
  have zX30 := X3.frozen 0
  have xX31 := X3.at (i := 1) (v := .bool s) rfl
  have zX31 := X3.frozen 1
  have xX32 := X3.at (i := 2) (v := .int .u64 M) rfl
  have zX32 := X3.frozen 2
  have xX33 := X3.at (i := 3) (v := .int .i64 E) rfl
  have zX33 := X3.frozen 3
  refine Jo.jnext (i := 4) (o := ⟨none, _, _, _, _, _⟩) (by kernel_rfl) rfl (fun K hK => ?_)
  go_simp
  refine hK.out _ _ ?_
  clear hK K xX30 zX30 xX31 zX31 xX32 zX32 xX33 zX33
  have SX := StN.mk4 X3 (.int .i64 K1) (.bool s1) (.int .u64 M1) (.int .i64 E1)
  replace X4 := X4.stn SX (by omega)
  replace XR := XR.stn SX (by omega)
  replace hT := hT.stn SX (by simp [no8])
  replace HB := Lib.hid (SX.below HB.out (by omega))
  replace X3 := SX.box
  clear SX
  generalize (World.setCell (World.setCell (World.setCell (World.setCell w2 ⟨w.heap.size, 0, none⟩ (.int .i64 K1)) ⟨w.heap.size, 1, none⟩ (.bool s1)) ⟨w.heap.size, 2, none⟩ (.int .u64 M1)) ⟨w.heap.size, 3, none⟩ (.int .i64 E1)) = w3 at *
  have xX40 := X4.at (i := 0) (v := .int .i64 D') rfl
  have zX40 := X4.frozen 0
  have xX41 := X4.at (i := 1) (v := .bool s') rfl
  have zX41 := X4.frozen 1
  have xX42 := X4.at (i := 2) (v := .int .u64 M') rfl
  have zX42 := X4.frozen 2
  have xX43 := X4.at (i := 3) (v := .int .i64 E') rfl
  have zX43 := X4.frozen 3
  refine Jo.jnext (i := 5) (o := ⟨none, _, _, _, _, _⟩) (by kernel_rfl) rfl (fun K hK => ?_)
  go_simp
  refine hK.out _ _ ?_
  clear hK K xX40 zX40 xX41 zX41 xX42 zX42 xX43 zX43
  have SX := StN.mk4 X4 (.int .i64 K2) (.bool s2) (.int .u64 M2) (.int .i64 E2)
  replace X3 := X3.stn SX (by omega)
  replace XR := XR.stn SX (by omega)
  replace hT := hT.stn SX (by simp [no8])
  replace HB := Lib.hid (SX.below HB.out (by omega))
  replace X4 := SX.box
  clear SX
  generalize (World.setCell (World.setCell (World.setCell (World.setCell w3 ⟨w.heap.size + 1, 0, none⟩ (.int .i64 K2)) ⟨w.heap.size + 1, 1, none⟩ (.bool s2)) ⟨w.heap.size + 1, 2, none⟩ (.int .u64 M2)) ⟨w.heap.size + 1, 3, none⟩ (.int .i64 E2)) = w4 at *
  refine Jo.jdone (by kernel_rfl) ?_
  clear HX HY hM hM'
  have i1 := fq_inf q1
  have i2 := fq_inf q2
  have z1 := q1.zero_iff
  have z2 := q2.zero_iff
  have d1 := q1.bd
  have d2 := q2.bd
  have kk1 : K1 = 2 ∨ K1 = 0 ∨ K1 = 1 := by rcases q1.cases with ⟨h, _⟩ | ⟨h, _⟩ | ⟨h, _⟩ <;> omega
  have kk2 : K2 = 2 ∨ K2 = 0 ∨ K2 = 1 := by rcases q2.cases with ⟨h, _⟩ | ⟨h, _⟩ | ⟨h, _⟩ <;> omega
  rcases kk1 with rfl | rfl | rfl
  · rcases kk2 with rfl | rfl | rfl
    · by_cases ks : s1 = s2
      · rw [addp_same up i1 ((fq_same q1 q2).2 ks)] at hr
        subst hr
        subst ks
        clear i1 i2 z1 z2 d1 d2 q2
        have xXR0 := XR.at (i := 0) (v := .int .i64 0) rfl
        have zXR0 := XR.frozen 0
        have xXR1 := XR.at (i := 1) (v := .bool false) rfl
        have zXR1 := XR.frozen 1
        have xXR2 := XR.at (i := 2) (v := .int .u64 0) rfl
        have zXR2 := XR.frozen 2
        have xXR3 := XR.at (i := 3) (v := .int .i64 0) rfl
        have zXR3 := XR.frozen 3
        have xX30 := X3.at (i := 0) (v := .int .i64 2) rfl
        have xX31 := X3.at (i := 1) (v := .bool s1) rfl
        have xX32 := X3.at (i := 2) (v := .int .u64 M1) rfl
        have xX33 := X3.at (i := 3) (v := .int .i64 E1) rfl
        have xX40 := X4.at (i := 0) (v := .int .i64 2) rfl
        have xX41 := X4.at (i := 1) (v := .bool s1) rfl
        have xX42 := X4.at (i := 2) (v := .int .u64 M2) rfl
        have xX43 := X4.at (i := 3) (v := .int .i64 E2) rfl
        go_wp2
        clear xXR0 zXR0 xXR1 zXR1 xXR2 zXR2 xXR3 zXR3 xX30 xX31 xX32 xX33 xX40 xX41 xX42 xX43
        have SX := StN.mk4 XR (.int .i64 2) (.bool s1) (.int .u64 M1) (.int .i64 E1)
        replace X3 := X3.stn SX (by omega)
        replace X4 := X4.stn SX (by omega)
        replace HB := Lib.hid (SX.below HB.out (by omega))
        replace XR := SX.box
        clear SX
        generalize (World.setCell (World.setCell (World.setCell (World.setCell w4 ⟨w.heap.size + 1 + 1, 0, none⟩ (.int .i64 2)) ⟨w.heap.size + 1 + 1, 1, none⟩ (.bool s1)) ⟨w.heap.size + 1 + 1, 2, none⟩ (.int .u64 M1)) ⟨w.heap.size + 1 + 1, 3, none⟩ (.int .i64 E1)) = w5 at *
        have r0 := XR.cell 0
        have r1 := XR.cell 1
        have r2 := XR.cell 2
        have r3 := XR.cell 3
        exact bodyPost_ret (v := .agg #[.int .i64 2, .bool s1, .int .u64 M1, .int .i64 E1]) (by simp [results, Tryd.results13, go_sem, r0, r1, r2, r3]) rfl ⟨_, _, _, _, rfl, q1, HB.out⟩
      · rw [addp_diff up i1 i2 (fun e => ks ((fq_same q1 q2).1 e))] at hr
        obtain rfl : (!s1) = s2 := by cases s1 <;> cases s2 <;> first | rfl | exact absurd rfl ks
        have e2 : (s1 == !s1) = false := by cases s1 <;> rfl
        have HRR := Lib.hid hr
        clear i1 i2 z1 z2 d1 d2 q1 q2 hr ks
        have xX30 := X3.at (i := 0) (v := .int .i64 2) rfl
        have xX31 := X3.at (i := 1) (v := .bool s1) rfl
        have xX32 := X3.at (i := 2) (v := .int .u64 M1) rfl
        have xX33 := X3.at (i := 3) (v := .int .i64 E1) rfl
        have xX40 := X4.at (i := 0) (v := .int .i64 2) rfl
        have xX41 := X4.at (i := 1) (v := .bool (!s1)) rfl
        have xX42 := X4.at (i := 2) (v := .int .u64 M2) rfl
        have xX43 := X4.at (i := 3) (v := .int .i64 E2) rfl
        go_wp2_with fail
        refine (nInf (s := !up) HRR.out).mono ?_
        rintro ee w5 ⟨K3, s3, M3, E3, rfl, q3, B⟩
        clear xX30 xX31 xX32 xX33 xX40 xX41 xX42 xX43
        replace X3 := X3.below B
        replace X4 := X4.below B
        replace XR := XR.below B
        replace HB := Lib.hid (bt HB.out B)
        clear B
        have xXR0 := XR.at (i := 0) (v := .int .i64 0) rfl
        have zXR0 := XR.frozen 0
        have xXR1 := XR.at (i := 1) (v := .bool false) rfl
        have zXR1 := XR.frozen 1
        have xXR2 := XR.at (i := 2) (v := .int .u64 0) rfl
        have zXR2 := XR.frozen 2
        have xXR3 := XR.at (i := 3) (v := .int .i64 0) rfl
        have zXR3 := XR.frozen 3
        go_wp2
        clear xXR0 zXR0 xXR1 zXR1 xXR2 zXR2 xXR3 zXR3
        have SX := StN.mk4 XR (.int .i64 K3) (.bool s3) (.int .u64 M3) (.int .i64 E3)
        replace X3 := X3.stn SX (by omega)
        replace X4 := X4.stn SX (by omega)
        replace HB := Lib.hid (SX.below HB.out (by omega))
        replace XR := SX.box
        clear SX
        generalize (World.setCell (World.setCell (World.setCell (World.setCell w5 ⟨w.heap.size + 1 + 1, 0, none⟩ (.int .i64 K3)) ⟨w.heap.size + 1 + 1, 1, none⟩ (.bool s3)) ⟨w.heap.size + 1 + 1, 2, none⟩ (.int .u64 M3)) ⟨w.heap.size + 1 + 1, 3, none⟩ (.int .i64 E3)) = w6 at *
        have r0 := XR.cell 0
        have r1 := XR.cell 1
        have r2 := XR.cell 2
        have r3 := XR.cell 3
        exact bodyPost_ret (v := .agg #[.int .i64 K3, .bool s3, .int .u64 M3, .int .i64 E3]) (by simp [results, Tryd.results13, go_sem, r0, r1, r2, r3]) rfl ⟨_, _, _, _, rfl, q3, HB.out⟩
    · rw [addp_tf up i1 i2] at hr
      subst hr
      clear i1 i2 z1 z2 d1 d2 q2
      have xXR0 := XR.at (i := 0) (v := .int .i64 0) rfl
      have zXR0 := XR.frozen 0
      have xXR1 := XR.at (i := 1) (v := .bool false) rfl
      have zXR1 := XR.frozen 1
      have xXR2 := XR.at (i := 2) (v := .int .u64 0) rfl
      have zXR2 := XR.frozen 2
      have xXR3 := XR.at (i := 3) (v := .int .i64 0) rfl
      have zXR3 := XR.frozen 3
      have xX30 := X3.at (i := 0) (v := .int .i64 2) rfl
      have xX31 := X3.at (i := 1) (v := .bool s1) rfl
      have xX32 := X3.at (i := 2) (v := .int .u64 M1) rfl
      have xX33 := X3.at (i := 3) (v := .int .i64 E1) rfl
      have xX40 := X4.at (i := 0) (v := .int .i64 0) rfl
      have xX41 := X4.at (i := 1) (v := .bool s2) rfl
      have xX42 := X4.at (i := 2) (v := .int .u64 M2) rfl
      have xX43 := X4.at (i := 3) (v := .int .i64 E2) rfl
      go_wp2
      clear xXR0 zXR0 xXR1 zXR1 xXR2 zXR2 xXR3 zXR3 xX30 xX31 xX32 xX33 xX40 xX41 xX42 xX43
      have SX := StN.mk4 XR (.int .i64 2) (.bool s1) (.int .u64 M1) (.int .i64 E1)
      replace X3 := X3.stn SX (by omega)
      replace X4 := X4.stn SX (by omega)
      replace HB := Lib.hid (SX.below HB.out (by omega))
      replace XR := SX.box
      clear SX
      generalize (World.setCell (World.setCell (World.setCell (World.setCell w4 ⟨w.heap.size + 1 + 1, 0, none⟩ (.int .i64 2)) ⟨w.heap.size + 1 + 1, 1, none⟩ (.bool s1)) ⟨w.heap.size + 1 + 1, 2, none⟩ (.int .u64 M1)) ⟨w.heap.size + 1 + 1, 3, none⟩ (.int .i64 E1)) = w5 at *
      have r0 := XR.cell 0
      have r1 := XR.cell 1
      have r2 := XR.cell 2
      have r3 := XR.cell 3
      exact bodyPost_ret (v := .agg #[.int .i64 2, .bool s1, .int .u64 M1, .int .i64 E1]) (by simp [results, Tryd.results13, go_sem, r0, r1, r2, r3]) rfl ⟨_, _, _, _, rfl, q1, HB.out⟩
    · rw [addp_tf up i1 i2] at hr
      subst hr
      clear i1 i2 z1 z2 d1 d2 q2
      have xXR0 := XR.at (i := 0) (v := .int .i64 0) rfl
      have zXR0 := XR.frozen 0
      have xXR1 := XR.at (i := 1) (v := .bool false) rfl
      have zXR1 := XR.frozen 1
      have xXR2 := XR.at (i := 2) (v := .int .u64 0) rfl
      have zXR2 := XR.frozen 2
      have xXR3 := XR.at (i := 3) (v := .int .i64 0) rfl
      have zXR3 := XR.frozen 3
      have xX30 := X3.at (i := 0) (v := .int .i64 2) rfl
      have xX31 := X3.at (i := 1) (v := .bool s1) rfl
      have xX32 := X3.at (i := 2) (v := .int .u64 M1) rfl
      have xX33 := X3.at (i := 3) (v := .int .i64 E1) rfl
      have xX40 := X4.at (i := 0) (v := .int .i64 1) rfl
      have xX41 := X4.at (i := 1) (v := .bool s2) rfl
      have xX42 := X4.at (i := 2) (v := .int .u64 M2) rfl
      have xX43 := X4.at (i := 3) (v := .int .i64 E2) rfl
      go_wp2
      clear xXR0 zXR0 xXR1 zXR1 xXR2 zXR2 xXR3 zXR3 xX30 xX31 xX32 xX33 xX40 xX41 xX42 xX43
      have SX := StN.mk4 XR (.int .i64 2) (.bool s1) (.int .u64 M1) (.int .i64 E1)
      replace X3 := X3.stn SX (by omega)
      replace X4 := X4.stn SX (by omega)
      replace HB := Lib.hid (SX.below HB.out (by omega))
      replace XR := SX.box
      clear SX
      generalize (World.setCell (World.setCell (World.setCell (World.setCell w4 ⟨w.heap.size + 1 + 1, 0, none⟩ (.int .i64 2)) ⟨w.heap.size + 1 + 1, 1, none⟩ (.bool s1)) ⟨w.heap.size + 1 + 1, 2, none⟩ (.int .u64 M1)) ⟨w.heap.size + 1 + 1, 3, none⟩ (.int .i64 E1)) = w5 at *
      have r0 := XR.cell 0
      have r1 := XR.cell 1
      have r2 := XR.cell 2
      have r3 := XR.cell 3
      exact bodyPost_ret (v := .agg #[.int .i64 2, .bool s1, .int .u64 M1, .int .i64 E1]) (by simp [results, Tryd.results13, go_sem, r0, r1, r2, r3]) rfl ⟨_, _, _, _, rfl, q1, HB.out⟩
  · rcases kk2 with rfl | rfl | rfl
    · rw [addp_ft up i1 i2] at hr
      subst hr
      clear i1 i2 z1 z2 d1 d2 q1
      have xXR0 := XR.at (i := 0) (v := .int .i64 0) rfl
      have zXR0 := XR.frozen 0
      have xXR1 := XR.at (i := 1) (v := .bool false) rfl
      have zXR1 := XR.frozen 1
      have xXR2 := XR.at (i := 2) (v := .int .u64 0) rfl
      have zXR2 := XR.frozen 2
      have xXR3 := XR.at (i := 3) (v := .int .i64 0) rfl
      have zXR3 := XR.frozen 3
      have xX30 := X3.at (i := 0) (v := .int .i64 0) rfl
      have xX31 := X3.at (i := 1) (v := .bool s1) rfl
      have xX32 := X3.at (i := 2) (v := .int .u64 M1) rfl
      have xX33 := X3.at (i := 3) (v := .int .i64 E1) rfl
      have xX40 := X4.at (i := 0) (v := .int .i64 2) rfl
      have xX41 := X4.at (i := 1) (v := .bool s2) rfl
      have xX42 := X4.at (i := 2) (v := .int .u64 M2) rfl
      have xX43 := X4.at (i := 3) (v := .int .i64 E2) rfl
      go_wp2
      clear xXR0 zXR0 xXR1 zXR1 xXR2 zXR2 xXR3 zXR3 xX30 xX31 xX32 xX33 xX40 xX41 xX42 xX43
      have SX := StN.mk4 XR (.int .i64 2) (.bool s2) (.int .u64 M2) (.int .i64 E2)
      replace X3 := X3.stn SX (by omega)
      replace X4 := X4.stn SX (by omega)
      replace HB := Lib.hid (SX.below HB.out (by omega))
      replace XR := SX.box
      clear SX
      generalize (World.setCell (World.setCell (World.setCell (World.setCell w4 ⟨w.heap.size + 1 + 1, 0, none⟩ (.int .i64 2)) ⟨w.heap.size + 1 + 1, 1, none⟩ (.bool s2)) ⟨w.heap.size + 1 + 1, 2, none⟩ (.int .u64 M2)) ⟨w.heap.size + 1 + 1, 3, none⟩ (.int .i64 E2)) = w5 at *
      have r0 := XR.cell 0
      have r1 := XR.cell 1
      have r2 := XR.cell 2
      have r3 := XR.cell 3
      exact bodyPost_ret (v := .agg #[.int .i64 2, .bool s2, .int .u64 M2, .int .i64 E2]) (by simp [results, Tryd.results13, go_sem, r0, r1, r2, r3]) rfl ⟨_, _, _, _, rfl, q2, HB.out⟩
    · rw [z2.1 rfl, addp_zero up d1.1 d1.2] at hr
      subst hr
      clear i1 i2 z1 z2 d1 d2 q2
      have xXR0 := XR.at (i := 0) (v := .int .i64 0) rfl
      have zXR0 := XR.frozen 0
      have xXR1 := XR.at (i := 1) (v := .bool false) rfl
      have zXR1 := XR.frozen 1
      have xXR2 := XR.at (i := 2) (v := .int .u64 0) rfl
      have zXR2 := XR.frozen 2
      have xXR3 := XR.at (i := 3) (v := .int .i64 0) rfl
      have zXR3 := XR.frozen 3
      have xX30 := X3.at (i := 0) (v := .int .i64 0) rfl
      have xX31 := X3.at (i := 1) (v := .bool s1) rfl
      have xX32 := X3.at (i := 2) (v := .int .u64 M1) rfl
      have xX33 := X3.at (i := 3) (v := .int .i64 E1) rfl
      have xX40 := X4.at (i := 0) (v := .int .i64 0) rfl
      have xX41 := X4.at (i := 1) (v := .bool s2) rfl
      have xX42 := X4.at (i := 2) (v := .int .u64 M2) rfl
      have xX43 := X4.at (i := 3) (v := .int .i64 E2) rfl
      go_wp2
      clear xXR0 zXR0 xXR1 zXR1 xXR2 zXR2 xXR3 zXR3 xX30 xX31 xX32 xX33 xX40 xX41 xX42 xX43
      have SX := StN.mk4 XR (.int .i64 0) (.bool s1) (.int .u64 M1) (.int .i64 E1)
      replace X3 := X3.stn SX (by omega)
      replace X4 := X4.stn SX (by omega)
      replace HB := Lib.hid (SX.below HB.out (by omega))
      replace XR := SX.box
      clear SX
      generalize (World.setCell (World.setCell (World.setCell (World.setCell w4 ⟨w.heap.size + 1 + 1, 0, none⟩ (.int .i64 0)) ⟨w.heap.size + 1 + 1, 1, none⟩ (.bool s1)) ⟨w.heap.size + 1 + 1, 2, none⟩ (.int .u64 M1)) ⟨w.heap.size + 1 + 1, 3, none⟩ (.int .i64 E1)) = w5 at *
      have r0 := XR.cell 0
      have r1 := XR.cell 1
      have r2 := XR.cell 2
      have r3 := XR.cell 3
      exact bodyPost_ret (v := .agg #[.int .i64 0, .bool s1, .int .u64 M1, .int .i64 E1]) (by simp [results, Tryd.results13, go_sem, r0, r1, r2, r3]) rfl ⟨_, _, _, _, rfl, q1, HB.out⟩
    · rw [z1.1 rfl, addp_comm, addp_zero up d2.1 d2.2] at hr
      subst hr
      clear i1 i2 z1 z2 d1 d2 q1
      have xXR0 := XR.at (i := 0) (v := .int .i64 0) rfl
      have zXR0 := XR.frozen 0
      have xXR1 := XR.at (i := 1) (v := .bool false) rfl
      have zXR1 := XR.frozen 1
      have xXR2 := XR.at (i := 2) (v := .int .u64 0) rfl
      have zXR2 := XR.frozen 2
      have xXR3 := XR.at (i := 3) (v := .int .i64 0) rfl
      have zXR3 := XR.frozen 3
      have xX30 := X3.at (i := 0) (v := .int .i64 0) rfl
      have xX31 := X3.at (i := 1) (v := .bool s1) rfl
      have xX32 := X3.at (i := 2) (v := .int .u64 M1) rfl
      have xX33 := X3.at (i := 3) (v := .int .i64 E1) rfl
      have xX40 := X4.at (i := 0) (v := .int .i64 1) rfl
      have xX41 := X4.at (i := 1) (v := .bool s2) rfl
      have xX42 := X4.at (i := 2) (v := .int .u64 M2) rfl
      have xX43 := X4.at (i := 3) (v := .int .i64 E2) rfl
      go_wp2
      clear xXR0 zXR0 xXR1 zXR1 xXR2 zXR2 xXR3 zXR3 xX30 xX31 xX32 xX33 xX40 xX41 xX42 xX43
      have SX := StN.mk4 XR (.int .i64 1) (.bool s2) (.int .u64 M2) (.int .i64 E2)
      replace X3 := X3.stn SX (by omega)
      replace X4 := X4.stn SX (by omega)
      replace HB := Lib.hid (SX.below HB.out (by omega))
      replace XR := SX.box
      clear SX
      generalize (World.setCell (World.setCell (World.setCell (World.setCell w4 ⟨w.heap.size + 1 + 1, 0, none⟩ (.int .i64 1)) ⟨w.heap.size + 1 + 1, 1, none⟩ (.bool s2)) ⟨w.heap.size + 1 + 1, 2, none⟩ (.int .u64 M2)) ⟨w.heap.size + 1 + 1, 3, none⟩ (.int .i64 E2)) = w5 at *
      have r0 := XR.cell 0
      have r1 := XR.cell 1
      have r2 := XR.cell 2
      have r3 := XR.cell 3
      exact bodyPost_ret (v := .agg #[.int .i64 1, .bool s2, .int .u64 M2, .int .i64 E2]) (by simp [results, Tryd.results13, go_sem, r0, r1, r2, r3]) rfl ⟨_, _, _, _, rfl, q2, HB.out⟩
  · rcases kk2 with rfl | rfl | rfl
    · rw [addp_ft up i1 i2] at hr
      subst hr
      clear i1 i2 z1 z2 d1 d2 q1
      have xXR0 := XR.at (i := 0) (v := .int .i64 0) rfl
      have zXR0 := XR.frozen 0
      have xXR1 := XR.at (i := 1) (v := .bool false) rfl
      have zXR1 := XR.frozen 1
      have xXR2 := XR.at (i := 2) (v := .int .u64 0) rfl
      have zXR2 := XR.frozen 2
      have xXR3 := XR.at (i := 3) (v := .int .i64 0) rfl
      have zXR3 := XR.frozen 3
      have xX30 := X3.at (i := 0) (v := .int .i64 1) rfl
      have xX31 := X3.at (i := 1) (v := .bool s1) rfl
      have xX32 := X3.at (i := 2) (v := .int .u64 M1) rfl
      have xX33 := X3.at (i := 3) (v := .int .i64 E1) rfl
      have xX40 := X4.at (i := 0) (v := .int .i64 2) rfl
      have xX41 := X4.at (i := 1) (v := .bool s2) rfl
      have xX42 := X4.at (i := 2) (v := .int .u64 M2) rfl
      have xX43 := X4.at (i := 3) (v := .int .i64 E2) rfl
      go_wp2
      clear xXR0 zXR0 xXR1 zXR1 xXR2 zXR2 xXR3 zXR3 xX30 xX31 xX32 xX33 xX40 xX41 xX42 xX43
      have SX := StN.mk4 XR (.int .i64 2) (.bool s2) (.int .u64 M2) (.int .i64 E2)
      replace X3 := X3.stn SX (by omega)
      replace X4 := X4.stn SX (by omega)
      replace HB := Lib.hid (SX.below HB.out (by omega))
      replace XR := SX.box
      clear SX
      generalize (World.setCell (World.setCell (World.setCell (World.setCell w4 ⟨w.heap.size + 1 + 1, 0, none⟩ (.int .i64 2)) ⟨w.heap.size + 1 + 1, 1, none⟩ (.bool s2)) ⟨w.heap.size + 1 + 1, 2, none⟩ (.int .u64 M2)) ⟨w.heap.size + 1 + 1, 3, none⟩ (.int .i64 E2)) = w5 at *
      have r0 := XR.cell 0
      have r1 := XR.cell 1
      have r2 := XR.cell 2
      have r3 := XR.cell 3
      exact bodyPost_ret (v := .agg #[.int .i64 2, .bool s2, .int .u64 M2, .int .i64 E2]) (by simp [results, Tryd.results13, go_sem, r0, r1, r2, r3]) rfl ⟨_, _, _, _, rfl, q2, HB.out⟩
    · rw [z2.1 rfl, addp_zero up d1.1 d1.2] at hr
      subst hr
      clear i1 i2 z1 z2 d1 d2 q2
      have xXR0 := XR.at (i := 0) (v := .int .i64 0) rfl
      have zXR0 := XR.frozen 0
      have xXR1 := XR.at (i := 1) (v := .bool false) rfl
      have zXR1 := XR.frozen 1
      have xXR2 := XR.at (i := 2) (v := .int .u64 0) rfl
      have zXR2 := XR.frozen 2
      have xXR3 := XR.at (i := 3) (v := .int .i64 0) rfl
      have zXR3 := XR.frozen 3
      have xX30 := X3.at (i := 0) (v := .int .i64 1) rfl
      have xX31 := X3.at (i := 1) (v := .bool s1) rfl
      have xX32 := X3.at (i := 2) (v := .int .u64 M1) rfl
      have xX33 := X3.at (i := 3) (v := .int .i64 E1) rfl
      have xX40 := X4.at (i := 0) (v := .int .i64 0) rfl
      have xX41 := X4.at (i := 1) (v := .bool s2) rfl
      have xX42 := X4.at (i := 2) (v := .int .u64 M2) rfl
      have xX43 := X4.at (i := 3) (v := .int .i64 E2) rfl
      go_wp2
      clear xXR0 zXR0 xXR1 zXR1 xXR2 zXR2 xXR3 zXR3 xX30 xX31 xX32 xX33 xX40 xX41 xX42 xX43
      have SX := StN.mk4 XR (.int .i64 1) (.bool s1) (.int .u64 M1) (.int .i64 E1)
      replace X3 := X3.stn SX (by omega)
      replace X4 := X4.stn SX (by omega)
      replace HB := Lib.hid (SX.below HB.out (by omega))
      replace XR := SX.box
      clear SX
      generalize (World.setCell (World.setCell (World.setCell (World.setCell w4 ⟨w.heap.size + 1 + 1, 0, none⟩ (.int .i64 1)) ⟨w.heap.size + 1 + 1, 1, none⟩ (.bool s1)) ⟨w.heap.size + 1 + 1, 2, none⟩ (.int .u64 M1)) ⟨w.heap.size + 1 + 1, 3, none⟩ (.int .i64 E1)) = w5 at *
      have r0 := XR.cell 0
      have r1 := XR.cell 1
      have r2 := XR.cell 2
      have r3 := XR.cell 3
      exact bodyPost_ret (v := .agg #[.int .i64 1, .bool s1, .int .u64 M1, .int .i64 E1]) (by simp [results, Tryd.results13, go_sem, r0, r1, r2, r3]) rfl ⟨_, _, _, _, rfl, q1, HB.out⟩
    · have HRR := Lib.hid hr
      clear i1 i2 z1 z2 d1 d2 hr
      have xX30 := X3.at (i := 0) (v := .int .i64 1) rfl
      have xX31 := X3.at (i := 1) (v := .bool s1) rfl
      have xX32 := X3.at (i := 2) (v := .int .u64 M1) rfl
      have xX33 := X3.at (i := 3) (v := .int .i64 E1) rfl
      have xX40 := X4.at (i := 0) (v := .int .i64 1) rfl
      have xX41 := X4.at (i := 1) (v := .bool s2) rfl
      have xX42 := X4.at (i := 2) (v := .int .u64 M2) rfl
      have xX43 := X4.at (i := 3) (v := .int .i64 E2) rfl
      go_wp2_with fail
      refine (aSum2 hT q1 q2).mono ?_
      rintro ee w5 ⟨s3, H3, L3, x3, rfl, p3, B⟩
      clear xX30 xX31 xX32 xX33 xX40 xX41 xX42 xX43
      replace X3 := X3.below B
      replace X4 := X4.below B
      replace XR := XR.below B
      replace hT := hT.below B
      replace HB := Lib.hid (bt HB.out B)
      clear B
      go_wp2_with fail
      refine (aRound p3 HRR.out).mono ?_
      rintro ee w6 ⟨K4, s4, M4, E4, rfl, q4, B⟩
      replace X3 := X3.below B
      replace X4 := X4.below B
      replace XR := XR.below B
      replace HB := Lib.hid (bt HB.out B)
      clear B
      have xXR0 := XR.at (i := 0) (v := .int .i64 0) rfl
      have zXR0 := XR.frozen 0
      have xXR1 := XR.at (i := 1) (v := .bool false) rfl
      have zXR1 := XR.frozen 1
      have xXR2 := XR.at (i := 2) (v := .int .u64 0) rfl
      have zXR2 := XR.frozen 2
      have xXR3 := XR.at (i := 3) (v := .int .i64 0) rfl
      have zXR3 := XR.frozen 3
      go_wp2
      clear xXR0 zXR0 xXR1 zXR1 xXR2 zXR2 xXR3 zXR3
      have SX := StN.mk4 XR (.int .i64 K4) (.bool s4) (.int .u64 M4) (.int .i64 E4)
      replace X3 := X3.stn SX (by omega)
      replace X4 := X4.stn SX (by omega)
      replace HB := Lib.hid (SX.below HB.out (by omega))
      replace XR := SX.box
      clear SX
      generalize (World.setCell (World.setCell (World.setCell (World.setCell w6 ⟨w.heap.size + 1 + 1, 0, none⟩ (.int .i64 K4)) ⟨w.heap.size + 1 + 1, 1, none⟩ (.bool s4)) ⟨w.heap.size + 1 + 1, 2, none⟩ (.int .u64 M4)) ⟨w.heap.size + 1 + 1, 3, none⟩ (.int .i64 E4)) = w7 at *
      have r0 := XR.cell 0
      have r1 := XR.cell 1
      have r2 := XR.cell 2
      have r3 := XR.cell 3
      exact bodyPost_ret (v := .agg #[.int .i64 K4, .bool s4, .int .u64 M4, .int .i64 E4]) (by simp [results, Tryd.results13, go_sem, r0, r1, r2, r3]) rfl ⟨_, _, _, _, rfl, q4, HB.out⟩
set_option maxHeartbeats 8000000 in
theorem aMul {w : World} {D D' M M' E E' : Int} {s s' : Bool} {up : Bool} {x y r : Int} (hM : M < 18446744073709551616) (hM' : M' < 18446744073709551616) (hx : rk D s M E = x) (hy : rk D' s' M' E' = y) (hr : mulp up x y = r) : Calls Tryd.prog 18 #[.agg #[.int .i64 D, .bool s, .int .u64 M, .int .i64 E], .agg #[.int .i64 D', .bool s', .int .u64 M', .int .i64 E'], .bool up] w (PN w r) := by
  obtain ⟨K1, s1, M1, E1, q1⟩ := fq_tk (D := D) (s := s) (M := M) (E := E) hM
  obtain ⟨K2, s2, M2, E2, q2⟩ := fq_tk (D := D') (s := s') (M := M') (E := E') hM'
  rw [hx] at q1
  rw [hy] at q2
  have HX := Lib.hid hx
  have HY := Lib.hid hy
  clear hx hy
  go_enter Tryd.func18, Tryd.ntmps18
  go_upto_region 1 with (fail)
  have X3 := (Bo.newAt w (g := w.heap.size) (by simp) #[.int .i64 D, .bool s, .int .u64 M, .int .i64 E] 24).below (bel2 _ (.cells #[.int .i64 D', .bool s', .int .u64 M', .int .i64 E'] 24) (.cells #[.int .i64 0, .bool false, .int .u64 0, .int .i64 0] 24))
  have X4 := (Bo.newAt (w.alloc (.cells #[.int .i64 D, .bool s, .int .u64 M, .int .i64 E] 24)) (g := w.heap.size + 1) (by simp) #[.int .i64 D', .bool s', .int .u64 M', .int .i64 E'] 24).below (bel1 _ (.cells #[.int .i64 0, .bool false, .int .u64 0, .int .i64 0] 24))
  have XR := (Bo.newAt ((w.alloc (.cells #[.int .i64 D, .bool s, .int .u64 M, .int .i64 E] 24)).alloc (.cells #[.int .i64 D', .bool s', .int .u64 M', .int .i64 E'] 24)) (g := w.heap.size + 1 + 1) (by simp) #[.int .i64 0, .bool false, .int .u64 0, .int .i64 0] 24)
  have HB := Lib.hid (bel3 w (.cells #[.int .i64 D, .bool s, .int .u64 M, .int .i64 E] 24) (.cells #[.int .i64 D', .bool s', .int .u64 M', .int .i64 E'] 24) (.cells #[.int .i64 0, .bool false, .int .u64 0, .int .i64 0] 24))
  generalize hW1 : (((w.alloc (.cells #[.int .i64 D, .bool s, .int .u64 M, .int .i64 E] 24)).alloc (.cells #[.int .i64 D', .bool s', .int .u64 M', .int .i64 E'] 24)).alloc (.cells #[.int .i64 0, .bool false, .int .u64 0, .int .i64 0] 24)) = w1 at *
  clear hW1
  refine Jo.region_joint (T := [0, 1, 2, 3]) (ds := [some 7, some 8, some 9, some 10, none, none]) (ls := [[], [0], [], [2], [], []]) (k := 6) (L := [(some 7, 0), (some 8, 1), (some 9, 2), (some 10, 3)]) (fuel := 2) (J := fun wj => Below (World.heap w1).size w1 wj)
    (F := [Jo.Fact.eq (.agg #[.int .i64 D, .bool s, .int .u64 M, .int .i64 E]), Jo.Fact.eq (.agg #[.int .i64 K1, .bool s1, .int .u64 M1, .int .i64 E1]), Jo.Fact.eq (.agg #[.int .i64 D', .bool s', .int .u64 M', .int .i64 E']), Jo.Fact.eq (.agg #[.int .i64 K2, .bool s2, .int .u64 M2, .int .i64 E2]), Jo.Fact.any, Jo.Fact.any])
    (by kernel_rfl) (by kernel_rfl) (by decide) rfl rfl (fun _ _ h b => bt h b) ((Below.refl _ _).drew) ?_ (fun vs w2 hJ hd => ?_)
  · refine Jo.jcons (i := 0) (o := ⟨some 7, _, _, _, _, _⟩) (di := some 7) (L := []) (f := Jo.Fact.eq (.agg #[.int .i64 D, .bool s, .int .u64 M, .int .i64 E])) rfl rfl rfl rfl (fun vs wj hJ hd K hK => ?_) ?_
    · clear hd
      simp only [Jo.putl, List.foldl_nil, Act.put, List.setIfInBounds_toArray, List.set_cons_zero, List.set_cons_succ] at hK ⊢
      have xX30 : World.cell? wj ⟨w.heap.size, 0, none⟩ = some (.int .i64 D) := (X3.below hJ).cell 0
      have xX31 : World.cell? wj ⟨w.heap.size, 1, none⟩ = some (.bool s) := (X3.below hJ).cell 1
      have xX32 : World.cell? wj ⟨w.heap.size, 2, none⟩ = some (.int .u64 M) := (X3.below hJ).cell 2
      have xX33 : World.cell? wj ⟨w.heap.size, 3, none⟩ = some (.int .i64 E) := (X3.below hJ).cell 3
      go_simp
      exact hK.out _ _ rfl (Below.refl _ _)
    refine Jo.jcons (i := 1) (o := ⟨some 8, _, _, _, _, _⟩) (di := some 8) (L := [(some 7, 0)]) (f := Jo.Fact.eq (.agg #[.int .i64 K1, .bool s1, .int .u64 M1, .int .i64 E1])) rfl rfl rfl rfl (fun vs wj hJ hd K hK => ?_) ?_
    · have d0 : (Jo.Fact.eq (.agg #[.int .i64 D, .bool s, .int .u64 M, .int .i64 E])).P (vs 0) wj := hd 0 (by decide)
      clear hd
      simp only [Jo.putl, List.foldl_cons, List.foldl_nil, Act.put, List.setIfInBounds_toArray, List.set_cons_zero, List.set_cons_succ] at hK ⊢
      generalize vs 0 = u0 at hK d0 ⊢
      replace d0 : u0 = _ := d0
      subst d0
      go_simp
      refine (aTaken hM q1 HX.out).mono ?_
      rintro ee wk ⟨rfl, B⟩
      exact hK.out _ _ rfl B
    refine Jo.jcons (i := 2) (o := ⟨some 9, _, _, _, _, _⟩) (di := some 9) (L := []) (f := Jo.Fact.eq (.agg #[.int .i64 D', .bool s', .int .u64 M', .int .i64 E'])) rfl rfl rfl rfl (fun vs wj hJ hd K hK => ?_) ?_
    · clear hd
      simp only [Jo.putl, List.foldl_nil, Act.put, List.setIfInBounds_toArray, List.set_cons_zero, List.set_cons_succ] at hK ⊢
      have xX40 : World.cell? wj ⟨w.heap.size + 1, 0, none⟩ = some (.int .i64 D') := (X4.below hJ).cell 0
      have xX41 : World.cell? wj ⟨w.heap.size + 1, 1, none⟩ = some (.bool s') := (X4.below hJ).cell 1
      have xX42 : World.cell? wj ⟨w.heap.size + 1, 2, none⟩ = some (.int .u64 M') := (X4.below hJ).cell 2
      have xX43 : World.cell? wj ⟨w.heap.size + 1, 3, none⟩ = some (.int .i64 E') := (X4.below hJ).cell 3
      go_simp
      exact hK.out _ _ rfl (Below.refl _ _)
    refine Jo.jcons (i := 3) (o := ⟨some 10, _, _, _, _, _⟩) (di := some 10) (L := [(some 9, 2)]) (f := Jo.Fact.eq (.agg #[.int .i64 K2, .bool s2, .int .u64 M2, .int .i64 E2])) rfl rfl rfl rfl (fun vs wj hJ hd K hK => ?_) ?_
    · have d2 : (Jo.Fact.eq (.agg #[.int .i64 D', .bool s', .int .u64 M', .int .i64 E'])).P (vs 2) wj := hd 2 (by decide)
      clear hd
      simp only [Jo.putl, List.foldl_cons, List.foldl_nil, Act.put, List.setIfInBounds_toArray, List.set_cons_zero, List.set_cons_succ] at hK ⊢
      generalize vs 2 = u2 at hK d2 ⊢
      replace d2 : u2 = _ := d2
      subst d2
      go_simp
      refine (aTaken hM' q2 HY.out).mono ?_
      rintro ee wk ⟨rfl, B⟩
      exact hK.out _ _ rfl B
    exact Jo.Steps.nil
  have d0 : (Jo.Fact.eq (.agg #[.int .i64 D, .bool s, .int .u64 M, .int .i64 E])).P (vs 0) w2 := hd 0 (by decide)
  have d1 : (Jo.Fact.eq (.agg #[.int .i64 K1, .bool s1, .int .u64 M1, .int .i64 E1])).P (vs 1) w2 := hd 1 (by decide)
  have d2 : (Jo.Fact.eq (.agg #[.int .i64 D', .bool s', .int .u64 M', .int .i64 E'])).P (vs 2) w2 := hd 2 (by decide)
  have d3 : (Jo.Fact.eq (.agg #[.int .i64 K2, .bool s2, .int .u64 M2, .int .i64 E2])).P (vs 3) w2 := hd 3 (by decide)
  clear hd
  simp only [Jo.putl, List.foldl_cons, List.foldl_nil, Act.put, List.setIfInBounds_toArray, List.set_cons_zero, List.set_cons_succ]
  generalize vs 0 = u0 at d0 ⊢
  generalize vs 1 = u1 at d1 ⊢
  generalize vs 2 = u2 at d2 ⊢
  generalize vs 3 = u3 at d3 ⊢
  clear vs
  replace d0 : u0 = _ := d0
  subst d0
  replace d1 : u1 = _ := d1
  subst d1
  replace d2 : u2 = _ := d2
  subst d2
  replace d3 : u3 = _ := d3
  subst d3
  replace X3 := X3.below hJ
  replace X4 := X4.below hJ
  replace XR := XR.below hJ
  replace HB := Lib.hid (bt HB.out hJ)
  have xX30 := X3.at (i := 0) (v := .int .i64 D) rfl
  have zX30 := X3.frozen 0
  have xX31 := X3.at (i := 1) (v := .bool s) rfl
  have zX31 := X3.frozen 1
  have xX32 := X3.at (i := 2) (v := .int .u64 M) rfl
  have zX32 := X3.frozen 2
  have xX33 := X3.at (i := 3) (v := .int .i64 E) rfl
  have zX33 := X3.frozen 3
  refine Jo.jnext (i := 4) (o := ⟨none, _, _, _, _, _⟩) (by kernel_rfl) rfl (fun K hK => ?_)
  go_simp
  refine hK.out _ _ ?_
  clear hK K xX30 zX30 xX31 zX31 xX32 zX32 xX33 zX33
  have SX := StN.mk4 X3 (.int .i64 K1) (.bool s1) (.int .u64 M1) (.int .i64 E1)
  replace X4 := X4.stn SX (by omega)
  replace XR := XR.stn SX (by omega)
  replace HB := Lib.hid (SX.below HB.out (by omega))
  replace X3 := SX.box
  clear SX
  generalize (World.setCell (World.setCell (World.setCell (World.setCell w2 ⟨w.heap.size, 0, none⟩ (.int .i64 K1)) ⟨w.heap.size, 1, none⟩ (.bool s1)) ⟨w.heap.size, 2, none⟩ (.int .u64 M1)) ⟨w.heap.size, 3, none⟩ (.int .i64 E1)) = w3 at *
  have xX40 := X4.at (i := 0) (v := .int .i64 D') rfl
  have zX40 := X4.frozen 0
  have xX41 := X4.at (i := 1) (v := .bool s') rfl
  have zX41 := X4.frozen 1
  have xX42 := X4.at (i := 2) (v := .int .u64 M') rfl
  have zX42 := X4.frozen 2
  have xX43 := X4.at (i := 3) (v := .int .i64 E') rfl
  have zX43 := X4.frozen 3
  refine Jo.jnext (i := 5) (o := ⟨none, _, _, _, _, _⟩) (by kernel_rfl) rfl (fun K hK => ?_)
  go_simp
  refine hK.out _ _ ?_
  clear hK K xX40 zX40 xX41 zX41 xX42 zX42 xX43 zX43
  have SX := StN.mk4 X4 (.int .i64 K2) (.bool s2) (.int .u64 M2) (.int .i64 E2)
  replace X3 := X3.stn SX (by omega)
  replace XR := XR.stn SX (by omega)
  replace HB := Lib.hid (SX.below HB.out (by omega))
  replace X4 := SX.box
  clear SX
  generalize (World.setCell (World.setCell (World.setCell (World.setCell w3 ⟨w.heap.size + 1, 0, none⟩ (.int .i64 K2)) ⟨w.heap.size + 1, 1, none⟩ (.bool s2)) ⟨w.heap.size + 1, 2, none⟩ (.int .u64 M2)) ⟨w.heap.size + 1, 3, none⟩ (.int .i64 E2)) = w4 at *
  refine Jo.jdone (by kernel_rfl) ?_
  clear HX HY hM hM'
  have i1 := fq_inf q1
  have i2 := fq_inf q2
  have z1 := q1.zero_iff
  have z2 := q2.zero_iff
  have d1 := q1.bd
  have d2 := q2.bd
  have kk1 : K1 = 2 ∨ K1 = 0 ∨ K1 = 1 := by rcases q1.cases with ⟨h, _⟩ | ⟨h, _⟩ | ⟨h, _⟩ <;> omega
  have kk2 : K2 = 2 ∨ K2 = 0 ∨ K2 = 1 := by rcases q2.cases with ⟨h, _⟩ | ⟨h, _⟩ | ⟨h, _⟩ <;> omega
  rcases kk1 with rfl | rfl | rfl
  · rcases kk2 with rfl | rfl | rfl
    · have hnz : ¬ (x = 0 ∨ y = 0) := fun c => c.elim (fun c => absurd (z1.2 c) (by decide)) (fun c => absurd (z2.2 c) (by decide))
      have sx : decide (x < 0) = s1 := by
        rcases q1.three with ⟨a, _⟩ | ⟨_, rfl, b⟩ | ⟨_, rfl, b⟩
        · exact absurd a (by decide)
        · exact decide_eq_false (by omega)
        · exact decide_eq_true b
      have sy : decide (y < 0) = s2 := by
        rcases q2.three with ⟨a, _⟩ | ⟨_, rfl, b⟩ | ⟨_, rfl, b⟩
        · exact absurd a (by decide)
        · exact decide_eq_false (by omega)
        · exact decide_eq_true b
      rw [mulp_inf up hnz (.inl i1), sx, sy] at hr
      have HRR := Lib.hid hr
      clear i1 i2 z1 z2 d1 d2 q1 q2 hr sx sy hnz
      have xX30 := X3.at (i := 0) (v := .int .i64 2) rfl
      have xX31 := X3.at (i := 1) (v := .bool s1) rfl
      have xX32 := X3.at (i := 2) (v := .int .u64 M1) rfl
      have xX33 := X3.at (i := 3) (v := .int .i64 E1) rfl
      have xX40 := X4.at (i := 0) (v := .int .i64 2) rfl
      have xX41 := X4.at (i := 1) (v := .bool s2) rfl
      have xX42 := X4.at (i := 2) (v := .int .u64 M2) rfl
      have xX43 := X4.at (i := 3) (v := .int .i64 E2) rfl
      go_wp2_with fail
      refine (nInf (s := s1 != s2) HRR.out).mono ?_
      rintro ee w5 ⟨K3, s3, M3, E3, rfl, q3, B⟩
      clear xX30 xX31 xX32 xX33 xX40 xX41 xX42 xX43
      replace X3 := X3.below B
      replace X4 := X4.below B
      replace XR := XR.below B
      replace HB := Lib.hid (bt HB.out B)
      clear B
      have xXR0 := XR.at (i := 0) (v := .int .i64 0) rfl
      have zXR0 := XR.frozen 0
      have xXR1 := XR.at (i := 1) (v := .bool false) rfl
      have zXR1 := XR.frozen 1
      have xXR2 := XR.at (i := 2) (v := .int .u64 0) rfl
      have zXR2 := XR.frozen 2
      have xXR3 := XR.at (i := 3) (v := .int .i64 0) rfl
      have zXR3 := XR.frozen 3
      go_wp2
      clear xXR0 zXR0 xXR1 zXR1 xXR2 zXR2 xXR3 zXR3
      have SX := StN.mk4 XR (.int .i64 K3) (.bool s3) (.int .u64 M3) (.int .i64 E3)
      replace X3 := X3.stn SX (by omega)
      replace X4 := X4.stn SX (by omega)
      replace HB := Lib.hid (SX.below HB.out (by omega))
      replace XR := SX.box
      clear SX
      generalize (World.setCell (World.setCell (World.setCell (World.setCell w5 ⟨w.heap.size + 1 + 1, 0, none⟩ (.int .i64 K3)) ⟨w.heap.size + 1 + 1, 1, none⟩ (.bool s3)) ⟨w.heap.size + 1 + 1, 2, none⟩ (.int .u64 M3)) ⟨w.heap.size + 1 + 1, 3, none⟩ (.int .i64 E3)) = w6 at *
      have r0 := XR.cell 0
      have r1 := XR.cell 1
      have r2 := XR.cell 2
      have r3 := XR.cell 3
      exact bodyPost_ret (v := .agg #[.int .i64 K3, .bool s3, .int .u64 M3, .int .i64 E3]) (by simp [results, Tryd.results18, go_sem, r0, r1, r2, r3]) rfl ⟨_, _, _, _, rfl, q3, HB.out⟩
    · rw [mulp_zero up (.inr (z2.1 rfl))] at hr
      subst hr
      clear i1 i2 z1 z2 d1 d2 q1 q2
      have xXR0 := XR.at (i := 0) (v := .int .i64 0) rfl
      have zXR0 := XR.frozen 0
      have xXR1 := XR.at (i := 1) (v := .bool false) rfl
      have zXR1 := XR.frozen 1
      have xXR2 := XR.at (i := 2) (v := .int .u64 0) rfl
      have zXR2 := XR.frozen 2
      have xXR3 := XR.at (i := 3) (v := .int .i64 0) rfl
      have zXR3 := XR.frozen 3
      have xX30 := X3.at (i := 0) (v := .int .i64 2) rfl
      have xX31 := X3.at (i := 1) (v := .bool s1) rfl
      have xX32 := X3.at (i := 2) (v := .int .u64 M1) rfl
      have xX33 := X3.at (i := 3) (v := .int .i64 E1) rfl
      have xX40 := X4.at (i := 0) (v := .int .i64 0) rfl
      have xX41 := X4.at (i := 1) (v := .bool s2) rfl
      have xX42 := X4.at (i := 2) (v := .int .u64 M2) rfl
      have xX43 := X4.at (i := 3) (v := .int .i64 E2) rfl
      go_wp2
      clear xXR0 zXR0 xXR1 zXR1 xXR2 zXR2 xXR3 zXR3 xX30 xX31 xX32 xX33 xX40 xX41 xX42 xX43
      have SX := StN.mk4 XR (.int .i64 0) (.bool false) (.int .u64 0) (.int .i64 0)
      replace X3 := X3.stn SX (by omega)
      replace X4 := X4.stn SX (by omega)
      replace HB := Lib.hid (SX.below HB.out (by omega))
      replace XR := SX.box
      clear SX
      generalize (World.setCell (World.setCell (World.setCell (World.setCell w4 ⟨w.heap.size + 1 + 1, 0, none⟩ (.int .i64 0)) ⟨w.heap.size + 1 + 1, 1, none⟩ (.bool false)) ⟨w.heap.size + 1 + 1, 2, none⟩ (.int .u64 0)) ⟨w.heap.size + 1 + 1, 3, none⟩ (.int .i64 0)) = w5 at *
      have r0 := XR.cell 0
      have r1 := XR.cell 1
      have r2 := XR.cell 2
      have r3 := XR.cell 3
      exact bodyPost_ret (v := .agg #[.int .i64 0, .bool false, .int .u64 0, .int .i64 0]) (by simp [results, Tryd.results18, go_sem, r0, r1, r2, r3]) rfl ⟨_, _, _, _, rfl, Fq.nought, HB.out⟩
    · have hnz : ¬ (x = 0 ∨ y = 0) := fun c => c.elim (fun c => absurd (z1.2 c) (by decide)) (fun c => absurd (z2.2 c) (by decide))
      have sx : decide (x < 0) = s1 := by
        rcases q1.three with ⟨a, _⟩ | ⟨_, rfl, b⟩ | ⟨_, rfl, b⟩
        · exact absurd a (by decide)
        · exact decide_eq_false (by omega)
        · exact decide_eq_true b
      have sy : decide (y < 0) = s2 := by
        rcases q2.three with ⟨a, _⟩ | ⟨_, rfl, b⟩ | ⟨_, rfl, b⟩
        · exact absurd a (by decide)
        · exact decide_eq_false (by omega)
        · exact decide_eq_true b
      rw [mulp_inf up hnz (.inl i1), sx, sy] at hr
      have HRR := Lib.hid hr
      clear i1 i2 z1 z2 d1 d2 q1 q2 hr sx sy hnz
      have xX30 := X3.at (i := 0) (v := .int .i64 2) rfl
      have xX31 := X3.at (i := 1) (v := .bool s1) rfl
      have xX32 := X3.at (i := 2) (v := .int .u64 M1) rfl
      have xX33 := X3.at (i := 3) (v := .int .i64 E1) rfl
      have xX40 := X4.at (i := 0) (v := .int .i64 1) rfl
      have xX41 := X4.at (i := 1) (v := .bool s2) rfl
      have xX42 := X4.at (i := 2) (v := .int .u64 M2) rfl
      have xX43 := X4.at (i := 3) (v := .int .i64 E2) rfl
      go_wp2_with fail
      refine (nInf (s := s1 != s2) HRR.out).mono ?_
      rintro ee w5 ⟨K3, s3, M3, E3, rfl, q3, B⟩
      clear xX30 xX31 xX32 xX33 xX40 xX41 xX42 xX43
      replace X3 := X3.below B
      replace X4 := X4.below B
      replace XR := XR.below B
      replace HB := Lib.hid (bt HB.out B)
      clear B
      have xXR0 := XR.at (i := 0) (v := .int .i64 0) rfl
      have zXR0 := XR.frozen 0
      have xXR1 := XR.at (i := 1) (v := .bool false) rfl
      have zXR1 := XR.frozen 1
      have xXR2 := XR.at (i := 2) (v := .int .u64 0) rfl
      have zXR2 := XR.frozen 2
      have xXR3 := XR.at (i := 3) (v := .int .i64 0) rfl
      have zXR3 := XR.frozen 3
      go_wp2
      clear xXR0 zXR0 xXR1 zXR1 xXR2 zXR2 xXR3 zXR3
      have SX := StN.mk4 XR (.int .i64 K3) (.bool s3) (.int .u64 M3) (.int .i64 E3)
      replace X3 := X3.stn SX (by omega)
      replace X4 := X4.stn SX (by omega)
      replace HB := Lib.hid (SX.below HB.out (by omega))
      replace XR := SX.box
      clear SX
      generalize (World.setCell (World.setCell (World.setCell (World.setCell w5 ⟨w.heap.size + 1 + 1, 0, none⟩ (.int .i64 K3)) ⟨w.heap.size + 1 + 1, 1, none⟩ (.bool s3)) ⟨w.heap.size + 1 + 1, 2, none⟩ (.int .u64 M3)) ⟨w.heap.size + 1 + 1, 3, none⟩ (.int .i64 E3)) = w6 at *
      have r0 := XR.cell 0
      have r1 := XR.cell 1
      have r2 := XR.cell 2
      have r3 := XR.cell 3
      exact bodyPost_ret (v := .agg #[.int .i64 K3, .bool s3, .int .u64 M3, .int .i64 E3]) (by simp [results, Tryd.results18, go_sem, r0, r1, r2, r3]) rfl ⟨_, _, _, _, rfl, q3, HB.out⟩
  · rcases kk2 with rfl | rfl | rfl
    · rw [mulp_zero up (.inl (z1.1 rfl))] at hr
      subst hr
      clear i1 i2 z1 z2 d1 d2 q1 q2
      have xXR0 := XR.at (i := 0) (v := .int .i64 0) rfl
      have zXR0 := XR.frozen 0
      have xXR1 := XR.at (i := 1) (v := .bool false) rfl
      have zXR1 := XR.frozen 1
      have xXR2 := XR.at (i := 2) (v := .int .u64 0) rfl
      have zXR2 := XR.frozen 2
      have xXR3 := XR.at (i := 3) (v := .int .i64 0) rfl
      have zXR3 := XR.frozen 3
      have xX30 := X3.at (i := 0) (v := .int .i64 0) rfl
      have xX31 := X3.at (i := 1) (v := .bool s1) rfl
      have xX32 := X3.at (i := 2) (v := .int .u64 M1) rfl
      have xX33 := X3.at (i := 3) (v := .int .i64 E1) rfl
      have xX40 := X4.at (i := 0) (v := .int .i64 2) rfl
      have xX41 := X4.at (i := 1) (v := .bool s2) rfl
      have xX42 := X4.at (i := 2) (v := .int .u64 M2) rfl
      have xX43 := X4.at (i := 3) (v := .int .i64 E2) rfl
      go_wp2
      clear xXR0 zXR0 xXR1 zXR1 xXR2 zXR2 xXR3 zXR3 xX30 xX31 xX32 xX33 xX40 xX41 xX42 xX43
      have SX := StN.mk4 XR (.int .i64 0) (.bool false) (.int .u64 0) (.int .i64 0)
      replace X3 := X3.stn SX (by omega)
      replace X4 := X4.stn SX (by omega)
      replace HB := Lib.hid (SX.below HB.out (by omega))
      replace XR := SX.box
      clear SX
      generalize (World.setCell (World.setCell (World.setCell (World.setCell w4 ⟨w.heap.size + 1 + 1, 0, none⟩ (.int .i64 0)) ⟨w.heap.size + 1 + 1, 1, none⟩ (.bool false)) ⟨w.heap.size + 1 + 1, 2, none⟩ (.int .u64 0)) ⟨w.heap.size + 1 + 1, 3, none⟩ (.int .i64 0)) = w5 at *
      have r0 := XR.cell 0
      have r1 := XR.cell 1
      have r2 := XR.cell 2
      have r3 := XR.cell 3
      exact bodyPost_ret (v := .agg #[.int .i64 0, .bool false, .int .u64 0, .int .i64 0]) (by simp [results, Tryd.results18, go_sem, r0, r1, r2, r3]) rfl ⟨_, _, _, _, rfl, Fq.nought, HB.out⟩
    · rw [mulp_zero up (.inl (z1.1 rfl))] at hr
      subst hr
      clear i1 i2 z1 z2 d1 d2 q1 q2
      have xXR0 := XR.at (i := 0) (v := .int .i64 0) rfl
      have zXR0 := XR.frozen 0
      have xXR1 := XR.at (i := 1) (v := .bool false) rfl
      have zXR1 := XR.frozen 1
      have xXR2 := XR.at (i := 2) (v := .int .u64 0) rfl
      have zXR2 := XR.frozen 2
      have xXR3 := XR.at (i := 3) (v := .int .i64 0) rfl
      have zXR3 := XR.frozen 3
      have xX30 := X3.at (i := 0) (v := .int .i64 0) rfl
      have xX31 := X3.at (i := 1) (v := .bool s1) rfl
      have xX32 := X3.at (i := 2) (v := .int .u64 M1) rfl
      have xX33 := X3.at (i := 3) (v := .int .i64 E1) rfl
      have xX40 := X4.at (i := 0) (v := .int .i64 0) rfl
      have xX41 := X4.at (i := 1) (v := .bool s2) rfl
      have xX42 := X4.at (i := 2) (v := .int .u64 M2) rfl
      have xX43 := X4.at (i := 3) (v := .int .i64 E2) rfl
      go_wp2
      clear xXR0 zXR0 xXR1 zXR1 xXR2 zXR2 xXR3 zXR3 xX30 xX31 xX32 xX33 xX40 xX41 xX42 xX43
      have SX := StN.mk4 XR (.int .i64 0) (.bool false) (.int .u64 0) (.int .i64 0)
      replace X3 := X3.stn SX (by omega)
      replace X4 := X4.stn SX (by omega)
      replace HB := Lib.hid (SX.below HB.out (by omega))
      replace XR := SX.box
      clear SX
      generalize (World.setCell (World.setCell (World.setCell (World.setCell w4 ⟨w.heap.size + 1 + 1, 0, none⟩ (.int .i64 0)) ⟨w.heap.size + 1 + 1, 1, none⟩ (.bool false)) ⟨w.heap.size + 1 + 1, 2, none⟩ (.int .u64 0)) ⟨w.heap.size + 1 + 1, 3, none⟩ (.int .i64 0)) = w5 at *
      have r0 := XR.cell 0
      have r1 := XR.cell 1
      have r2 := XR.cell 2
      have r3 := XR.cell 3
      exact bodyPost_ret (v := .agg #[.int .i64 0, .bool false, .int .u64 0, .int .i64 0]) (by simp [results, Tryd.results18, go_sem, r0, r1, r2, r3]) rfl ⟨_, _, _, _, rfl, Fq.nought, HB.out⟩
    · rw [mulp_zero up (.inl (z1.1 rfl))] at hr
      subst hr
      clear i1 i2 z1 z2 d1 d2 q1 q2
      have xXR0 := XR.at (i := 0) (v := .int .i64 0) rfl
      have zXR0 := XR.frozen 0
      have xXR1 := XR.at (i := 1) (v := .bool false) rfl
      have zXR1 := XR.frozen 1
      have xXR2 := XR.at (i := 2) (v := .int .u64 0) rfl
      have zXR2 := XR.frozen 2
      have xXR3 := XR.at (i := 3) (v := .int .i64 0) rfl
      have zXR3 := XR.frozen 3
      have xX30 := X3.at (i := 0) (v := .int .i64 0) rfl
      have xX31 := X3.at (i := 1) (v := .bool s1) rfl
      have xX32 := X3.at (i := 2) (v := .int .u64 M1) rfl
      have xX33 := X3.at (i := 3) (v := .int .i64 E1) rfl
      have xX40 := X4.at (i := 0) (v := .int .i64 1) rfl
      have xX41 := X4.at (i := 1) (v := .bool s2) rfl
      have xX42 := X4.at (i := 2) (v := .int .u64 M2) rfl
      have xX43 := X4.at (i := 3) (v := .int .i64 E2) rfl
      go_wp2
      clear xXR0 zXR0 xXR1 zXR1 xXR2 zXR2 xXR3 zXR3 xX30 xX31 xX32 xX33 xX40 xX41 xX42 xX43
      have SX := StN.mk4 XR (.int .i64 0) (.bool false) (.int .u64 0) (.int .i64 0)
      replace X3 := X3.stn SX (by omega)
      replace X4 := X4.stn SX (by omega)
      replace HB := Lib.hid (SX.below HB.out (by omega))
      replace XR := SX.box
      clear SX
      generalize (World.setCell (World.setCell (World.setCell (World.setCell w4 ⟨w.heap.size + 1 + 1, 0, none⟩ (.int .i64 0)) ⟨w.heap.size + 1 + 1, 1, none⟩ (.bool false)) ⟨w.heap.size + 1 + 1, 2, none⟩ (.int .u64 0)) ⟨w.heap.size + 1 + 1, 3, none⟩ (.int .i64 0)) = w5 at *
      have r0 := XR.cell 0
      have r1 := XR.cell 1
      have r2 := XR.cell 2
      have r3 := XR.cell 3
      exact bodyPost_ret (v := .agg #[.int .i64 0, .bool false, .int .u64 0, .int .i64 0]) (by simp [results, Tryd.results18, go_sem, r0, r1, r2, r3]) rfl ⟨_, _, _, _, rfl, Fq.nought, HB.out⟩
  · rcases kk2 with rfl | rfl | rfl
    · have hnz : ¬ (x = 0 ∨ y = 0) := fun c => c.elim (fun c => absurd (z1.2 c) (by decide)) (fun c => absurd (z2.2 c) (by decide))
      have sx : decide (x < 0) = s1 := by
        rcases q1.three with ⟨a, _⟩ | ⟨_, rfl, b⟩ | ⟨_, rfl, b⟩
        · exact absurd a (by decide)
        · exact decide_eq_false (by omega)
        · exact decide_eq_true b
      have sy : decide (y < 0) = s2 := by
        rcases q2.three with ⟨a, _⟩ | ⟨_, rfl, b⟩ | ⟨_, rfl, b⟩
        · exact absurd a (by decide)
        · exact decide_eq_false (by omega)
        · exact decide_eq_true b
      rw [mulp_inf up hnz (.inr i2), sx, sy] at hr
      have HRR := Lib.hid hr
      clear i1 i2 z1 z2 d1 d2 q1 q2 hr sx sy hnz
      have xX30 := X3.at (i := 0) (v := .int .i64 1) rfl
      have xX31 := X3.at (i := 1) (v := .bool s1) rfl
      have xX32 := X3.at (i := 2) (v := .int .u64 M1) rfl
      have xX33 := X3.at (i := 3) (v := .int .i64 E1) rfl
      have xX40 := X4.at (i := 0) (v := .int .i64 2) rfl
      have xX41 := X4.at (i := 1) (v := .bool s2) rfl
      have xX42 := X4.at (i := 2) (v := .int .u64 M2) rfl
      have xX43 := X4.at (i := 3) (v := .int .i64 E2) rfl
      go_wp2_with fail
      refine (nInf (s := s1 != s2) HRR.out).mono ?_
      rintro ee w5 ⟨K3, s3, M3, E3, rfl, q3, B⟩
      clear xX30 xX31 xX32 xX33 xX40 xX41 xX42 xX43
      replace X3 := X3.below B
      replace X4 := X4.below B
      replace XR := XR.below B
      replace HB := Lib.hid (bt HB.out B)
      clear B
      have xXR0 := XR.at (i := 0) (v := .int .i64 0) rfl
      have zXR0 := XR.frozen 0
      have xXR1 := XR.at (i := 1) (v := .bool false) rfl
      have zXR1 := XR.frozen 1
      have xXR2 := XR.at (i := 2) (v := .int .u64 0) rfl
      have zXR2 := XR.frozen 2
      have xXR3 := XR.at (i := 3) (v := .int .i64 0) rfl
      have zXR3 := XR.frozen 3
      go_wp2
      clear xXR0 zXR0 xXR1 zXR1 xXR2 zXR2 xXR3 zXR3
      have SX := StN.mk4 XR (.int .i64 K3) (.bool s3) (.int .u64 M3) (.int .i64 E3)
      replace X3 := X3.stn SX (by omega)
      replace X4 := X4.stn SX (by omega)
      replace HB := Lib.hid (SX.below HB.out (by omega))
      replace XR := SX.box
      clear SX
      generalize (World.setCell (World.setCell (World.setCell (World.setCell w5 ⟨w.heap.size + 1 + 1, 0, none⟩ (.int .i64 K3)) ⟨w.heap.size + 1 + 1, 1, none⟩ (.bool s3)) ⟨w.heap.size + 1 + 1, 2, none⟩ (.int .u64 M3)) ⟨w.heap.size + 1 + 1, 3, none⟩ (.int .i64 E3)) = w6 at *
      have r0 := XR.cell 0
      have r1 := XR.cell 1
      have r2 := XR.cell 2
      have r3 := XR.cell 3
      exact bodyPost_ret (v := .agg #[.int .i64 K3, .bool s3, .int .u64 M3, .int .i64 E3]) (by simp [results, Tryd.results18, go_sem, r0, r1, r2, r3]) rfl ⟨_, _, _, _, rfl, q3, HB.out⟩
    · rw [mulp_zero up (.inr (z2.1 rfl))] at hr
      subst hr
      clear i1 i2 z1 z2 d1 d2 q1 q2
      have xXR0 := XR.at (i := 0) (v := .int .i64 0) rfl
      have zXR0 := XR.frozen 0
      have xXR1 := XR.at (i := 1) (v := .bool false) rfl
      have zXR1 := XR.frozen 1
      have xXR2 := XR.at (i := 2) (v := .int .u64 0) rfl
      have zXR2 := XR.frozen 2
      have xXR3 := XR.at (i := 3) (v := .int .i64 0) rfl
      have zXR3 := XR.frozen 3
      have xX30 := X3.at (i := 0) (v := .int .i64 1) rfl
      have xX31 := X3.at (i := 1) (v := .bool s1) rfl
      have xX32 := X3.at (i := 2) (v := .int .u64 M1) rfl
      have xX33 := X3.at (i := 3) (v := .int .i64 E1) rfl
      have xX40 := X4.at (i := 0) (v := .int .i64 0) rfl
      have xX41 := X4.at (i := 1) (v := .bool s2) rfl
      have xX42 := X4.at (i := 2) (v := .int .u64 M2) rfl
      have xX43 := X4.at (i := 3) (v := .int .i64 E2) rfl
      go_wp2
      clear xXR0 zXR0 xXR1 zXR1 xXR2 zXR2 xXR3 zXR3 xX30 xX31 xX32 xX33 xX40 xX41 xX42 xX43
      have SX := StN.mk4 XR (.int .i64 0) (.bool false) (.int .u64 0) (.int .i64 0)
      replace X3 := X3.stn SX (by omega)
      replace X4 := X4.stn SX (by omega)
      replace HB := Lib.hid (SX.below HB.out (by omega))
      replace XR := SX.box
      clear SX
      generalize (World.setCell (World.setCell (World.setCell (World.setCell w4 ⟨w.heap.size + 1 + 1, 0, none⟩ (.int .i64 0)) ⟨w.heap.size + 1 + 1, 1, none⟩ (.bool false)) ⟨w.heap.size + 1 + 1, 2, none⟩ (.int .u64 0)) ⟨w.heap.size + 1 + 1, 3, none⟩ (.int .i64 0)) = w5 at *
      have r0 := XR.cell 0
      have r1 := XR.cell 1
      have r2 := XR.cell 2
      have r3 := XR.cell 3
      exact bodyPost_ret (v := .agg #[.int .i64 0, .bool false, .int .u64 0, .int .i64 0]) (by simp [results, Tryd.results18, go_sem, r0, r1, r2, r3]) rfl ⟨_, _, _, _, rfl, Fq.nought, HB.out⟩
    · have HRR := Lib.hid hr
      clear i1 i2 z1 z2 d1 d2 hr
      have xX30 := X3.at (i := 0) (v := .int .i64 1) rfl
      have xX31 := X3.at (i := 1) (v := .bool s1) rfl
      have xX32 := X3.at (i := 2) (v := .int .u64 M1) rfl
      have xX33 := X3.at (i := 3) (v := .int .i64 E1) rfl
      have xX40 := X4.at (i := 0) (v := .int .i64 1) rfl
      have xX41 := X4.at (i := 1) (v := .bool s2) rfl
      have xX42 := X4.at (i := 2) (v := .int .u64 M2) rfl
      have xX43 := X4.at (i := 3) (v := .int .i64 E2) rfl
      go_wp2_with fail
      refine (aProduct q1 q2).mono ?_
      rintro ee w5 ⟨s3, H3, L3, x3, rfl, p3, B⟩
      clear xX30 xX31 xX32 xX33 xX40 xX41 xX42 xX43
      replace X3 := X3.below B
      replace X4 := X4.below B
      replace XR := XR.below B
      replace HB := Lib.hid (bt HB.out B)
      clear B
      go_wp2_with fail
      refine (aRound p3 HRR.out).mono ?_
      rintro ee w6 ⟨K4, s4, M4, E4, rfl, q4, B⟩
      replace X3 := X3.below B
      replace X4 := X4.below B
      replace XR := XR.below B
      replace HB := Lib.hid (bt HB.out B)
      clear B
      have xXR0 := XR.at (i := 0) (v := .int .i64 0) rfl
      have zXR0 := XR.frozen 0
      have xXR1 := XR.at (i := 1) (v := .bool false) rfl
      have zXR1 := XR.frozen 1
      have xXR2 := XR.at (i := 2) (v := .int .u64 0) rfl
      have zXR2 := XR.frozen 2
      have xXR3 := XR.at (i := 3) (v := .int .i64 0) rfl
      have zXR3 := XR.frozen 3
      go_wp2
      clear xXR0 zXR0 xXR1 zXR1 xXR2 zXR2 xXR3 zXR3
      have SX := StN.mk4 XR (.int .i64 K4) (.bool s4) (.int .u64 M4) (.int .i64 E4)
      replace X3 := X3.stn SX (by omega)
      replace X4 := X4.stn SX (by omega)
      replace HB := Lib.hid (SX.below HB.out (by omega))
      replace XR := SX.box
      clear SX
      generalize (World.setCell (World.setCell (World.setCell (World.setCell w6 ⟨w.heap.size + 1 + 1, 0, none⟩ (.int .i64 K4)) ⟨w.heap.size + 1 + 1, 1, none⟩ (.bool s4)) ⟨w.heap.size + 1 + 1, 2, none⟩ (.int .u64 M4)) ⟨w.heap.size + 1 + 1, 3, none⟩ (.int .i64 E4)) = w7 at *
      have r0 := XR.cell 0
      have r1 := XR.cell 1
      have r2 := XR.cell 2
      have r3 := XR.cell 3
      exact bodyPost_ret (v := .agg #[.int .i64 K4, .bool s4, .int .u64 M4, .int .i64 E4]) (by simp [results, Tryd.results18, go_sem, r0, r1, r2, r3]) rfl ⟨_, _, _, _, rfl, q4, HB.out⟩
set_option maxHeartbeats 4000000 in
theorem aSub {w : World} {D D' M M' E E' : Int} {s s' : Bool} {up : Bool} {x y r : Int} (hT : Tb w) (hM : M < 18446744073709551616) (hM' : M' < 18446744073709551616) (hx : rk D s M E = x) (hy : -rk D' s' M' E' = y) (hr : addp up x y = r) : Calls Tryd.prog 15 #[.agg #[.int .i64 D, .bool s, .int .u64 M, .int .i64 E], .agg #[.int .i64 D', .bool s', .int .u64 M', .int .i64 E'], .bool up] w (PN w r) := by
  have HX := Lib.hid hx
  have HY := Lib.hid hy
  have HR := Lib.hid hr
  clear hx hy hr
  go_enter Tryd.func15, Tryd.ntmps15
  go_upto_region 1 with (fail)
  have X3 := (Bo.newAt w (g := w.heap.size) (by simp) #[.int .i64 D, .bool s, .int .u64 M, .int .i64 E] 24).below (bel2 _ (.cells #[.int .i64 D', .bool s', .int .u64 M', .int .i64 E'] 24) (.cells #[.int .i64 0, .bool false, .int .u64 0, .int .i64 0] 24))
  have X4 := (Bo.newAt (w.alloc (.cells #[.int .i64 D, .bool s, .int .u64 M, .int .i64 E] 24)) (g := w.heap.size + 1) (by simp) #[.int .i64 D', .bool s', .int .u64 M', .int .i64 E'] 24).below (bel1 _ (.cells #[.int .i64 0, .bool false, .int .u64 0, .int .i64 0] 24))
  have XR := (Bo.newAt ((w.alloc (.cells #[.int .i64 D, .bool s, .int .u64 M, .int .i64 E] 24)).alloc (.cells #[.int .i64 D', .bool s', .int .u64 M', .int .i64 E'] 24)) (g := w.heap.size + 1 + 1) (by simp) #[.int .i64 0, .bool false, .int .u64 0, .int .i64 0] 24)
  have HB := Lib.hid (bel3 w (.cells #[.int .i64 D, .bool s, .int .u64 M, .int .i64 E] 24) (.cells #[.int .i64 D', .bool s', .int .u64 M', .int .i64 E'] 24) (.cells #[.int .i64 0, .bool false, .int .u64 0, .int .i64 0] 24))
  replace hT := hT.below HB.out
  generalize hW1 : (((w.alloc (.cells #[.int .i64 D, .bool s, .int .u64 M, .int .i64 E] 24)).alloc (.cells #[.int .i64 D', .bool s', .int .u64 M', .int .i64 E'] 24)).alloc (.cells #[.int .i64 0, .bool false, .int .u64 0, .int .i64 0] 24)) = w1 at *
  clear hW1
  refine Jo.region_joint (T := [0, 1, 2, 3, 4]) (ds := [some 7, some 8, some 9, some 10, some 11, none]) (ls := [[], [], [1], [], [0, 2, 3], []]) (k := 6) (L := [(some 7, 0), (some 8, 1), (some 9, 2), (some 10, 3), (some 11, 4)]) (fuel := 1) (J := fun wj => Below (World.heap w1).size w1 wj)
    (F := [Jo.Fact.eq (.agg #[.int .i64 D, .bool s, .int .u64 M, .int .i64 E]), Jo.Fact.eq (.agg #[.int .i64 D', .bool s', .int .u64 M', .int .i64 E']), Jo.Fact.num y, Jo.Fact.eq (.bool up), Jo.Fact.num r, Jo.Fact.any])
    (by kernel_rfl) (by kernel_rfl) (by decide) rfl rfl (fun _ _ h b => bt h b) ((Below.refl _ _).drew) ?_ (fun vs w2 hJ hd => ?_)
  · refine Jo.jcons (i := 0) (o := ⟨some 7, _, _, _, _, _⟩) (di := some 7) (L := []) (f := Jo.Fact.eq (.agg #[.int .i64 D, .bool s, .int .u64 M, .int .i64 E])) rfl rfl rfl rfl (fun vs wj hJ hd K hK => ?_) ?_
    · clear hd
      simp only [Jo.putl, List.foldl_nil, Act.put, List.setIfInBounds_toArray, List.set_cons_zero, List.set_cons_succ] at hK ⊢
      have xX30 : World.cell? wj ⟨w.heap.size, 0, none⟩ = some (.int .i64 D) := (X3.below hJ).cell 0
      have xX31 : World.cell? wj ⟨w.heap.size, 1, none⟩ = some (.bool s) := (X3.below hJ).cell 1
      have xX32 : World.cell? wj ⟨w.heap.size, 2, none⟩ = some (.int .u64 M) := (X3.below hJ).cell 2
      have xX33 : World.cell? wj ⟨w.heap.size, 3, none⟩ = some (.int .i64 E) := (X3.below hJ).cell 3
      go_simp
      exact hK.out _ _ rfl (Below.refl _ _)
    refine Jo.jcons (i := 1) (o := ⟨some 8, _, _, _, _, _⟩) (di := some 8) (L := []) (f := Jo.Fact.eq (.agg #[.int .i64 D', .bool s', .int .u64 M', .int .i64 E'])) rfl rfl rfl rfl (fun vs wj hJ hd K hK => ?_) ?_
    · clear hd
      simp only [Jo.putl, List.foldl_nil, Act.put, List.setIfInBounds_toArray, List.set_cons_zero, List.set_cons_succ] at hK ⊢
      have xX40 : World.cell? wj ⟨w.heap.size + 1, 0, none⟩ = some (.int .i64 D') := (X4.below hJ).cell 0
      have xX41 : World.cell? wj ⟨w.heap.size + 1, 1, none⟩ = some (.bool s') := (X4.below hJ).cell 1
      have xX42 : World.cell? wj ⟨w.heap.size + 1, 2, none⟩ = some (.int .u64 M') := (X4.below hJ).cell 2
      have xX43 : World.cell? wj ⟨w.heap.size + 1, 3, none⟩ = some (.int .i64 E') := (X4.below hJ).cell 3
      go_simp
      exact hK.out _ _ rfl (Below.refl _ _)
    refine Jo.jcons (i := 2) (o := ⟨some 9, _, _, _, _, _⟩) (di := some 9) (L := [(some 8, 1)]) (f := Jo.Fact.num y) rfl rfl rfl rfl (fun vs wj hJ hd K hK => ?_) ?_
    · have d1 : (Jo.Fact.eq (.agg #[.int .i64 D', .bool s', .int .u64 M', .int .i64 E'])).P (vs 1) wj := hd 1 (by decide)
      clear hd
      simp only [Jo.putl, List.foldl_cons, List.foldl_nil, Act.put, List.setIfInBounds_toArray, List.set_cons_zero, List.set_cons_succ] at hK ⊢
      generalize vs 1 = u1 at hK d1 ⊢
      replace d1 : u1 = _ := d1
      subst d1
      go_simp
      refine (nNeg hM' HY.out).mono ?_
      rintro ee wk ⟨K4, s4, M4, E4, rfl, q4, B⟩
      exact hK.out _ _ ⟨K4, s4, M4, E4, rfl, q4⟩ B
    refine Jo.jcons (i := 3) (o := ⟨some 10, _, _, _, _, _⟩) (di := some 10) (L := []) (f := Jo.Fact.eq (.bool up)) rfl rfl rfl rfl (fun vs wj hJ hd K hK => ?_) ?_
    · clear hd
      simp only [Jo.putl, List.foldl_nil, Act.put, List.setIfInBounds_toArray, List.set_cons_zero, List.set_cons_succ] at hK ⊢
      go_simp
      exact hK.out _ _ rfl (Below.refl _ _)
    refine Jo.jcons (i := 4) (o := ⟨some 11, _, _, _, _, _⟩) (di := some 11) (L := [(some 7, 0), (some 9, 2), (some 10, 3)]) (f := Jo.Fact.num r) rfl rfl rfl rfl (fun vs wj hJ hd K hK => ?_) ?_
    · have d0 : (Jo.Fact.eq (.agg #[.int .i64 D, .bool s, .int .u64 M, .int .i64 E])).P (vs 0) wj := hd 0 (by decide)
      have d2 : (Jo.Fact.num y).P (vs 2) wj := hd 2 (by decide)
      have d3 : (Jo.Fact.eq (.bool up)).P (vs 3) wj := hd 3 (by decide)
      clear hd
      simp only [Jo.putl, List.foldl_cons, List.foldl_nil, Act.put, List.setIfInBounds_toArray, List.set_cons_zero, List.set_cons_succ] at hK ⊢
      generalize vs 0 = u0 at hK d0 ⊢
      generalize vs 2 = u2 at hK d2 ⊢
      generalize vs 3 = u3 at hK d3 ⊢
      replace d0 : u0 = _ := d0
      subst d0
      obtain ⟨K4, s4, M4, E4, rfl, q4⟩ := d2
      replace d3 : u3 = _ := d3
      subst d3
      go_simp
      refine (aAdd (hT.below hJ) hM q4.top HX.out q4.rk HR.out).mono ?_
      rintro ee wk ⟨K5, s5, M5, E5, rfl, q5, B⟩
      exact hK.out _ _ ⟨K5, s5, M5, E5, rfl, q5⟩ B
    exact Jo.Steps.nil
  have d0 : (Jo.Fact.eq (.agg #[.int .i64 D, .bool s, .int .u64 M, .int .i64 E])).P (vs 0) w2 := hd 0 (by decide)
  have d1 : (Jo.Fact.eq (.agg #[.int .i64 D', .bool s', .int .u64 M', .int .i64 E'])).P (vs 1) w2 := hd 1 (by decide)
  have d2 : (Jo.Fact.num y).P (vs 2) w2 := hd 2 (by decide)
  have d3 : (Jo.Fact.eq (.bool up)).P (vs 3) w2 := hd 3 (by decide)
  have d4 : (Jo.Fact.num r).P (vs 4) w2 := hd 4 (by decide)
  clear hd
  simp only [Jo.putl, List.foldl_cons, List.foldl_nil, Act.put, List.setIfInBounds_toArray, List.set_cons_zero, List.set_cons_succ]
  generalize vs 0 = u0 at d0 ⊢
  generalize vs 1 = u1 at d1 ⊢
  generalize vs 2 = u2 at d2 ⊢
  generalize vs 3 = u3 at d3 ⊢
  generalize vs 4 = u4 at d4 ⊢
  clear vs
  replace d0 : u0 = _ := d0
  subst d0
  replace d1 : u1 = _ := d1
  subst d1
  obtain ⟨K4, s4, M4, E4, rfl, q4⟩ := d2
  replace d3 : u3 = _ := d3
  subst d3
  obtain ⟨K5, s5, M5, E5, rfl, q5⟩ := d4
  replace X3 := X3.below hJ
  replace X4 := X4.below hJ
  replace XR := XR.below hJ
  replace hT := hT.below hJ
  replace HB := Lib.hid (bt HB.out hJ)
  have xXR0 := XR.at (i := 0) (v := .int .i64 0) rfl
  have zXR0 := XR.frozen 0
  have xXR1 := XR.at (i := 1) (v := .bool false) rfl
  have zXR1 := XR.frozen 1
  have xXR2 := XR.at (i := 2) (v := .int .u64 0) rfl
  have zXR2 := XR.frozen 2
  have xXR3 := XR.at (i := 3) (v := .int .i64 0) rfl
  have zXR3 := XR.frozen 3
  refine Jo.jnext (i := 5) (o := ⟨none, _, _, _, _, _⟩) (by kernel_rfl) rfl (fun K hK => ?_)
  go_simp
  refine hK.out _ _ ?_
  clear hK K xXR0 zXR0 xXR1 zXR1 xXR2 zXR2 xXR3 zXR3
  have SX := StN.mk4 XR (.int .i64 K5) (.bool s5) (.int .u64 M5) (.int .i64 E5)
  replace X3 := X3.stn SX (by omega)
  replace X4 := X4.stn SX (by omega)
  replace HB := Lib.hid (SX.below HB.out (by omega))
  replace XR := SX.box
  clear SX
  generalize (World.setCell (World.setCell (World.setCell (World.setCell w2 ⟨w.heap.size + 1 + 1, 0, none⟩ (.int .i64 K5)) ⟨w.heap.size + 1 + 1, 1, none⟩ (.bool s5)) ⟨w.heap.size + 1 + 1, 2, none⟩ (.int .u64 M5)) ⟨w.heap.size + 1 + 1, 3, none⟩ (.int .i64 E5)) = w3 at *
  refine Jo.jdone (by kernel_rfl) ?_
  go_wp2
  have r0 := XR.cell 0
  have r1 := XR.cell 1
  have r2 := XR.cell 2
  have r3 := XR.cell 3
  exact bodyPost_ret (v := .agg #[.int .i64 K5, .bool s5, .int .u64 M5, .int .i64 E5]) (by simp [results, Tryd.results15, go_sem, r0, r1, r2, r3]) rfl ⟨_, _, _, _, rfl, q5, HB.out⟩
theorem fq_hlf : Fq 1 false 9223372036854775808 (-64) hlf := Fq.fin (by decide) (by decide) (by decide) (by decide) (by decide)
set_option maxHeartbeats 4000000 in
theorem aHalf {w : World} {D M E : Int} {s : Bool} {up : Bool} {x r : Int} (hM : M < 18446744073709551616) (hx : rk D s M E = x) (hr : mulp up x hlf = r) : Calls Tryd.prog 20 #[.agg #[.int .i64 D, .bool s, .int .u64 M, .int .i64 E], .bool up] w (PN w r) := by
  have HX := Lib.hid hx
  have HR := Lib.hid hr
  clear hx hr
  go_enter Tryd.func20, Tryd.ntmps20
  go_upto_region 1 with (fail)
  have X1 := (Bo.newAt w (g := w.heap.size) (by simp) #[.int .i64 D, .bool s, .int .u64 M, .int .i64 E] 24).below (bel1 _ (.cells #[.int .i64 0, .bool false, .int .u64 0, .int .i64 0] 24))
  have XR := (Bo.newAt (w.alloc (.cells #[.int .i64 D, .bool s, .int .u64 M, .int .i64 E] 24)) (g := w.heap.size + 1) (by simp) #[.int .i64 0, .bool false, .int .u64 0, .int .i64 0] 24)
  have HB := Lib.hid (bel2 w (.cells #[.int .i64 D, .bool s, .int .u64 M, .int .i64 E] 24) (.cells #[.int .i64 0, .bool false, .int .u64 0, .int .i64 0] 24))
  generalize hW1 : ((w.alloc (.cells #[.int .i64 D, .bool s, .int .u64 M, .int .i64 E] 24)).alloc (.cells #[.int .i64 0, .bool false, .int .u64 0, .int .i64 0] 24)) = w1 at *
  clear hW1
  go_wp2_with fail
  refine (nOf _ (by decide) (by decide) rfl).mono ?_
  rintro ee w2 ⟨K1, s1, M1, E1, rfl, q1, B⟩
  replace X1 := X1.below B
  replace XR := XR.below B
  replace HB := Lib.hid (bt HB.out B)
  clear B
  obtain ⟨rfl, rfl, rfl, rfl⟩ := q1.uniq fq_one
  clear q1
  go_upto_region 2 with (fail)
  have lX5 := Nat.le_refl (World.heap w2).size
  have nX5X1 := X1.lt
  have nX5XR := XR.lt
  replace X1 := X1.below (bel1 _ (.cells #[.int .i64 1, .bool false, .int .u64 9223372036854775808, .int .i64 (-63)] 24))
  replace XR := XR.below (bel1 _ (.cells #[.int .i64 1, .bool false, .int .u64 9223372036854775808, .int .i64 (-63)] 24))
  replace HB := Lib.hid (bt HB.out (bel1 _ (.cells #[.int .i64 1, .bool false, .int .u64 9223372036854775808, .int .i64 (-63)] 24)))
  have X5 := Bo.new w2 #[.int .i64 1, .bool false, .int .u64 9223372036854775808, .int .i64 (-63)] 24
  generalize hWn : World.alloc w2 (.cells #[.int .i64 1, .bool false, .int .u64 9223372036854775808, .int .i64 (-63)] 24) = w3 at *
  clear hWn
  clear lX5
  have xX50 := X5.at (i := 0) (v := .int .i64 1) rfl
  have zX50 := X5.frozen 0
  have xX51 := X5.at (i := 1) (v := .bool false) rfl
  have zX51 := X5.frozen 1
  have xX52 := X5.at (i := 2) (v := .int .u64 9223372036854775808) rfl
  have zX52 := X5.frozen 2
  have xX53 := X5.at (i := 3) (v := .int .i64 (-63)) rfl
  have zX53 := X5.frozen 3
  go_upto_region 3 with (fail)
  clear xX50 zX50 xX51 zX51 xX52 zX52 xX53 zX53
  have SX : StN w3 (World.setCell w3 ⟨w2.heap.size, 3, none⟩ (.int .i64 (-64))) _ _ #[.int .i64 1, .bool false, .int .u64 9223372036854775808, .int .i64 (-64)] _ := StN.at4 X5 3 (.int .i64 (-64))
  replace X1 := X1.stn SX (by omega)
  replace XR := XR.stn SX (by omega)
  replace HB := Lib.hid (SX.below HB.out (by omega))
  replace X5 := SX.box
  clear SX
  generalize World.setCell w3 ⟨w2.heap.size, 3, none⟩ (.int .i64 (-64)) = w4 at *
  have xX10 := X1.at (i := 0) (v := .int .i64 D) rfl
  have xX11 := X1.at (i := 1) (v := .bool s) rfl
  have xX12 := X1.at (i := 2) (v := .int .u64 M) rfl
  have xX13 := X1.at (i := 3) (v := .int .i64 E) rfl
  have xX50 := X5.at (i := 0) (v := .int .i64 1) rfl
  have xX51 := X5.at (i := 1) (v := .bool false) rfl
  have xX52 := X5.at (i := 2) (v := .int .u64 9223372036854775808) rfl
  have xX53 := X5.at (i := 3) (v := .int .i64 (-64)) rfl
  go_wp2_with fail
  refine (aMul hM fq_hlf.top HX.out fq_hlf.rk HR.out).mono ?_
  rintro ee w5 ⟨K2, s2, M2, E2, rfl, q2, B⟩
  clear xX10 xX11 xX12 xX13 xX50 xX51 xX52 xX53
  replace X1 := X1.below B
  replace XR := XR.below B
  replace X5 := X5.below B
  replace HB := Lib.hid (bt HB.out B)
  clear B
  have xXR0 := XR.at (i := 0) (v := .int .i64 0) rfl
  have zXR0 := XR.frozen 0
  have xXR1 := XR.at (i := 1) (v := .bool false) rfl
  have zXR1 := XR.frozen 1
  have xXR2 := XR.at (i := 2) (v := .int .u64 0) rfl
  have zXR2 := XR.frozen 2
  have xXR3 := XR.at (i := 3) (v := .int .i64 0) rfl
  have zXR3 := XR.frozen 3
  go_wp2
  clear xXR0 zXR0 xXR1 zXR1 xXR2 zXR2 xXR3 zXR3
  have SX := StN.mk4 XR (.int .i64 K2) (.bool s2) (.int .u64 M2) (.int .i64 E2)
  replace X1 := X1.stn SX (by omega)
  replace X5 := X5.stn SX (by omega)
  replace HB := Lib.hid (SX.below HB.out (by omega))
  replace XR := SX.box
  clear SX
  generalize (World.setCell (World.setCell (World.setCell (World.setCell w5 ⟨w.heap.size + 1, 0, none⟩ (.int .i64 K2)) ⟨w.heap.size + 1, 1, none⟩ (.bool s2)) ⟨w.heap.size + 1, 2, none⟩ (.int .u64 M2)) ⟨w.heap.size + 1, 3, none⟩ (.int .i64 E2)) = w6 at *
  have r0 := XR.cell 0
  have r1 := XR.cell 1
  have r2 := XR.cell 2
  have r3 := XR.cell 3
  exact bodyPost_ret (v := .agg #[.int .i64 K2, .bool s2, .int .u64 M2, .int .i64 E2]) (by simp [results, Tryd.results20, go_sem, r0, r1, r2, r3]) rfl ⟨_, _, _, _, rfl, q2, HB.out⟩
set_option maxHeartbeats 4000000 in
theorem aTwice {w : World} {D M E : Int} {s : Bool} {up : Bool} {x r : Int} (hM : M < 18446744073709551616) (hx : rk D s M E = x) (hr : mulp up x (opl 2) = r) : Calls Tryd.prog 22 #[.agg #[.int .i64 D, .bool s, .int .u64 M, .int .i64 E], .bool up] w (PN w r) := by
  have HX := Lib.hid hx
  have HR := Lib.hid hr
  have HO := Lib.hid (show sgi (decide ((2 : Int) < 0)) (lo (2 : Int).natAbs 0) = opl 2 from rfl)
  clear hx hr
  revert HR HO
  generalize opl 2 = o
  intro HR HO
  go_enter Tryd.func22, Tryd.ntmps22
  go_upto_region 1 with (fail)
  have X1 := (Bo.newAt w (g := w.heap.size) (by simp) #[.int .i64 D, .bool s, .int .u64 M, .int .i64 E] 24).below (bel1 _ (.cells #[.int .i64 0, .bool false, .int .u64 0, .int .i64 0] 24))
  have XR := (Bo.newAt (w.alloc (.cells #[.int .i64 D, .bool s, .int .u64 M, .int .i64 E] 24)) (g := w.heap.size + 1) (by simp) #[.int .i64 0, .bool false, .int .u64 0, .int .i64 0] 24)
  have HB := Lib.hid (bel2 w (.cells #[.int .i64 D, .bool s, .int .u64 M, .int .i64 E] 24) (.cells #[.int .i64 0, .bool false, .int .u64 0, .int .i64 0] 24))
  generalize hW1 : ((w.alloc (.cells #[.int .i64 D, .bool s, .int .u64 M, .int .i64 E] 24)).alloc (.cells #[.int .i64 0, .bool false, .int .u64 0, .int .i64 0] 24)) = w1 at *
  clear hW1
  refine Jo.region_joint (T := [0, 1, 2, 3]) (ds := [some 5, some 6, some 7, some 8, none]) (ls := [[], [], [], [0, 1, 2], []]) (k := 5) (L := [(some 5, 0), (some 6, 1), (some 7, 2), (some 8, 3)]) (fuel := 1) (J := fun wj => Below (World.heap w1).size w1 wj)
    (F := [Jo.Fact.eq (.agg #[.int .i64 D, .bool s, .int .u64 M, .int .i64 E]), Jo.Fact.num o, Jo.Fact.eq (.bool up), Jo.Fact.num r, Jo.Fact.any])
    (by kernel_rfl) (by kernel_rfl) (by decide) rfl rfl (fun _ _ h b => bt h b) ((Below.refl _ _).drew) ?_ (fun vs w2 hJ hd => ?_)
  · refine Jo.jcons (i := 0) (o := ⟨some 5, _, _, _, _, _⟩) (di := some 5) (L := []) (f := Jo.Fact.eq (.agg #[.int .i64 D, .bool s, .int .u64 M, .int .i64 E])) rfl rfl rfl rfl (fun vs wj hJ hd K hK => ?_) ?_
    · clear hd
      simp only [Jo.putl, List.foldl_nil, Act.put, List.setIfInBounds_toArray, List.set_cons_zero, List.set_cons_succ] at hK ⊢
      have xX10 : World.cell? wj ⟨w.heap.size, 0, none⟩ = some (.int .i64 D) := (X1.below hJ).cell 0
      have xX11 : World.cell? wj ⟨w.heap.size, 1, none⟩ = some (.bool s) := (X1.below hJ).cell 1
      have xX12 : World.cell? wj ⟨w.heap.size, 2, none⟩ = some (.int .u64 M) := (X1.below hJ).cell 2
      have xX13 : World.cell? wj ⟨w.heap.size, 3, none⟩ = some (.int .i64 E) := (X1.below hJ).cell 3
      go_simp
      exact hK.out _ _ rfl (Below.refl _ _)
    refine Jo.jcons (i := 1) (o := ⟨some 6, _, _, _, _, _⟩) (di := some 6) (L := []) (f := Jo.Fact.num o) rfl rfl rfl rfl (fun vs wj hJ hd K hK => ?_) ?_
    · clear hd
      simp only [Jo.putl, List.foldl_nil, Act.put, List.setIfInBounds_toArray, List.set_cons_zero, List.set_cons_succ] at hK ⊢
      go_simp
      refine (nOf _ (by decide) (by decide) HO.out).mono ?_
      rintro ee wk ⟨K4, s4, M4, E4, rfl, q4, B⟩
      exact hK.out _ _ ⟨K4, s4, M4, E4, rfl, q4⟩ B
    refine Jo.jcons (i := 2) (o := ⟨some 7, _, _, _, _, _⟩) (di := some 7) (L := []) (f := Jo.Fact.eq (.bool up)) rfl rfl rfl rfl (fun vs wj hJ hd K hK => ?_) ?_
    · clear hd
      simp only [Jo.putl, List.foldl_nil, Act.put, List.setIfInBounds_toArray, List.set_cons_zero, List.set_cons_succ] at hK ⊢
      go_simp
      exact hK.out _ _ rfl (Below.refl _ _)
    refine Jo.jcons (i := 3) (o := ⟨some 8, _, _, _, _, _⟩) (di := some 8) (L := [(some 5, 0), (some 6, 1), (some 7, 2)]) (f := Jo.Fact.num r) rfl rfl rfl rfl (fun vs wj hJ hd K hK => ?_) ?_
    · have d0 : (Jo.Fact.eq (.agg #[.int .i64 D, .bool s, .int .u64 M, .int .i64 E])).P (vs 0) wj := hd 0 (by decide)
      have d1 : (Jo.Fact.num o).P (vs 1) wj := hd 1 (by decide)
      have d2 : (Jo.Fact.eq (.bool up)).P (vs 2) wj := hd 2 (by decide)
      clear hd
      simp only [Jo.putl, List.foldl_cons, List.foldl_nil, Act.put, List.setIfInBounds_toArray, List.set_cons_zero, List.set_cons_succ] at hK ⊢
      generalize vs 0 = u0 at hK d0 ⊢
      generalize vs 1 = u1 at hK d1 ⊢
      generalize vs 2 = u2 at hK d2 ⊢
      replace d0 : u0 = _ := d0
      subst d0
      obtain ⟨K4, s4, M4, E4, rfl, q4⟩ := d1
      replace d2 : u2 = _ := d2
      subst d2
      go_simp
      refine (aMul hM q4.top HX.out q4.rk HR.out).mono ?_
      rintro ee wk ⟨K5, s5, M5, E5, rfl, q5, B⟩
      exact hK.out _ _ ⟨K5, s5, M5, E5, rfl, q5⟩ B
    exact Jo.Steps.nil
  have d0 : (Jo.Fact.eq (.agg #[.int .i64 D, .bool s, .int .u64 M, .int .i64 E])).P (vs 0) w2 := hd 0 (by decide)
  have d1 : (Jo.Fact.num o).P (vs 1) w2 := hd 1 (by decide)
  have d2 : (Jo.Fact.eq (.bool up)).P (vs 2) w2 := hd 2 (by decide)
  have d3 : (Jo.Fact.num r).P (vs 3) w2 := hd 3 (by decide)
  clear hd
  simp only [Jo.putl, List.foldl_cons, List.foldl_nil, Act.put, List.setIfInBounds_toArray, List.set_cons_zero, List.set_cons_succ]
  generalize vs 0 = u0 at d0 ⊢
  generalize vs 1 = u1 at d1 ⊢
  generalize vs 2 = u2 at d2 ⊢
  generalize vs 3 = u3 at d3 ⊢
  clear vs
  replace d0 : u0 = _ := d0
  subst d0
  obtain ⟨K4, s4, M4, E4, rfl, q4⟩ := d1
  replace d2 : u2 = _ := d2
  subst d2
  obtain ⟨K5, s5, M5, E5, rfl, q5⟩ := d3
  replace X1 := X1.below hJ
  replace XR := XR.below hJ
  replace HB := Lib.hid (bt HB.out hJ)
  have xXR0 := XR.at (i := 0) (v := .int .i64 0) rfl
  have zXR0 := XR.frozen 0
  have xXR1 := XR.at (i := 1) (v := .bool false) rfl
  have zXR1 := XR.frozen 1
  have xXR2 := XR.at (i := 2) (v := .int .u64 0) rfl
  have zXR2 := XR.frozen 2
  have xXR3 := XR.at (i := 3) (v := .int .i64 0) rfl
  have zXR3 := XR.frozen 3
  refine Jo.jnext (i := 4) (o := ⟨none, _, _, _, _, _⟩) (by kernel_rfl) rfl (fun K hK => ?_)
  go_simp
  refine hK.out _ _ ?_
  clear hK K xXR0 zXR0 xXR1 zXR1 xXR2 zXR2 xXR3 zXR3
  have SX := StN.mk4 XR (.int .i64 K5) (.bool s5) (.int .u64 M5) (.int .i64 E5)
  replace X1 := X1.stn SX (by omega)
  replace HB := Lib.hid (SX.below HB.out (by omega))
  replace XR := SX.box
  clear SX
  generalize (World.setCell (World.setCell (World.setCell (World.setCell w2 ⟨w.heap.size + 1, 0, none⟩ (.int .i64 K5)) ⟨w.heap.size + 1, 1, none⟩ (.bool s5)) ⟨w.heap.size + 1, 2, none⟩ (.int .u64 M5)) ⟨w.heap.size + 1, 3, none⟩ (.int .i64 E5)) = w3 at *
  refine Jo.jdone (by kernel_rfl) ?_
  go_wp2
  have r0 := XR.cell 0
  have r1 := XR.cell 1
  have r2 := XR.cell 2
  have r3 := XR.cell 3
  exact bodyPost_ret (v := .agg #[.int .i64 K5, .bool s5, .int .u64 M5, .int .i64 E5]) (by simp [results, Tryd.results22, go_sem, r0, r1, r2, r3]) rfl ⟨_, _, _, _, rfl, q5, HB.out⟩
end Go.Proofs.YtbhnpmkdmnnclaaDoor

/-
  What the sum of many numbers is, rounded.
-/
namespace Go.Proofs.YtbhnpmkdmnnclaaDoor
open Go.RowKit
set_option linter.unusedVariables false
set_option linter.unusedSimpArgs false
set_option maxRecDepth 100000

/-- The sum of many, one behind the other, from nought on. -/
def smA (up : Bool) (l : List Int) : Int := l.foldl (addp up) 0
theorem smA_take (up : Bool) {l : List Int} {k : Nat} (h : k < l.length) : smA up (l.take (k + 1)) = addp up (smA up (l.take k)) (l.getD k 0) := by
  unfold smA
  rw [List.take_succ_eq_append_getElem h, List.foldl_append]
  simp [List.getD_eq_getElem?_getD, h]
theorem smA_smp (up : Bool) : ∀ {l : List Int}, (∀ x ∈ l, -19342822337206103650074625 ≤ x ∧ x ≤ 19342822337206103650074625) → smA up l = smp up l
  | [], _ => rfl
  | x :: l, h => by
    have hx := h x (List.mem_cons_self ..)
    show l.foldl (addp up) (addp up 0 x) = l.foldl (addp up) x
    rw [addp_comm, addp_zero up hx.1 hx.2]
set_option maxHeartbeats 8000000 in
theorem aSum {w : World} {A : Option Addr} {n c : Nat} {l : List Int} {up : Bool} {r : Int} (hT : Tb w) (h : Nl w A n c l) (hr : smA up l = r) : Calls Tryd.prog 24 #[.bool up, .slice A n c] w (PN w r) := by
  have HR := Lib.hid hr
  have HLn := Lib.hid h.1
  have hcap := h.2.1
  have hbig := h.2.2.1
  have hD0 := h
  have hT0 := hT
  clear hr
  go_enter Tryd.func24, Tryd.ntmps24
  go_upto_region 1 with (fail)
  have XR := (Bo.newAt w (g := w.heap.size) (by simp) #[.int .i64 0, .bool false, .int .u64 0, .int .i64 0] 24)
  have HB := Lib.hid (bel1 w (.cells #[.int .i64 0, .bool false, .int .u64 0, .int .i64 0] 24))
  replace h := h.below HB.out
  replace hT := hT.below HB.out
  generalize hW1 : (w.alloc (.cells #[.int .i64 0, .bool false, .int .u64 0, .int .i64 0] 24)) = w1 at *
  clear hW1
  go_upto_region 2 with (fail)
  have hg3 := XR.lt
  have lX3 := Nat.le_refl (World.heap w1).size
  have nX3XR := XR.lt
  replace XR := XR.below (bel1 _ (.cells #[.int .i64 0, .bool false, .int .u64 0, .int .i64 0] 24))
  replace h := h.below (bel1 _ (.cells #[.int .i64 0, .bool false, .int .u64 0, .int .i64 0] 24))
  replace hT := hT.below (bel1 _ (.cells #[.int .i64 0, .bool false, .int .u64 0, .int .i64 0] 24))
  replace HB := Lib.hid (bt HB.out (bel1 _ (.cells #[.int .i64 0, .bool false, .int .u64 0, .int .i64 0] 24)))
  have X3 := Bo.new w1 #[.int .i64 0, .bool false, .int .u64 0, .int .i64 0] 24
  generalize hWn : World.alloc w1 (.cells #[.int .i64 0, .bool false, .int .u64 0, .int .i64 0] 24) = w3 at *
  clear hWn
  go_wp2_with fail
  generalize w1.heap.size = g3 at *
  clear h hT w1
  go_loopw [11] (fun i wr => ∃ k : Nat, k ≤ n ∧ i = .int .i64 k ∧ NInv w g3 (smA up (l.take k)) wr) (fun i _ => n - (intOf i).toNat)
  case atStart => exact ⟨0, Nat.zero_le _, rfl, _, _, _, _, XR, X3, Fq.nought, HB.out⟩
  clear HB XR X3 lX3
  case round =>
    obtain ⟨k, hk, rfl, hI⟩ := hrel
    obtain ⟨K1, s1, M1, E1, XR, X3, q1, hB⟩ := hI
    have HB := Lib.hid hB
    have h := hD0.below hB
    have hT := hT0.below hB
    clear hB
    by_cases hlt : k < n
    · obtain ⟨b, o, rfl, hcell⟩ := h.2.2.2 (by omega)
      obtain ⟨D, s, M, E, c0, c1, c2, c3, hM, hx⟩ := hcell k hlt
      clear hcell h hD0
      have i1 : (k : Int) < n := by omega
      have i2 : (0 : Int) ≤ k := by omega
      have hst := smA_take up (l := l) (k := k) (by rw [HLn.out]; exact hlt)
      rw [← hx] at hst
      generalize smA up (l.take k) = R at *
      obtain ⟨x, hX⟩ : ∃ x, rk D s M E = x := ⟨_, rfl⟩
      rw [hX] at hst
      obtain ⟨r2, hr2⟩ : ∃ r2, addp up R x = r2 := ⟨_, rfl⟩
      rw [hr2] at hst
      have HX := Lib.hid hX
      have HST := Lib.hid hst
      have HAD := Lib.hid hr2
      clear hst hX hx hr2
      go_upto_region 5 with (fail)
      have hgd := X3.lt
      have lX5 := Nat.le_refl (World.heap wr).size
      have nX5XR := XR.lt
      have nX5X3 := X3.lt
      replace XR := XR.below (bel1 _ (.cells #[.int .i64 D, .bool s, .int .u64 M, .int .i64 E] 24))
      replace X3 := X3.below (bel1 _ (.cells #[.int .i64 D, .bool s, .int .u64 M, .int .i64 E] 24))
      replace hT := hT.below (bel1 _ (.cells #[.int .i64 D, .bool s, .int .u64 M, .int .i64 E] 24))
      replace HB := Lib.hid (bt HB.out (bel1 _ (.cells #[.int .i64 D, .bool s, .int .u64 M, .int .i64 E] 24)))
      have X5 := Bo.new wr #[.int .i64 D, .bool s, .int .u64 M, .int .i64 E] 24
      generalize hWn : World.alloc wr (.cells #[.int .i64 D, .bool s, .int .u64 M, .int .i64 E] 24) = w3 at *
      clear hWn
      clear c0 c1 c2 c3 lX5
      have xX30 := X3.at (i := 0) (v := .int .i64 K1) rfl
      have xX31 := X3.at (i := 1) (v := .bool s1) rfl
      have xX32 := X3.at (i := 2) (v := .int .u64 M1) rfl
      have xX33 := X3.at (i := 3) (v := .int .i64 E1) rfl
      have xX50 := X5.at (i := 0) (v := .int .i64 D) rfl
      have xX51 := X5.at (i := 1) (v := .bool s) rfl
      have xX52 := X5.at (i := 2) (v := .int .u64 M) rfl
      have xX53 := X5.at (i := 3) (v := .int .i64 E) rfl
      go_wp2_with fail
      refine (aAdd hT q1.top hM q1.rk HX.out HAD.out).mono ?_
      rintro ee w4 ⟨K2, s2, M2, E2, rfl, q2, B⟩
      clear xX30 xX31 xX32 xX33 xX50 xX51 xX52 xX53
      replace XR := XR.below B
      replace X3 := X3.below B
      replace X5 := X5.below B
      replace hT := hT.below B
      replace HB := Lib.hid (bt HB.out B)
      clear B
      have xX30 := X3.at (i := 0) (v := .int .i64 K1) rfl
      have zX30 := X3.frozen 0
      have xX31 := X3.at (i := 1) (v := .bool s1) rfl
      have zX31 := X3.frozen 1
      have xX32 := X3.at (i := 2) (v := .int .u64 M1) rfl
      have zX32 := X3.frozen 2
      have xX33 := X3.at (i := 3) (v := .int .i64 E1) rfl
      have zX33 := X3.frozen 3
      go_upto_region 6 with (fail)
      clear xX30 zX30 xX31 zX31 xX32 zX32 xX33 zX33
      have SX := StN.mk4 X3 (.int .i64 K2) (.bool s2) (.int .u64 M2) (.int .i64 E2)
      replace XR := XR.stn SX (by omega)
      replace X5 := X5.stn SX (by omega)
      replace HB := Lib.hid (SX.below HB.out (by omega))
      replace X3 := SX.box
      clear SX
      generalize (World.setCell (World.setCell (World.setCell (World.setCell w4 ⟨g3, 0, none⟩ (.int .i64 K2)) ⟨g3, 1, none⟩ (.bool s2)) ⟨g3, 2, none⟩ (.int .u64 M2)) ⟨g3, 3, none⟩ (.int .i64 E2)) = w5 at *
      go_wp2
      go_roundw
      case rel =>
        refine ⟨k + 1, by omega, by go_num, K2, s2, M2, E2, XR, X3, ?_, HB.out⟩
        rw [HST.out]; exact q2
      case measure => simp [intOf]; omega
    · obtain rfl : k = n := by omega
      rw [List.take_of_length_le (by rw [HLn.out]; omega), HR.out] at q1
      have xXR0 := XR.at (i := 0) (v := .int .i64 0) rfl
      have zXR0 := XR.frozen 0
      have xXR1 := XR.at (i := 1) (v := .bool false) rfl
      have zXR1 := XR.frozen 1
      have xXR2 := XR.at (i := 2) (v := .int .u64 0) rfl
      have zXR2 := XR.frozen 2
      have xXR3 := XR.at (i := 3) (v := .int .i64 0) rfl
      have zXR3 := XR.frozen 3
      have xX30 := X3.at (i := 0) (v := .int .i64 K1) rfl
      have xX31 := X3.at (i := 1) (v := .bool s1) rfl
      have xX32 := X3.at (i := 2) (v := .int .u64 M1) rfl
      have xX33 := X3.at (i := 3) (v := .int .i64 E1) rfl
      go_wp2
      clear xXR0 zXR0 xXR1 zXR1 xXR2 zXR2 xXR3 zXR3 xX30 xX31 xX32 xX33
      have SX := StN.mk4 XR (.int .i64 K1) (.bool s1) (.int .u64 M1) (.int .i64 E1)
      replace X3 := X3.stn SX (by omega)
      replace HB := Lib.hid (SX.below HB.out (by omega))
      replace XR := SX.box
      clear SX
      generalize (World.setCell (World.setCell (World.setCell (World.setCell wr ⟨w.heap.size, 0, none⟩ (.int .i64 K1)) ⟨w.heap.size, 1, none⟩ (.bool s1)) ⟨w.heap.size, 2, none⟩ (.int .u64 M1)) ⟨w.heap.size, 3, none⟩ (.int .i64 E1)) = w5 at *
      have r0 := XR.cell 0
      have r1 := XR.cell 1
      have r2 := XR.cell 2
      have r3 := XR.cell 3
      exact bodyPost_ret (v := .agg #[.int .i64 K1, .bool s1, .int .u64 M1, .int .i64 E1]) (by simp [results, Tryd.results24, go_sem, r0, r1, r2, r3]) rfl ⟨_, _, _, _, rfl, q1, HB.out⟩
end Go.Proofs.YtbhnpmkdmnnclaaDoor

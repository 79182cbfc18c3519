/-
  Contracts and words that the statement's proof rests on, several texts in one: Gb.
-/
import Derived.Test.YtbhnpmkdmnnclaaDoorYBat
/-
  What the document's Sub, Half, Twice and Sum of layer 6 do.
-/
namespace Go.Proofs.YtbhnpmkdmnnclaaDoor
open Go.RowKit
set_option linter.unusedVariables false
set_option linter.unusedSimpArgs false
set_option maxRecDepth 100000

set_option maxHeartbeats 4000000 in
theorem gSub {w : World} {D D' M M' E E' : Int} {s s' : Bool} {up : Bool} {x y r : Int} (hM : M < 18446744073709551616) (hM' : M' < 18446744073709551616) (hx : rk D s M E = x) (hy : -rk D' s' M' E' = y) (hne : infp x = false → infp y = false → Near (ep x) (ep y)) (hr : addp up x y = r) : Calls Tryd.prog 16 #[.agg #[.int .i64 D, .bool s, .int .u64 M, .int .i64 E], .agg #[.int .i64 D', .bool s', .int .u64 M', .int .i64 E'], .bool up] w (PN w r) := by
  have HX := Lib.hid hx
  have HY := Lib.hid hy
  have HR := Lib.hid hr
  have HNE := Lib.hid hne
  clear hx hy hr hne
  go_enter Tryd.func16, Tryd.ntmps16
  go_upto_region 1 with (fail)
  have X1 := (Bo.newAt w (g := w.heap.size) (by simp) #[.int .i64 D, .bool s, .int .u64 M, .int .i64 E] 24).below (bel2 _ (.cells #[.int .i64 D', .bool s', .int .u64 M', .int .i64 E'] 24) (.cells #[.int .i64 0, .bool false, .int .u64 0, .int .i64 0] 24))
  have X2 := (Bo.newAt (w.alloc (.cells #[.int .i64 D, .bool s, .int .u64 M, .int .i64 E] 24)) (g := w.heap.size + 1) (by simp) #[.int .i64 D', .bool s', .int .u64 M', .int .i64 E'] 24).below (bel1 _ (.cells #[.int .i64 0, .bool false, .int .u64 0, .int .i64 0] 24))
  have XR := (Bo.newAt ((w.alloc (.cells #[.int .i64 D, .bool s, .int .u64 M, .int .i64 E] 24)).alloc (.cells #[.int .i64 D', .bool s', .int .u64 M', .int .i64 E'] 24)) (g := w.heap.size + 1 + 1) (by simp) #[.int .i64 0, .bool false, .int .u64 0, .int .i64 0] 24)
  have HB := Lib.hid (bel3 w (.cells #[.int .i64 D, .bool s, .int .u64 M, .int .i64 E] 24) (.cells #[.int .i64 D', .bool s', .int .u64 M', .int .i64 E'] 24) (.cells #[.int .i64 0, .bool false, .int .u64 0, .int .i64 0] 24))
  generalize hW1 : (((w.alloc (.cells #[.int .i64 D, .bool s, .int .u64 M, .int .i64 E] 24)).alloc (.cells #[.int .i64 D', .bool s', .int .u64 M', .int .i64 E'] 24)).alloc (.cells #[.int .i64 0, .bool false, .int .u64 0, .int .i64 0] 24)) = w1 at *
  clear hW1
  refine Jo.region_joint (T := [0, 1, 2, 3, 4]) (ds := [some 7, some 8, some 9, some 10, some 11, none]) (ls := [[], [], [1], [], [0, 2, 3], []]) (k := 6) (L := [(some 7, 0), (some 8, 1), (some 9, 2), (some 10, 3), (some 11, 4)]) (fuel := 1) (J := fun wj => Below (World.heap w1).size w1 wj)
    (F := [Jo.Fact.eq (.agg #[.int .i64 D, .bool s, .int .u64 M, .int .i64 E]), Jo.Fact.eq (.agg #[.int .i64 D', .bool s', .int .u64 M', .int .i64 E']), Jo.Fact.num y, Jo.Fact.eq (.bool up), Jo.Fact.num r, Jo.Fact.any])
    (by kernel_rfl) (by kernel_rfl) (by decide) rfl rfl (fun _ _ h b => bt h b) ((Below.refl _ _).drew) ?_ (fun vs w2 hJ hd => ?_)
  · refine Jo.jcons (i := 0) (o := ⟨some 7, _, _, _, _, _⟩) (di := some 7) (L := []) (f := Jo.Fact.eq (.agg #[.int .i64 D, .bool s, .int .u64 M, .int .i64 E])) rfl rfl rfl rfl (fun vs wj hJ hd K hK => ?_) ?_
    · clear hd
      simp only [Jo.putl, List.foldl_nil, Act.put, List.setIfInBounds_toArray, List.set_cons_zero, List.set_cons_succ] at hK ⊢
      have xX10 : World.cell? wj ⟨w.heap.size, 0, none⟩ = some (.int .i64 D) := (X1.below hJ).cell 0
      have xX11 : World.cell? wj ⟨w.heap.size, 1, none⟩ = some (.bool s) := (X1.below hJ).cell 1
      have xX12 : World.cell? wj ⟨w.heap.size, 2, none⟩ = some (.int .u64 M) := (X1.below hJ).cell 2
      have xX13 : World.cell? wj ⟨w.heap.size, 3, none⟩ = some (.int .i64 E) := (X1.below hJ).cell 3
      go_simp
      exact hK.out _ _ rfl (Below.refl _ _)
    refine Jo.jcons (i := 1) (o := ⟨some 8, _, _, _, _, _⟩) (di := some 8) (L := []) (f := Jo.Fact.eq (.agg #[.int .i64 D', .bool s', .int .u64 M', .int .i64 E'])) rfl rfl rfl rfl (fun vs wj hJ hd K hK => ?_) ?_
    · clear hd
      simp only [Jo.putl, List.foldl_nil, Act.put, List.setIfInBounds_toArray, List.set_cons_zero, List.set_cons_succ] at hK ⊢
      have xX20 : World.cell? wj ⟨w.heap.size + 1, 0, none⟩ = some (.int .i64 D') := (X2.below hJ).cell 0
      have xX21 : World.cell? wj ⟨w.heap.size + 1, 1, none⟩ = some (.bool s') := (X2.below hJ).cell 1
      have xX22 : World.cell? wj ⟨w.heap.size + 1, 2, none⟩ = some (.int .u64 M') := (X2.below hJ).cell 2
      have xX23 : World.cell? wj ⟨w.heap.size + 1, 3, none⟩ = some (.int .i64 E') := (X2.below hJ).cell 3
      go_simp
      exact hK.out _ _ rfl (Below.refl _ _)
    refine Jo.jcons (i := 2) (o := ⟨some 9, _, _, _, _, _⟩) (di := some 9) (L := [(some 8, 1)]) (f := Jo.Fact.num y) rfl rfl rfl rfl (fun vs wj hJ hd K hK => ?_) ?_
    · have d1 : (Jo.Fact.eq (.agg #[.int .i64 D', .bool s', .int .u64 M', .int .i64 E'])).P (vs 1) wj := hd 1 (by decide)
      clear hd
      simp only [Jo.putl, List.foldl_cons, List.foldl_nil, Act.put, List.setIfInBounds_toArray, List.set_cons_zero, List.set_cons_succ] at hK ⊢
      generalize vs 1 = u1 at hK d1 ⊢
      replace d1 : u1 = _ := d1
      subst d1
      go_simp
      refine (yNeg hM' HY.out).mono ?_
      rintro ee wk ⟨K4, s4, M4, E4, rfl, q4, B⟩
      exact hK.out _ _ ⟨K4, s4, M4, E4, rfl, q4⟩ B
    refine Jo.jcons (i := 3) (o := ⟨some 10, _, _, _, _, _⟩) (di := some 10) (L := []) (f := Jo.Fact.eq (.bool up)) rfl rfl rfl rfl (fun vs wj hJ hd K hK => ?_) ?_
    · clear hd
      simp only [Jo.putl, List.foldl_nil, Act.put, List.setIfInBounds_toArray, List.set_cons_zero, List.set_cons_succ] at hK ⊢
      go_simp
      exact hK.out _ _ rfl (Below.refl _ _)
    refine Jo.jcons (i := 4) (o := ⟨some 11, _, _, _, _, _⟩) (di := some 11) (L := [(some 7, 0), (some 9, 2), (some 10, 3)]) (f := Jo.Fact.num r) rfl rfl rfl rfl (fun vs wj hJ hd K hK => ?_) ?_
    · have d0 : (Jo.Fact.eq (.agg #[.int .i64 D, .bool s, .int .u64 M, .int .i64 E])).P (vs 0) wj := hd 0 (by decide)
      have d2 : (Jo.Fact.num y).P (vs 2) wj := hd 2 (by decide)
      have d3 : (Jo.Fact.eq (.bool up)).P (vs 3) wj := hd 3 (by decide)
      clear hd
      simp only [Jo.putl, List.foldl_cons, List.foldl_nil, Act.put, List.setIfInBounds_toArray, List.set_cons_zero, List.set_cons_succ] at hK ⊢
      generalize vs 0 = u0 at hK d0 ⊢
      generalize vs 2 = u2 at hK d2 ⊢
      generalize vs 3 = u3 at hK d3 ⊢
      replace d0 : u0 = _ := d0
      subst d0
      obtain ⟨K4, s4, M4, E4, rfl, q4⟩ := d2
      replace d3 : u3 = _ := d3
      subst d3
      go_simp
      refine (gAdd hM q4.top HX.out q4.rk HNE.out HR.out).mono ?_
      rintro ee wk ⟨K5, s5, M5, E5, rfl, q5, B⟩
      exact hK.out _ _ ⟨K5, s5, M5, E5, rfl, q5⟩ B
    exact Jo.Steps.nil
  have d0 : (Jo.Fact.eq (.agg #[.int .i64 D, .bool s, .int .u64 M, .int .i64 E])).P (vs 0) w2 := hd 0 (by decide)
  have d1 : (Jo.Fact.eq (.agg #[.int .i64 D', .bool s', .int .u64 M', .int .i64 E'])).P (vs 1) w2 := hd 1 (by decide)
  have d2 : (Jo.Fact.num y).P (vs 2) w2 := hd 2 (by decide)
  have d3 : (Jo.Fact.eq (.bool up)).P (vs 3) w2 := hd 3 (by decide)
  have d4 : (Jo.Fact.num r).P (vs 4) w2 := hd 4 (by decide)
  clear hd
  simp only [Jo.putl, List.foldl_cons, List.foldl_nil, Act.put, List.setIfInBounds_toArray, List.set_cons_zero, List.set_cons_succ]
  generalize vs 0 = u0 at d0 ⊢
  generalize vs 1 = u1 at d1 ⊢
  generalize vs 2 = u2 at d2 ⊢
  generalize vs 3 = u3 at d3 ⊢
  generalize vs 4 = u4 at d4 ⊢
  clear vs
  replace d0 : u0 = _ := d0
  subst d0
  replace d1 : u1 = _ := d1
  subst d1
  obtain ⟨K4, s4, M4, E4, rfl, q4⟩ := d2
  replace d3 : u3 = _ := d3
  subst d3
  obtain ⟨K5, s5, M5, E5, rfl, q5⟩ := d4
  replace X1 := X1.below hJ
  replace X2 := X2.below hJ
  replace XR := XR.below hJ
  replace HB := Lib.hid (bt HB.out hJ)
  have xXR0 := XR.at (i := 0) (v := .int .i64 0) rfl
  have zXR0 := XR.frozen 0
  have xXR1 := XR.at (i := 1) (v := .bool false) rfl
  have zXR1 := XR.frozen 1
  have xXR2 := XR.at (i := 2) (v := .int .u64 0) rfl
  have zXR2 := XR.frozen 2
  have xXR3 := XR.at (i := 3) (v := .int .i64 0) rfl
  have zXR3 := XR.frozen 3
  refine Jo.jnext (i := 5) (o := ⟨none, _, _, _, _, _⟩) (by kernel_rfl) rfl (fun K hK => ?_)
  go_simp
  refine hK.out _ _ ?_
  clear hK K xXR0 zXR0 xXR1 zXR1 xXR2 zXR2 xXR3 zXR3
  have SX := StN.mk4 XR (.int .i64 K5) (.bool s5) (.int .u64 M5) (.int .i64 E5)
  replace X1 := X1.stn SX (by omega)
  replace X2 := X2.stn SX (by omega)
  replace HB := Lib.hid (SX.below HB.out (by omega))
  replace XR := SX.box
  clear SX
  generalize (World.setCell (World.setCell (World.setCell (World.setCell w2 ⟨w.heap.size + 1 + 1, 0, none⟩ (.int .i64 K5)) ⟨w.heap.size + 1 + 1, 1, none⟩ (.bool s5)) ⟨w.heap.size + 1 + 1, 2, none⟩ (.int .u64 M5)) ⟨w.heap.size + 1 + 1, 3, none⟩ (.int .i64 E5)) = w3 at *
  refine Jo.jdone (by kernel_rfl) ?_
  go_wp2
  have r0 := XR.cell 0
  have r1 := XR.cell 1
  have r2 := XR.cell 2
  have r3 := XR.cell 3
  exact bodyPost_ret (v := .agg #[.int .i64 K5, .bool s5, .int .u64 M5, .int .i64 E5]) (by simp [results, Tryd.results16, go_sem, r0, r1, r2, r3]) rfl ⟨_, _, _, _, rfl, q5, HB.out⟩
theorem fq_half : Fq 1 false 9223372036854775808 (-64) 9670816261106674691997697 := Fq.fin (by decide) (by decide) (by decide) (by decide) (by decide)
set_option maxHeartbeats 4000000 in
theorem gHalf {w : World} {D M E : Int} {s : Bool} {up : Bool} {x r : Int} (hM : M < 18446744073709551616) (hx : rk D s M E = x) (hr : mulp up x 9670816261106674691997697 = r) : Calls Tryd.prog 21 #[.agg #[.int .i64 D, .bool s, .int .u64 M, .int .i64 E], .bool up] w (PN w r) := by
  have HX := Lib.hid hx
  have HR := Lib.hid hr
  clear hx hr
  go_enter Tryd.func21, Tryd.ntmps21
  go_upto_region 1 with (fail)
  have X1 := (Bo.newAt w (g := w.heap.size) (by simp) #[.int .i64 D, .bool s, .int .u64 M, .int .i64 E] 24).below (bel1 _ (.cells #[.int .i64 0, .bool false, .int .u64 0, .int .i64 0] 24))
  have XR := (Bo.newAt (w.alloc (.cells #[.int .i64 D, .bool s, .int .u64 M, .int .i64 E] 24)) (g := w.heap.size + 1) (by simp) #[.int .i64 0, .bool false, .int .u64 0, .int .i64 0] 24)
  have HB := Lib.hid (bel2 w (.cells #[.int .i64 D, .bool s, .int .u64 M, .int .i64 E] 24) (.cells #[.int .i64 0, .bool false, .int .u64 0, .int .i64 0] 24))
  generalize hW1 : ((w.alloc (.cells #[.int .i64 D, .bool s, .int .u64 M, .int .i64 E] 24)).alloc (.cells #[.int .i64 0, .bool false, .int .u64 0, .int .i64 0] 24)) = w1 at *
  clear hW1
  have xX10 := X1.at (i := 0) (v := .int .i64 D) rfl
  have xX11 := X1.at (i := 1) (v := .bool s) rfl
  have xX12 := X1.at (i := 2) (v := .int .u64 M) rfl
  have xX13 := X1.at (i := 3) (v := .int .i64 E) rfl
  go_wp2_with fail
  refine (gMul hM fq_half.top HX.out fq_half.rk HR.out).mono ?_
  rintro ee w2 ⟨K2, s2, M2, E2, rfl, q2, B⟩
  clear xX10 xX11 xX12 xX13
  replace X1 := X1.below B
  replace XR := XR.below B
  replace HB := Lib.hid (bt HB.out B)
  clear B
  have xXR0 := XR.at (i := 0) (v := .int .i64 0) rfl
  have zXR0 := XR.frozen 0
  have xXR1 := XR.at (i := 1) (v := .bool false) rfl
  have zXR1 := XR.frozen 1
  have xXR2 := XR.at (i := 2) (v := .int .u64 0) rfl
  have zXR2 := XR.frozen 2
  have xXR3 := XR.at (i := 3) (v := .int .i64 0) rfl
  have zXR3 := XR.frozen 3
  go_wp2
  clear xXR0 zXR0 xXR1 zXR1 xXR2 zXR2 xXR3 zXR3
  have SX := StN.mk4 XR (.int .i64 K2) (.bool s2) (.int .u64 M2) (.int .i64 E2)
  replace X1 := X1.stn SX (by omega)
  replace HB := Lib.hid (SX.below HB.out (by omega))
  replace XR := SX.box
  clear SX
  generalize (World.setCell (World.setCell (World.setCell (World.setCell w2 ⟨w.heap.size + 1, 0, none⟩ (.int .i64 K2)) ⟨w.heap.size + 1, 1, none⟩ (.bool s2)) ⟨w.heap.size + 1, 2, none⟩ (.int .u64 M2)) ⟨w.heap.size + 1, 3, none⟩ (.int .i64 E2)) = w3 at *
  have r0 := XR.cell 0
  have r1 := XR.cell 1
  have r2 := XR.cell 2
  have r3 := XR.cell 3
  exact bodyPost_ret (v := .agg #[.int .i64 K2, .bool s2, .int .u64 M2, .int .i64 E2]) (by simp [results, Tryd.results21, go_sem, r0, r1, r2, r3]) rfl ⟨_, _, _, _, rfl, q2, HB.out⟩
set_option maxHeartbeats 4000000 in
theorem gTwice {w : World} {D M E : Int} {s : Bool} {up : Bool} {x r : Int} (hM : M < 18446744073709551616) (hx : rk D s M E = x) (hr : mulp up x (opl 2) = r) : Calls Tryd.prog 23 #[.agg #[.int .i64 D, .bool s, .int .u64 M, .int .i64 E], .bool up] w (PN w r) := by
  have HX := Lib.hid hx
  have HR := Lib.hid hr
  have HO := Lib.hid (show sgi (decide ((2 : Int) < 0)) (lo (2 : Int).natAbs 0) = opl 2 from rfl)
  clear hx hr
  revert HR HO
  generalize opl 2 = o
  intro HR HO
  go_enter Tryd.func23, Tryd.ntmps23
  go_upto_region 1 with (fail)
  have X1 := (Bo.newAt w (g := w.heap.size) (by simp) #[.int .i64 D, .bool s, .int .u64 M, .int .i64 E] 24).below (bel1 _ (.cells #[.int .i64 0, .bool false, .int .u64 0, .int .i64 0] 24))
  have XR := (Bo.newAt (w.alloc (.cells #[.int .i64 D, .bool s, .int .u64 M, .int .i64 E] 24)) (g := w.heap.size + 1) (by simp) #[.int .i64 0, .bool false, .int .u64 0, .int .i64 0] 24)
  have HB := Lib.hid (bel2 w (.cells #[.int .i64 D, .bool s, .int .u64 M, .int .i64 E] 24) (.cells #[.int .i64 0, .bool false, .int .u64 0, .int .i64 0] 24))
  generalize hW1 : ((w.alloc (.cells #[.int .i64 D, .bool s, .int .u64 M, .int .i64 E] 24)).alloc (.cells #[.int .i64 0, .bool false, .int .u64 0, .int .i64 0] 24)) = w1 at *
  clear hW1
  refine Jo.region_joint (T := [0, 1, 2, 3]) (ds := [some 5, some 6, some 7, some 8, none]) (ls := [[], [], [], [0, 1, 2], []]) (k := 5) (L := [(some 5, 0), (some 6, 1), (some 7, 2), (some 8, 3)]) (fuel := 1) (J := fun wj => Below (World.heap w1).size w1 wj)
    (F := [Jo.Fact.eq (.agg #[.int .i64 D, .bool s, .int .u64 M, .int .i64 E]), Jo.Fact.num o, Jo.Fact.eq (.bool up), Jo.Fact.num r, Jo.Fact.any])
    (by kernel_rfl) (by kernel_rfl) (by decide) rfl rfl (fun _ _ h b => bt h b) ((Below.refl _ _).drew) ?_ (fun vs w2 hJ hd => ?_)
  · refine Jo.jcons (i := 0) (o := ⟨some 5, _, _, _, _, _⟩) (di := some 5) (L := []) (f := Jo.Fact.eq (.agg #[.int .i64 D, .bool s, .int .u64 M, .int .i64 E])) rfl rfl rfl rfl (fun vs wj hJ hd K hK => ?_) ?_
    · clear hd
      simp only [Jo.putl, List.foldl_nil, Act.put, List.setIfInBounds_toArray, List.set_cons_zero, List.set_cons_succ] at hK ⊢
      have xX10 : World.cell? wj ⟨w.heap.size, 0, none⟩ = some (.int .i64 D) := (X1.below hJ).cell 0
      have xX11 : World.cell? wj ⟨w.heap.size, 1, none⟩ = some (.bool s) := (X1.below hJ).cell 1
      have xX12 : World.cell? wj ⟨w.heap.size, 2, none⟩ = some (.int .u64 M) := (X1.below hJ).cell 2
      have xX13 : World.cell? wj ⟨w.heap.size, 3, none⟩ = some (.int .i64 E) := (X1.below hJ).cell 3
      go_simp
      exact hK.out _ _ rfl (Below.refl _ _)
    refine Jo.jcons (i := 1) (o := ⟨some 6, _, _, _, _, _⟩) (di := some 6) (L := []) (f := Jo.Fact.num o) rfl rfl rfl rfl (fun vs wj hJ hd K hK => ?_) ?_
    · clear hd
      simp only [Jo.putl, List.foldl_nil, Act.put, List.setIfInBounds_toArray, List.set_cons_zero, List.set_cons_succ] at hK ⊢
      go_simp
      refine (yOf _ (by decide) (by decide) HO.out).mono ?_
      rintro ee wk ⟨K4, s4, M4, E4, rfl, q4, B⟩
      exact hK.out _ _ ⟨K4, s4, M4, E4, rfl, q4⟩ B
    refine Jo.jcons (i := 2) (o := ⟨some 7, _, _, _, _, _⟩) (di := some 7) (L := []) (f := Jo.Fact.eq (.bool up)) rfl rfl rfl rfl (fun vs wj hJ hd K hK => ?_) ?_
    · clear hd
      simp only [Jo.putl, List.foldl_nil, Act.put, List.setIfInBounds_toArray, List.set_cons_zero, List.set_cons_succ] at hK ⊢
      go_simp
      exact hK.out _ _ rfl (Below.refl _ _)
    refine Jo.jcons (i := 3) (o := ⟨some 8, _, _, _, _, _⟩) (di := some 8) (L := [(some 5, 0), (some 6, 1), (some 7, 2)]) (f := Jo.Fact.num r) rfl rfl rfl rfl (fun vs wj hJ hd K hK => ?_) ?_
    · have d0 : (Jo.Fact.eq (.agg #[.int .i64 D, .bool s, .int .u64 M, .int .i64 E])).P (vs 0) wj := hd 0 (by decide)
      have d1 : (Jo.Fact.num o).P (vs 1) wj := hd 1 (by decide)
      have d2 : (Jo.Fact.eq (.bool up)).P (vs 2) wj := hd 2 (by decide)
      clear hd
      simp only [Jo.putl, List.foldl_cons, List.foldl_nil, Act.put, List.setIfInBounds_toArray, List.set_cons_zero, List.set_cons_succ] at hK ⊢
      generalize vs 0 = u0 at hK d0 ⊢
      generalize vs 1 = u1 at hK d1 ⊢
      generalize vs 2 = u2 at hK d2 ⊢
      replace d0 : u0 = _ := d0
      subst d0
      obtain ⟨K4, s4, M4, E4, rfl, q4⟩ := d1
      replace d2 : u2 = _ := d2
      subst d2
      go_simp
      refine (gMul hM q4.top HX.out q4.rk HR.out).mono ?_
      rintro ee wk ⟨K5, s5, M5, E5, rfl, q5, B⟩
      exact hK.out _ _ ⟨K5, s5, M5, E5, rfl, q5⟩ B
    exact Jo.Steps.nil
  have d0 : (Jo.Fact.eq (.agg #[.int .i64 D, .bool s, .int .u64 M, .int .i64 E])).P (vs 0) w2 := hd 0 (by decide)
  have d1 : (Jo.Fact.num o).P (vs 1) w2 := hd 1 (by decide)
  have d2 : (Jo.Fact.eq (.bool up)).P (vs 2) w2 := hd 2 (by decide)
  have d3 : (Jo.Fact.num r).P (vs 3) w2 := hd 3 (by decide)
  clear hd
  simp only [Jo.putl, List.foldl_cons, List.foldl_nil, Act.put, List.setIfInBounds_toArray, List.set_cons_zero, List.set_cons_succ]
  generalize vs 0 = u0 at d0 ⊢
  generalize vs 1 = u1 at d1 ⊢
  generalize vs 2 = u2 at d2 ⊢
  generalize vs 3 = u3 at d3 ⊢
  clear vs
  replace d0 : u0 = _ := d0
  subst d0
  obtain ⟨K4, s4, M4, E4, rfl, q4⟩ := d1
  replace d2 : u2 = _ := d2
  subst d2
  obtain ⟨K5, s5, M5, E5, rfl, q5⟩ := d3
  replace X1 := X1.below hJ
  replace XR := XR.below hJ
  replace HB := Lib.hid (bt HB.out hJ)
  have xXR0 := XR.at (i := 0) (v := .int .i64 0) rfl
  have zXR0 := XR.frozen 0
  have xXR1 := XR.at (i := 1) (v := .bool false) rfl
  have zXR1 := XR.frozen 1
  have xXR2 := XR.at (i := 2) (v := .int .u64 0) rfl
  have zXR2 := XR.frozen 2
  have xXR3 := XR.at (i := 3) (v := .int .i64 0) rfl
  have zXR3 := XR.frozen 3
  refine Jo.jnext (i := 4) (o := ⟨none, _, _, _, _, _⟩) (by kernel_rfl) rfl (fun K hK => ?_)
  go_simp
  refine hK.out _ _ ?_
  clear hK K xXR0 zXR0 xXR1 zXR1 xXR2 zXR2 xXR3 zXR3
  have SX := StN.mk4 XR (.int .i64 K5) (.bool s5) (.int .u64 M5) (.int .i64 E5)
  replace X1 := X1.stn SX (by omega)
  replace HB := Lib.hid (SX.below HB.out (by omega))
  replace XR := SX.box
  clear SX
  generalize (World.setCell (World.setCell (World.setCell (World.setCell w2 ⟨w.heap.size + 1, 0, none⟩ (.int .i64 K5)) ⟨w.heap.size + 1, 1, none⟩ (.bool s5)) ⟨w.heap.size + 1, 2, none⟩ (.int .u64 M5)) ⟨w.heap.size + 1, 3, none⟩ (.int .i64 E5)) = w3 at *
  refine Jo.jdone (by kernel_rfl) ?_
  go_wp2
  have r0 := XR.cell 0
  have r1 := XR.cell 1
  have r2 := XR.cell 2
  have r3 := XR.cell 3
  exact bodyPost_ret (v := .agg #[.int .i64 K5, .bool s5, .int .u64 M5, .int .i64 E5]) (by simp [results, Tryd.results23, go_sem, r0, r1, r2, r3]) rfl ⟨_, _, _, _, rfl, q5, HB.out⟩
/-- The sum of many: the first one, then each further one added. -/
def smp (up : Bool) : List Int → Int
  | [] => 0
  | x :: l => l.foldl (addp up) x
theorem smp_one (up : Bool) {l : List Int} (h : 0 < l.length) : smp up (l.take 1) = l.getD 0 0 := by
  cases l with
  | nil => exact absurd h (by decide)
  | cons x l => rfl
theorem smp_take (up : Bool) {l : List Int} {k : Nat} (h0 : 0 < k) (h : k < l.length) : smp up (l.take (k + 1)) = addp up (smp up (l.take k)) (l.getD k 0) := by
  cases l with
  | nil => exact absurd h (by simp)
  | cons x l =>
    obtain ⟨j, rfl⟩ : ∃ j, k = j + 1 := ⟨k - 1, by omega⟩
    have hj : j < l.length := by simpa using h
    show (l.take (j + 1)).foldl (addp up) x = addp up ((l.take j).foldl (addp up) x) ((x :: l).getD (j + 1) 0)
    rw [List.take_succ_eq_append_getElem hj, List.foldl_append]
    simp [List.getD_eq_getElem?_getD, hj]
/-- What may be summed by the document's Add: no two too far apart on the way. -/
def NearL (up : Bool) (l : List Int) : Prop := ∀ k, 0 < k → k < l.length → infp (smp up (l.take k)) = false → infp (l.getD k 0) = false → Near (ep (smp up (l.take k))) (ep (l.getD k 0))
set_option maxHeartbeats 8000000 in
theorem gSum {w : World} {A : Option Addr} {n c : Nat} {l : List Int} {up : Bool} {r : Int} (h : Nl w A n c l) (hne : NearL up l) (hr : smp up l = r) : Calls Tryd.prog 25 #[.bool up, .slice A n c] w (PN w r) := by
  have HR := Lib.hid hr
  have HLn := Lib.hid h.1
  have HNE := Lib.hid hne
  have hcap := h.2.1
  have hbig := h.2.2.1
  have hD0 := h
  clear hr hne
  go_enter Tryd.func25, Tryd.ntmps25
  go_upto_region 1 with (fail)
  have XR := (Bo.newAt w (g := w.heap.size) (by simp) #[.int .i64 0, .bool false, .int .u64 0, .int .i64 0] 24)
  have HB := Lib.hid (bel1 w (.cells #[.int .i64 0, .bool false, .int .u64 0, .int .i64 0] 24))
  replace h := h.below HB.out
  generalize hW1 : (w.alloc (.cells #[.int .i64 0, .bool false, .int .u64 0, .int .i64 0] 24)) = w1 at *
  clear hW1
  go_upto_region 2 with (fail)
  have hg3 := XR.lt
  have lX3 := Nat.le_refl (World.heap w1).size
  have nX3XR := XR.lt
  replace XR := XR.below (bel1 _ (.cells #[.int .i64 0, .bool false, .int .u64 0, .int .i64 0] 24))
  replace h := h.below (bel1 _ (.cells #[.int .i64 0, .bool false, .int .u64 0, .int .i64 0] 24))
  replace HB := Lib.hid (bt HB.out (bel1 _ (.cells #[.int .i64 0, .bool false, .int .u64 0, .int .i64 0] 24)))
  have X3 := Bo.new w1 #[.int .i64 0, .bool false, .int .u64 0, .int .i64 0] 24
  generalize hWn : World.alloc w1 (.cells #[.int .i64 0, .bool false, .int .u64 0, .int .i64 0] 24) = w3 at *
  clear hWn
  go_wp2_with fail
  generalize w1.heap.size = g3 at *
  clear h w1
  go_loopw [6] (fun i wr => ∃ k : Nat, k ≤ n ∧ i = .int .i64 k ∧ NInv w g3 (smp up (l.take k)) wr) (fun i _ => n - (intOf i).toNat)
  case atStart => exact ⟨0, Nat.zero_le _, rfl, _, _, _, _, XR, X3, Fq.nought, HB.out⟩
  clear HB XR X3 lX3
  case round =>
    obtain ⟨k, hk, rfl, hI⟩ := hrel
    obtain ⟨K1, s1, M1, E1, XR, X3, q1, hB⟩ := hI
    have HB := Lib.hid hB
    have h := hD0.below hB
    clear hB
    by_cases hlt : k < n
    · obtain ⟨b, o, rfl, hcell⟩ := h.2.2.2 (by omega)
      obtain ⟨D, s, M, E, c0, c1, c2, c3, hM, hx⟩ := hcell k hlt
      clear hcell h hD0
      have i1 : (k : Int) < n := by omega
      have i2 : (0 : Int) ≤ k := by omega
      by_cases hk0 : k = 0
      · subst hk0
        have hone := smp_one up (l := l) (by rw [HLn.out]; exact hlt)
        rw [← hx] at hone
        obtain ⟨x, hX⟩ : ∃ x, rk D s M E = x := ⟨_, rfl⟩
        rw [hX] at hone
        have HX := Lib.hid hX
        have HO := Lib.hid hone
        clear hone hX hx q1
        rw [Nat.zero_mul, Nat.add_zero] at c0 c1 c2 c3
        go_wp2_with fail
        refine (gFair hM HX.out).mono ?_
        rintro ee w5 ⟨K2, s2, M2, E2, rfl, q2, B⟩
        replace XR := XR.below B
        replace X3 := X3.below B
        replace HB := Lib.hid (bt HB.out B)
        clear B
        have xX30 := X3.at (i := 0) (v := .int .i64 K1) rfl
        have zX30 := X3.frozen 0
        have xX31 := X3.at (i := 1) (v := .bool s1) rfl
        have zX31 := X3.frozen 1
        have xX32 := X3.at (i := 2) (v := .int .u64 M1) rfl
        have zX32 := X3.frozen 2
        have xX33 := X3.at (i := 3) (v := .int .i64 E1) rfl
        have zX33 := X3.frozen 3
        go_upto_region 4 with (fail)
        clear xX30 zX30 xX31 zX31 xX32 zX32 xX33 zX33
        have SX := StN.mk4 X3 (.int .i64 K2) (.bool s2) (.int .u64 M2) (.int .i64 E2)
        replace XR := XR.stn SX (by omega)
        replace HB := Lib.hid (SX.below HB.out (by omega))
        replace X3 := SX.box
        clear SX
        generalize (World.setCell (World.setCell (World.setCell (World.setCell w5 ⟨g3, 0, none⟩ (.int .i64 K2)) ⟨g3, 1, none⟩ (.bool s2)) ⟨g3, 2, none⟩ (.int .u64 M2)) ⟨g3, 3, none⟩ (.int .i64 E2)) = w6 at *
        go_wp2
        go_roundw
        case rel =>
          refine ⟨1, by omega, by go_num, K2, s2, M2, E2, XR, X3, ?_, HB.out⟩
          rw [HO.out]; exact q2
        case measure => simp [intOf]; omega
      · have hst := smp_take up (l := l) (k := k) (by omega) (by rw [HLn.out]; exact hlt)
        have hnr := HNE.out k (by omega) (by rw [HLn.out]; exact hlt)
        rw [← hx] at hst hnr
        generalize smp up (l.take k) = R at *
        obtain ⟨x, hX⟩ : ∃ x, rk D s M E = x := ⟨_, rfl⟩
        rw [hX] at hst hnr
        obtain ⟨r2, hr2⟩ : ∃ r2, addp up R x = r2 := ⟨_, rfl⟩
        rw [hr2] at hst
        have HX := Lib.hid hX
        have HST := Lib.hid hst
        have HAD := Lib.hid hr2
        have HNR := Lib.hid hnr
        have e0 : ((k : Int) == 0) = false := by
          have : (k : Int) ≠ 0 := by omega
          simpa using this
        clear hst hX hx hr2 hnr
        go_upto_region 7 with (fail)
        refine Jo.region_joint (T := [0, 1, 2, 3, 4, 5, 6]) (ds := [some 21, some 22, some 23, some 24, some 25, some 26, some 27, none]) (ls := [[], [], [], [1, 2], [3], [], [0, 4, 5], []]) (k := 8) (L := [(some 21, 0), (some 22, 1), (some 23, 2), (some 24, 3), (some 25, 4), (some 26, 5), (some 27, 6)]) (fuel := 1) (J := fun wj => Below (World.heap wr).size wr wj)
          (F := [Jo.Fact.eq (.agg #[.int .i64 K1, .bool s1, .int .u64 M1, .int .i64 E1]), Jo.Fact.eq (.slice (some ⟨b, o, none⟩) n c), Jo.Fact.eq (.int .i64 k), Jo.Fact.eq (.pointer (some ⟨b, o + k * 4, none⟩)), Jo.Fact.eq (.agg #[.int .i64 D, .bool s, .int .u64 M, .int .i64 E]), Jo.Fact.eq (.bool up), Jo.Fact.num r2, Jo.Fact.any])
          (by kernel_rfl) (by kernel_rfl) (by decide) rfl rfl (fun _ _ h b => bt h b) ((Below.refl _ _).drew) ?_ (fun vs w4 hJ hd => ?_)
        · refine Jo.jcons (i := 0) (o := ⟨some 21, _, _, _, _, _⟩) (di := some 21) (L := []) (f := Jo.Fact.eq (.agg #[.int .i64 K1, .bool s1, .int .u64 M1, .int .i64 E1])) rfl rfl rfl rfl (fun vs wj hJ hd K hK => ?_) ?_
          · clear hd
            simp only [Jo.putl, List.foldl_nil, Act.put, List.setIfInBounds_toArray, List.set_cons_zero, List.set_cons_succ] at hK ⊢
            have xX30 : World.cell? wj ⟨g3, 0, none⟩ = some (.int .i64 K1) := (X3.below hJ).cell 0
            have xX31 : World.cell? wj ⟨g3, 1, none⟩ = some (.bool s1) := (X3.below hJ).cell 1
            have xX32 : World.cell? wj ⟨g3, 2, none⟩ = some (.int .u64 M1) := (X3.below hJ).cell 2
            have xX33 : World.cell? wj ⟨g3, 3, none⟩ = some (.int .i64 E1) := (X3.below hJ).cell 3
            go_simp
            exact hK.out _ _ rfl (Below.refl _ _)
          refine Jo.jcons (i := 1) (o := ⟨some 22, _, _, _, _, _⟩) (di := some 22) (L := []) (f := Jo.Fact.eq (.slice (some ⟨b, o, none⟩) n c)) rfl rfl rfl rfl (fun vs wj hJ hd K hK => ?_) ?_
          · clear hd
            simp only [Jo.putl, List.foldl_nil, Act.put, List.setIfInBounds_toArray, List.set_cons_zero, List.set_cons_succ] at hK ⊢
            go_simp
            exact hK.out _ _ rfl (Below.refl _ _)
          refine Jo.jcons (i := 2) (o := ⟨some 23, _, _, _, _, _⟩) (di := some 23) (L := []) (f := Jo.Fact.eq (.int .i64 k)) rfl rfl rfl rfl (fun vs wj hJ hd K hK => ?_) ?_
          · clear hd
            simp only [Jo.putl, List.foldl_nil, Act.put, List.setIfInBounds_toArray, List.set_cons_zero, List.set_cons_succ] at hK ⊢
            go_simp
            exact hK.out _ _ rfl (Below.refl _ _)
          refine Jo.jcons (i := 3) (o := ⟨some 24, _, _, _, _, _⟩) (di := some 24) (L := [(some 22, 1), (some 23, 2)]) (f := Jo.Fact.eq (.pointer (some ⟨b, o + k * 4, none⟩))) rfl rfl rfl rfl (fun vs wj hJ hd K hK => ?_) ?_
          · have d1 : (Jo.Fact.eq (.slice (some ⟨b, o, none⟩) n c)).P (vs 1) wj := hd 1 (by decide)
            have d2 : (Jo.Fact.eq (.int .i64 k)).P (vs 2) wj := hd 2 (by decide)
            clear hd
            simp only [Jo.putl, List.foldl_cons, List.foldl_nil, Act.put, List.setIfInBounds_toArray, List.set_cons_zero, List.set_cons_succ] at hK ⊢
            generalize vs 1 = u1 at hK d1 ⊢
            generalize vs 2 = u2 at hK d2 ⊢
            replace d1 : u1 = _ := d1
            subst d1
            replace d2 : u2 = _ := d2
            subst d2
            go_simp
            exact hK.out _ _ rfl (Below.refl _ _)
          refine Jo.jcons (i := 4) (o := ⟨some 25, _, _, _, _, _⟩) (di := some 25) (L := [(some 24, 3)]) (f := Jo.Fact.eq (.agg #[.int .i64 D, .bool s, .int .u64 M, .int .i64 E])) rfl rfl rfl rfl (fun vs wj hJ hd K hK => ?_) ?_
          · have d3 : (Jo.Fact.eq (.pointer (some ⟨b, o + k * 4, none⟩))).P (vs 3) wj := hd 3 (by decide)
            clear hd
            simp only [Jo.putl, List.foldl_cons, List.foldl_nil, Act.put, List.setIfInBounds_toArray, List.set_cons_zero, List.set_cons_succ] at hK ⊢
            generalize vs 3 = u3 at hK d3 ⊢
            replace d3 : u3 = _ := d3
            subst d3
            have c0' := (hJ.cell (p := ⟨b, _, none⟩) (block_lt_of_cell c0)).trans c0
            have c1' := (hJ.cell (p := ⟨b, _, none⟩) (block_lt_of_cell c1)).trans c1
            have c2' := (hJ.cell (p := ⟨b, _, none⟩) (block_lt_of_cell c2)).trans c2
            have c3' := (hJ.cell (p := ⟨b, _, none⟩) (block_lt_of_cell c3)).trans c3
            go_simp
            exact hK.out _ _ rfl (Below.refl _ _)
          refine Jo.jcons (i := 5) (o := ⟨some 26, _, _, _, _, _⟩) (di := some 26) (L := []) (f := Jo.Fact.eq (.bool up)) rfl rfl rfl rfl (fun vs wj hJ hd K hK => ?_) ?_
          · clear hd
            simp only [Jo.putl, List.foldl_nil, Act.put, List.setIfInBounds_toArray, List.set_cons_zero, List.set_cons_succ] at hK ⊢
            go_simp
            exact hK.out _ _ rfl (Below.refl _ _)
          refine Jo.jcons (i := 6) (o := ⟨some 27, _, _, _, _, _⟩) (di := some 27) (L := [(some 21, 0), (some 25, 4), (some 26, 5)]) (f := Jo.Fact.num r2) rfl rfl rfl rfl (fun vs wj hJ hd K hK => ?_) ?_
          · have d0 : (Jo.Fact.eq (.agg #[.int .i64 K1, .bool s1, .int .u64 M1, .int .i64 E1])).P (vs 0) wj := hd 0 (by decide)
            have d4 : (Jo.Fact.eq (.agg #[.int .i64 D, .bool s, .int .u64 M, .int .i64 E])).P (vs 4) wj := hd 4 (by decide)
            have d5 : (Jo.Fact.eq (.bool up)).P (vs 5) wj := hd 5 (by decide)
            clear hd
            simp only [Jo.putl, List.foldl_cons, List.foldl_nil, Act.put, List.setIfInBounds_toArray, List.set_cons_zero, List.set_cons_succ] at hK ⊢
            generalize vs 0 = u0 at hK d0 ⊢
            generalize vs 4 = u4 at hK d4 ⊢
            generalize vs 5 = u5 at hK d5 ⊢
            replace d0 : u0 = _ := d0
            subst d0
            replace d4 : u4 = _ := d4
            subst d4
            replace d5 : u5 = _ := d5
            subst d5
            go_simp
            refine (gAdd q1.top hM q1.rk HX.out HNR.out HAD.out).mono ?_
            rintro ee wk ⟨K2, s2, M2, E2, rfl, q2, B⟩
            exact hK.out _ _ ⟨K2, s2, M2, E2, rfl, q2⟩ B
          exact Jo.Steps.nil
        have d0 : (Jo.Fact.eq (.agg #[.int .i64 K1, .bool s1, .int .u64 M1, .int .i64 E1])).P (vs 0) w4 := hd 0 (by decide)
        have d1 : (Jo.Fact.eq (.slice (some ⟨b, o, none⟩) n c)).P (vs 1) w4 := hd 1 (by decide)
        have d2 : (Jo.Fact.eq (.int .i64 k)).P (vs 2) w4 := hd 2 (by decide)
        have d3 : (Jo.Fact.eq (.pointer (some ⟨b, o + k * 4, none⟩))).P (vs 3) w4 := hd 3 (by decide)
        have d4 : (Jo.Fact.eq (.agg #[.int .i64 D, .bool s, .int .u64 M, .int .i64 E])).P (vs 4) w4 := hd 4 (by decide)
        have d5 : (Jo.Fact.eq (.bool up)).P (vs 5) w4 := hd 5 (by decide)
        have d6 : (Jo.Fact.num r2).P (vs 6) w4 := hd 6 (by decide)
        clear hd
        simp only [Jo.putl, List.foldl_cons, List.foldl_nil, Act.put, List.setIfInBounds_toArray, List.set_cons_zero, List.set_cons_succ]
        generalize vs 0 = u0 at d0 ⊢
        generalize vs 1 = u1 at d1 ⊢
        generalize vs 2 = u2 at d2 ⊢
        generalize vs 3 = u3 at d3 ⊢
        generalize vs 4 = u4 at d4 ⊢
        generalize vs 5 = u5 at d5 ⊢
        generalize vs 6 = u6 at d6 ⊢
        clear vs
        replace d0 : u0 = _ := d0
        subst d0
        replace d1 : u1 = _ := d1
        subst d1
        replace d2 : u2 = _ := d2
        subst d2
        replace d3 : u3 = _ := d3
        subst d3
        replace d4 : u4 = _ := d4
        subst d4
        replace d5 : u5 = _ := d5
        subst d5
        obtain ⟨K2, s2, M2, E2, rfl, q2⟩ := d6
        replace XR := XR.below hJ
        replace X3 := X3.below hJ
        replace HB := Lib.hid (bt HB.out hJ)
        have xX30 := X3.at (i := 0) (v := .int .i64 K1) rfl
        have zX30 := X3.frozen 0
        have xX31 := X3.at (i := 1) (v := .bool s1) rfl
        have zX31 := X3.frozen 1
        have xX32 := X3.at (i := 2) (v := .int .u64 M1) rfl
        have zX32 := X3.frozen 2
        have xX33 := X3.at (i := 3) (v := .int .i64 E1) rfl
        have zX33 := X3.frozen 3
        refine Jo.jnext (i := 7) (o := ⟨none, _, _, _, _, _⟩) (by kernel_rfl) rfl (fun K hK => ?_)
        go_simp
        refine hK.out _ _ ?_
        clear hK K xX30 zX30 xX31 zX31 xX32 zX32 xX33 zX33
        have SX := StN.mk4 X3 (.int .i64 K2) (.bool s2) (.int .u64 M2) (.int .i64 E2)
        replace XR := XR.stn SX (by omega)
        replace HB := Lib.hid (SX.below HB.out (by omega))
        replace X3 := SX.box
        clear SX
        generalize (World.setCell (World.setCell (World.setCell (World.setCell w4 ⟨g3, 0, none⟩ (.int .i64 K2)) ⟨g3, 1, none⟩ (.bool s2)) ⟨g3, 2, none⟩ (.int .u64 M2)) ⟨g3, 3, none⟩ (.int .i64 E2)) = w5 at *
        refine Jo.jdone (by kernel_rfl) ?_
        go_wp2
        go_roundw
        case rel =>
          refine ⟨k + 1, by omega, by go_num, K2, s2, M2, E2, XR, X3, ?_, HB.out⟩
          rw [HST.out]; exact q2
        case measure => simp [intOf]; omega
    · obtain rfl : k = n := by omega
      rw [List.take_of_length_le (by rw [HLn.out]; omega), HR.out] at q1
      have xXR0 := XR.at (i := 0) (v := .int .i64 0) rfl
      have zXR0 := XR.frozen 0
      have xXR1 := XR.at (i := 1) (v := .bool false) rfl
      have zXR1 := XR.frozen 1
      have xXR2 := XR.at (i := 2) (v := .int .u64 0) rfl
      have zXR2 := XR.frozen 2
      have xXR3 := XR.at (i := 3) (v := .int .i64 0) rfl
      have zXR3 := XR.frozen 3
      have xX30 := X3.at (i := 0) (v := .int .i64 K1) rfl
      have xX31 := X3.at (i := 1) (v := .bool s1) rfl
      have xX32 := X3.at (i := 2) (v := .int .u64 M1) rfl
      have xX33 := X3.at (i := 3) (v := .int .i64 E1) rfl
      go_wp2
      clear xXR0 zXR0 xXR1 zXR1 xXR2 zXR2 xXR3 zXR3 xX30 xX31 xX32 xX33
      have SX := StN.mk4 XR (.int .i64 K1) (.bool s1) (.int .u64 M1) (.int .i64 E1)
      replace X3 := X3.stn SX (by omega)
      replace HB := Lib.hid (SX.below HB.out (by omega))
      replace XR := SX.box
      clear SX
      generalize (World.setCell (World.setCell (World.setCell (World.setCell wr ⟨w.heap.size, 0, none⟩ (.int .i64 K1)) ⟨w.heap.size, 1, none⟩ (.bool s1)) ⟨w.heap.size, 2, none⟩ (.int .u64 M1)) ⟨w.heap.size, 3, none⟩ (.int .i64 E1)) = w5 at *
      have r0 := XR.cell 0
      have r1 := XR.cell 1
      have r2 := XR.cell 2
      have r3 := XR.cell 3
      exact bodyPost_ret (v := .agg #[.int .i64 K1, .bool s1, .int .u64 M1, .int .i64 E1]) (by simp [results, Tryd.results25, go_sem, r0, r1, r2, r3]) rfl ⟨_, _, _, _, rfl, q1, HB.out⟩
end Go.Proofs.YtbhnpmkdmnnclaaDoor

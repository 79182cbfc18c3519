/-
  Contracts and words that the statement's proof rests on, several texts in one: Hl.
-/
import Derived.Test.YtbhnpmkdmnnclaaDoorYCas
import Derived.Test.YtbhnpmkdmnnclaaDoorYCay
/-
  What holds answers: a number lies between two, without another one between these.
-/
namespace Go.Proofs.YtbhnpmkdmnnclaaDoor
open Go.RowKit
set_option linter.unusedVariables false
set_option linter.unusedSimpArgs false
set_option maxRecDepth 100000

theorem fq_ne6 {D D' : Int} {s s' : Bool} {M M' E E' r r' : Int} (q : Fq D s M E r) (q' : Fq D' s' M' E' r') (h : r ≠ r') : D = D' → s = s' → M = M' → ¬ E = E' := by
  rintro rfl rfl rfl rfl
  exact h (q.2.2.symm.trans q'.2.2)
theorem mk_exq6 (D : Int) (s : Bool) (M E : Int) : mk (exq D s M E).1 (exq D s M E).2 = exq D s M E := by
  unfold exq
  split
  · exact mk_nf _ _
  · exact mk_zero 0
set_option maxHeartbeats 8000000 in
theorem holds_same {w : World} {A : Option Addr} {n c : Nat} {sd : Bool} {z e x y D1 M1 E1 D2 M2 E2 : Int} {s1 s2 : Bool} (hT : Tab w) (h0 : Wr w sd A n c z) (hn : n ≤ 100000) (q1 : Fq D1 s1 M1 E1 x) (q2 : Fq D2 s2 M2 E2 y)
    (x1 : -19342822337206103650074625 < x) (x2 : x < 19342822337206103650074625) (y1 : -19342822337206103650074625 < y) (y2 : y < 19342822337206103650074625) (hxy : y = x) (hv : vr x = vl (mk z e)) :
    Calls Tryd.prog 30 #[.agg #[.bool sd, .slice A n c, .int .i64 e], .agg #[.int .i64 D1, .bool s1, .int .u64 M1, .int .i64 E1], .agg #[.int .i64 D2, .bool s2, .int .u64 M2, .int .i64 E2]] w (PB w true) := by
  obtain rfl : x = y := hxy.symm
  obtain ⟨rfl, rfl, rfl, rfl⟩ := q1.uniq q2
  obtain ⟨g1, k1⟩ := exq_vl q1 x1 x2
  have HG1 := Lib.hid g1
  have w1M : 0 ≤ M1 := by rcases q1.cases with ⟨_, _, h, _⟩ | ⟨_, h, _⟩ | ⟨_, h, _⟩ <;> omega
  have HM1 : Hid (cmpI (vl (mk (exq D1 s1 M1 E1).1 (exq D1 s1 M1 E1).2)) (vl (mk z e)) = 0) := Lib.hid (by rw [mk_exq6, k1]; exact cmpI_eq hv)
  obtain ⟨N1, hN1⟩ : ∃ N, (exq D1 s1 M1 E1).1 = N := ⟨_, rfl⟩
  obtain ⟨F1, hF1⟩ : ∃ N, (exq D1 s1 M1 E1).2 = N := ⟨_, rfl⟩
  rw [hN1, hF1] at HM1
  have HN1 := Lib.hid hN1
  have HF1 := Lib.hid hF1
  clear hN1 hF1 g1 k1
  clear hv
  go_enter Tryd.func30, Tryd.ntmps30
  go_upto_region 1 with (fail)
  have X3 := (Bo.newAt w (g := w.heap.size) (by simp) #[.bool sd, .slice A n c, .int .i64 e] 39).below (bel2 _ (.cells #[.int .i64 D1, .bool s1, .int .u64 M1, .int .i64 E1] 24) (.cells #[.int .i64 D1, .bool s1, .int .u64 M1, .int .i64 E1] 24))
  have X4 := (Bo.newAt (w.alloc (.cells #[.bool sd, .slice A n c, .int .i64 e] 39)) (g := w.heap.size + 1) (by simp) #[.int .i64 D1, .bool s1, .int .u64 M1, .int .i64 E1] 24).below (bel1 _ (.cells #[.int .i64 D1, .bool s1, .int .u64 M1, .int .i64 E1] 24))
  have X5 := (Bo.newAt ((w.alloc (.cells #[.bool sd, .slice A n c, .int .i64 e] 39)).alloc (.cells #[.int .i64 D1, .bool s1, .int .u64 M1, .int .i64 E1] 24)) (g := w.heap.size + 1 + 1) (by simp) #[.int .i64 D1, .bool s1, .int .u64 M1, .int .i64 E1] 24)
  have HB := Lib.hid (bel3 w (.cells #[.bool sd, .slice A n c, .int .i64 e] 39) (.cells #[.int .i64 D1, .bool s1, .int .u64 M1, .int .i64 E1] 24) (.cells #[.int .i64 D1, .bool s1, .int .u64 M1, .int .i64 E1] 24))
  replace hT := hT.below HB.out
  replace h0 := h0.below HB.out
  generalize hW1 : (((w.alloc (.cells #[.bool sd, .slice A n c, .int .i64 e] 39)).alloc (.cells #[.int .i64 D1, .bool s1, .int .u64 M1, .int .i64 E1] 24)).alloc (.cells #[.int .i64 D1, .bool s1, .int .u64 M1, .int .i64 E1] 24)) = w1 at *
  clear hW1
  have xX40 := X4.at (i := 0) (v := .int .i64 D1) rfl
  have xX41 := X4.at (i := 1) (v := .bool s1) rfl
  have xX42 := X4.at (i := 2) (v := .int .u64 M1) rfl
  have xX43 := X4.at (i := 3) (v := .int .i64 E1) rfl
  go_wp2_with fail
  refine (nExact hT w1M q1.top HG1.out HN1.out HF1.out).mono ?_
  rintro ee w5 ⟨sa, Aa, na, ca, rfl, pa, ka, B⟩
  clear xX40 xX41 xX42 xX43
  replace X3 := X3.below B
  replace X4 := X4.below B
  replace X5 := X5.below B
  replace hT := hT.below B
  replace h0 := h0.below B
  replace HB := Lib.hid (bt HB.out B)
  clear B
  go_upto_region 2 with (fail)
  have lX7 := Nat.le_refl (World.heap w5).size
  have nX7X3 := X3.lt
  have nX7X4 := X4.lt
  have nX7X5 := X5.lt
  replace X3 := X3.below (bel1 _ (.cells #[.bool sa, .slice Aa na ca, .int .i64 F1] 39))
  replace X4 := X4.below (bel1 _ (.cells #[.bool sa, .slice Aa na ca, .int .i64 F1] 39))
  replace X5 := X5.below (bel1 _ (.cells #[.bool sa, .slice Aa na ca, .int .i64 F1] 39))
  replace hT := hT.below (bel1 _ (.cells #[.bool sa, .slice Aa na ca, .int .i64 F1] 39))
  replace h0 := h0.below (bel1 _ (.cells #[.bool sa, .slice Aa na ca, .int .i64 F1] 39))
  replace pa := pa.below (bel1 _ (.cells #[.bool sa, .slice Aa na ca, .int .i64 F1] 39))
  replace HB := Lib.hid (bt HB.out (bel1 _ (.cells #[.bool sa, .slice Aa na ca, .int .i64 F1] 39)))
  have X7 := Bo.new w5 #[.bool sa, .slice Aa na ca, .int .i64 F1] 39
  generalize hWn : World.alloc w5 (.cells #[.bool sa, .slice Aa na ca, .int .i64 F1] 39) = w6 at *
  clear hWn
  clear lX7
  have xX50 := X5.at (i := 0) (v := .int .i64 D1) rfl
  have xX51 := X5.at (i := 1) (v := .bool s1) rfl
  have xX52 := X5.at (i := 2) (v := .int .u64 M1) rfl
  have xX53 := X5.at (i := 3) (v := .int .i64 E1) rfl
  go_wp2_with fail
  refine (nExact hT w1M q1.top HG1.out HN1.out HF1.out).mono ?_
  rintro ee w7 ⟨sb, Ab, nb, cb, rfl, pb, kb, B⟩
  clear xX50 xX51 xX52 xX53
  replace X3 := X3.below B
  replace X4 := X4.below B
  replace X5 := X5.below B
  replace X7 := X7.below B
  replace hT := hT.below B
  replace h0 := h0.below B
  replace pa := pa.below B
  replace HB := Lib.hid (bt HB.out B)
  clear B
  go_upto_region 3 with (fail)
  have lX9 := Nat.le_refl (World.heap w7).size
  have nX9X3 := X3.lt
  have nX9X4 := X4.lt
  have nX9X5 := X5.lt
  have nX9X7 := X7.lt
  replace X3 := X3.below (bel1 _ (.cells #[.bool sb, .slice Ab nb cb, .int .i64 F1] 39))
  replace X4 := X4.below (bel1 _ (.cells #[.bool sb, .slice Ab nb cb, .int .i64 F1] 39))
  replace X5 := X5.below (bel1 _ (.cells #[.bool sb, .slice Ab nb cb, .int .i64 F1] 39))
  replace X7 := X7.below (bel1 _ (.cells #[.bool sb, .slice Ab nb cb, .int .i64 F1] 39))
  replace hT := hT.below (bel1 _ (.cells #[.bool sb, .slice Ab nb cb, .int .i64 F1] 39))
  replace h0 := h0.below (bel1 _ (.cells #[.bool sb, .slice Ab nb cb, .int .i64 F1] 39))
  replace pa := pa.below (bel1 _ (.cells #[.bool sb, .slice Ab nb cb, .int .i64 F1] 39))
  replace pb := pb.below (bel1 _ (.cells #[.bool sb, .slice Ab nb cb, .int .i64 F1] 39))
  replace HB := Lib.hid (bt HB.out (bel1 _ (.cells #[.bool sb, .slice Ab nb cb, .int .i64 F1] 39)))
  have X9 := Bo.new w7 #[.bool sb, .slice Ab nb cb, .int .i64 F1] 39
  generalize hWn : World.alloc w7 (.cells #[.bool sb, .slice Ab nb cb, .int .i64 F1] 39) = w8 at *
  clear hWn
  clear lX9
  have xX70 := X7.at (i := 0) (v := .bool sa) rfl
  have xX71 := X7.at (i := 1) (v := .slice Aa na ca) rfl
  have xX72 := X7.at (i := 2) (v := .int .i64 F1) rfl
  have xX30 := X3.at (i := 0) (v := .bool sd) rfl
  have xX31 := X3.at (i := 1) (v := .slice A n c) rfl
  have xX32 := X3.at (i := 2) (v := .int .i64 e) rfl
  go_wp2_with fail
  refine (dCmp hT pa.wr h0 (by omega) (by omega) HM1.out).mono ?_
  rintro ee w9 ⟨rfl, B⟩
  clear xX70 xX71 xX72 xX30 xX31 xX32
  replace X3 := X3.below B
  replace X4 := X4.below B
  replace X5 := X5.below B
  replace X7 := X7.below B
  replace X9 := X9.below B
  replace hT := hT.below B
  replace h0 := h0.below B
  replace pa := pa.below B
  replace pb := pb.below B
  replace HB := Lib.hid (bt HB.out B)
  clear B
  have xX90 := X9.at (i := 0) (v := .bool sb) rfl
  have xX91 := X9.at (i := 1) (v := .slice Ab nb cb) rfl
  have xX92 := X9.at (i := 2) (v := .int .i64 F1) rfl
  have xX30 := X3.at (i := 0) (v := .bool sd) rfl
  have xX31 := X3.at (i := 1) (v := .slice A n c) rfl
  have xX32 := X3.at (i := 2) (v := .int .i64 e) rfl
  go_wp2_with fail
  refine (dCmp hT pb.wr h0 (by omega) (by omega) HM1.out).mono ?_
  rintro ee wA ⟨rfl, B⟩
  clear xX90 xX91 xX92 xX30 xX31 xX32
  replace X3 := X3.below B
  replace X4 := X4.below B
  replace X5 := X5.below B
  replace X7 := X7.below B
  replace X9 := X9.below B
  replace hT := hT.below B
  replace h0 := h0.below B
  replace pa := pa.below B
  replace pb := pb.below B
  replace HB := Lib.hid (bt HB.out B)
  clear B
  go_upto_region 5 with (fail)
  refine Jo.region_joint (T := [0, 1, 2, 3, 4, 5, 6, 7, 8, 9, 10, 11, 12, 13, 14, 15, 16, 17, 18, 19, 20, 21]) (ds := [some 39, some 40, some 41, some 42, some 43, some 44, some 45, some 46, some 47, some 48, some 49, some 50, some 51, some 52, some 53, some 54, some 55, some 56, some 57, some 58, some 59, some 6]) (ls := [[], [], [0, 1], [2], [3], [3, 4], [3], [3, 5, 6], [3, 7], [8], [8], [8, 9, 10], [8, 11], [3, 8, 12], [3, 13], [14], [14], [14, 15, 16], [14, 17], [3, 14, 18], [3, 19], [20]]) (k := 22) (L := [(some 39, 0), (some 40, 1), (some 41, 2), (some 42, 3), (some 43, 4), (some 44, 5), (some 45, 6), (some 46, 7), (some 47, 8), (some 48, 9), (some 49, 10), (some 50, 11), (some 51, 12), (some 52, 13), (some 53, 14), (some 54, 15), (some 55, 16), (some 56, 17), (some 57, 18), (some 58, 19), (some 59, 20), (some 6, 21)]) (fuel := 0) (J := fun wj => Below (World.heap wA).size wA wj)
    (F := [Jo.Fact.eq (.agg #[.int .i64 D1, .bool s1, .int .u64 M1, .int .i64 E1]), Jo.Fact.eq (.agg #[.int .i64 D1, .bool s1, .int .u64 M1, .int .i64 E1]), Jo.Fact.eq (.bool true), Jo.Fact.eq (.bool true), Jo.Fact.eq undef, Jo.Fact.eq undef, Jo.Fact.eq undef, Jo.Fact.eq undef, Jo.Fact.eq undef, Jo.Fact.eq undef, Jo.Fact.eq undef, Jo.Fact.eq undef, Jo.Fact.eq undef, Jo.Fact.eq undef, Jo.Fact.eq undef, Jo.Fact.eq undef, Jo.Fact.eq undef, Jo.Fact.eq undef, Jo.Fact.eq undef, Jo.Fact.eq undef, Jo.Fact.eq (.bool true), Jo.Fact.eq (.bool true)])
    (by kernel_rfl) (by kernel_rfl) (by decide) rfl rfl (fun _ _ h b => bt h b) ((Below.refl _ _).drew) ?_ (fun vs wB hJ hd => ?_)
  · refine Jo.jcons (i := 0) (o := ⟨some 39, _, _, _, _, _⟩) (di := some 39) (L := []) (f := Jo.Fact.eq (.agg #[.int .i64 D1, .bool s1, .int .u64 M1, .int .i64 E1])) rfl rfl rfl rfl (fun vs wj hJ hd K hK => ?_) ?_
    · clear hd
      simp only [Jo.putl, List.foldl_nil, Act.put, List.setIfInBounds_toArray, List.set_cons_zero, List.set_cons_succ] at hK ⊢
      have xX40 : World.cell? wj ⟨w.heap.size + 1, 0, none⟩ = some (.int .i64 D1) := (X4.below hJ).cell 0
      have xX41 : World.cell? wj ⟨w.heap.size + 1, 1, none⟩ = some (.bool s1) := (X4.below hJ).cell 1
      have xX42 : World.cell? wj ⟨w.heap.size + 1, 2, none⟩ = some (.int .u64 M1) := (X4.below hJ).cell 2
      have xX43 : World.cell? wj ⟨w.heap.size + 1, 3, none⟩ = some (.int .i64 E1) := (X4.below hJ).cell 3
      go_simp
      exact hK.out _ _ rfl (Below.refl _ _)
    refine Jo.jcons (i := 1) (o := ⟨some 40, _, _, _, _, _⟩) (di := some 40) (L := []) (f := Jo.Fact.eq (.agg #[.int .i64 D1, .bool s1, .int .u64 M1, .int .i64 E1])) rfl rfl rfl rfl (fun vs wj hJ hd K hK => ?_) ?_
    · clear hd
      simp only [Jo.putl, List.foldl_nil, Act.put, List.setIfInBounds_toArray, List.set_cons_zero, List.set_cons_succ] at hK ⊢
      have xX50 : World.cell? wj ⟨w.heap.size + 1 + 1, 0, none⟩ = some (.int .i64 D1) := (X5.below hJ).cell 0
      have xX51 : World.cell? wj ⟨w.heap.size + 1 + 1, 1, none⟩ = some (.bool s1) := (X5.below hJ).cell 1
      have xX52 : World.cell? wj ⟨w.heap.size + 1 + 1, 2, none⟩ = some (.int .u64 M1) := (X5.below hJ).cell 2
      have xX53 : World.cell? wj ⟨w.heap.size + 1 + 1, 3, none⟩ = some (.int .i64 E1) := (X5.below hJ).cell 3
      go_simp
      exact hK.out _ _ rfl (Below.refl _ _)
    refine Jo.jcons (i := 2) (o := ⟨some 41, _, _, _, _, _⟩) (di := some 41) (L := [(some 39, 0), (some 40, 1)]) (f := Jo.Fact.eq (.bool true)) rfl rfl rfl rfl (fun vs wj hJ hd K hK => ?_) ?_
    · have d0 : (Jo.Fact.eq (.agg #[.int .i64 D1, .bool s1, .int .u64 M1, .int .i64 E1])).P (vs 0) wj := hd 0 (by decide)
      have d1 : (Jo.Fact.eq (.agg #[.int .i64 D1, .bool s1, .int .u64 M1, .int .i64 E1])).P (vs 1) wj := hd 1 (by decide)
      clear hd
      simp only [Jo.putl, List.foldl_cons, List.foldl_nil, Act.put, List.setIfInBounds_toArray, List.set_cons_zero, List.set_cons_succ] at hK ⊢
      generalize vs 0 = u0 at hK d0 ⊢
      generalize vs 1 = u1 at hK d1 ⊢
      replace d0 : u0 = _ := d0
      subst d0
      replace d1 : u1 = _ := d1
      subst d1
      go_simp
      exact hK.out _ _ (by first | rfl | (show Value.bool _ = Value.bool _; simp)) (Below.refl _ _)
    refine Jo.jcons (i := 3) (o := ⟨some 42, _, _, _, _, _⟩) (di := some 42) (L := [(some 41, 2)]) (f := Jo.Fact.eq (.bool true)) rfl rfl rfl rfl (fun vs wj hJ hd K hK => ?_) ?_
    · have d2 : (Jo.Fact.eq (.bool true)).P (vs 2) wj := hd 2 (by decide)
      clear hd
      simp only [Jo.putl, List.foldl_cons, List.foldl_nil, Act.put, List.setIfInBounds_toArray, List.set_cons_zero, List.set_cons_succ] at hK ⊢
      generalize vs 2 = u2 at hK d2 ⊢
      replace d2 : u2 = _ := d2
      subst d2
      go_simp
      exact hK.out _ _ rfl (Below.refl _ _)
    refine Jo.jcons (i := 4) (o := ⟨some 43, _, _, _, _, _⟩) (di := some 43) (L := [(some 42, 3)]) (f := Jo.Fact.eq undef) rfl rfl rfl rfl (fun vs wj hJ hd K hK => ?_) ?_
    · have d3 : (Jo.Fact.eq (.bool true)).P (vs 3) wj := hd 3 (by decide)
      clear hd
      simp only [Jo.putl, List.foldl_cons, List.foldl_nil, Act.put, List.setIfInBounds_toArray, List.set_cons_zero, List.set_cons_succ] at hK ⊢
      generalize vs 3 = u3 at hK d3 ⊢
      replace d3 : u3 = _ := d3
      subst d3
      go_simp
      exact hK.out _ _ rfl (Below.refl _ _)
    refine Jo.jcons (i := 5) (o := ⟨some 44, _, _, _, _, _⟩) (di := some 44) (L := [(some 42, 3), (some 43, 4)]) (f := Jo.Fact.eq undef) rfl rfl rfl rfl (fun vs wj hJ hd K hK => ?_) ?_
    · have d3 : (Jo.Fact.eq (.bool true)).P (vs 3) wj := hd 3 (by decide)
      have d4 : (Jo.Fact.eq undef).P (vs 4) wj := hd 4 (by decide)
      clear hd
      simp only [Jo.putl, List.foldl_cons, List.foldl_nil, Act.put, List.setIfInBounds_toArray, List.set_cons_zero, List.set_cons_succ] at hK ⊢
      generalize vs 3 = u3 at hK d3 ⊢
      generalize vs 4 = u4 at hK d4 ⊢
      replace d3 : u3 = _ := d3
      subst d3
      replace d4 : u4 = _ := d4
      subst d4
      go_simp
      exact hK.out _ _ rfl (Below.refl _ _)
    refine Jo.jcons (i := 6) (o := ⟨some 45, _, _, _, _, _⟩) (di := some 45) (L := [(some 42, 3)]) (f := Jo.Fact.eq undef) rfl rfl rfl rfl (fun vs wj hJ hd K hK => ?_) ?_
    · have d3 : (Jo.Fact.eq (.bool true)).P (vs 3) wj := hd 3 (by decide)
      clear hd
      simp only [Jo.putl, List.foldl_cons, List.foldl_nil, Act.put, List.setIfInBounds_toArray, List.set_cons_zero, List.set_cons_succ] at hK ⊢
      generalize vs 3 = u3 at hK d3 ⊢
      replace d3 : u3 = _ := d3
      subst d3
      go_simp
      exact hK.out _ _ rfl (Below.refl _ _)
    refine Jo.jcons (i := 7) (o := ⟨some 46, _, _, _, _, _⟩) (di := some 46) (L := [(some 42, 3), (some 44, 5), (some 45, 6)]) (f := Jo.Fact.eq undef) rfl rfl rfl rfl (fun vs wj hJ hd K hK => ?_) ?_
    · have d3 : (Jo.Fact.eq (.bool true)).P (vs 3) wj := hd 3 (by decide)
      have d5 : (Jo.Fact.eq undef).P (vs 5) wj := hd 5 (by decide)
      have d6 : (Jo.Fact.eq undef).P (vs 6) wj := hd 6 (by decide)
      clear hd
      simp only [Jo.putl, List.foldl_cons, List.foldl_nil, Act.put, List.setIfInBounds_toArray, List.set_cons_zero, List.set_cons_succ] at hK ⊢
      generalize vs 3 = u3 at hK d3 ⊢
      generalize vs 5 = u5 at hK d5 ⊢
      generalize vs 6 = u6 at hK d6 ⊢
      replace d3 : u3 = _ := d3
      subst d3
      replace d5 : u5 = _ := d5
      subst d5
      replace d6 : u6 = _ := d6
      subst d6
      go_simp
      exact hK.out _ _ rfl (Below.refl _ _)
    refine Jo.jcons (i := 8) (o := ⟨some 47, _, _, _, _, _⟩) (di := some 47) (L := [(some 42, 3), (some 46, 7)]) (f := Jo.Fact.eq undef) rfl rfl rfl rfl (fun vs wj hJ hd K hK => ?_) ?_
    · have d3 : (Jo.Fact.eq (.bool true)).P (vs 3) wj := hd 3 (by decide)
      have d7 : (Jo.Fact.eq undef).P (vs 7) wj := hd 7 (by decide)
      clear hd
      simp only [Jo.putl, List.foldl_cons, List.foldl_nil, Act.put, List.setIfInBounds_toArray, List.set_cons_zero, List.set_cons_succ] at hK ⊢
      generalize vs 3 = u3 at hK d3 ⊢
      generalize vs 7 = u7 at hK d7 ⊢
      replace d3 : u3 = _ := d3
      subst d3
      replace d7 : u7 = _ := d7
      subst d7
      go_simp
      exact hK.out _ _ rfl (Below.refl _ _)
    refine Jo.jcons (i := 9) (o := ⟨some 48, _, _, _, _, _⟩) (di := some 48) (L := [(some 47, 8)]) (f := Jo.Fact.eq undef) rfl rfl rfl rfl (fun vs wj hJ hd K hK => ?_) ?_
    · have d8 : (Jo.Fact.eq undef).P (vs 8) wj := hd 8 (by decide)
      clear hd
      simp only [Jo.putl, List.foldl_cons, List.foldl_nil, Act.put, List.setIfInBounds_toArray, List.set_cons_zero, List.set_cons_succ] at hK ⊢
      generalize vs 8 = u8 at hK d8 ⊢
      replace d8 : u8 = _ := d8
      subst d8
      go_simp
      exact hK.out _ _ rfl (Below.refl _ _)
    refine Jo.jcons (i := 10) (o := ⟨some 49, _, _, _, _, _⟩) (di := some 49) (L := [(some 47, 8)]) (f := Jo.Fact.eq undef) rfl rfl rfl rfl (fun vs wj hJ hd K hK => ?_) ?_
    · have d8 : (Jo.Fact.eq undef).P (vs 8) wj := hd 8 (by decide)
      clear hd
      simp only [Jo.putl, List.foldl_cons, List.foldl_nil, Act.put, List.setIfInBounds_toArray, List.set_cons_zero, List.set_cons_succ] at hK ⊢
      generalize vs 8 = u8 at hK d8 ⊢
      replace d8 : u8 = _ := d8
      subst d8
      go_simp
      exact hK.out _ _ rfl (Below.refl _ _)
    refine Jo.jcons (i := 11) (o := ⟨some 50, _, _, _, _, _⟩) (di := some 50) (L := [(some 47, 8), (some 48, 9), (some 49, 10)]) (f := Jo.Fact.eq undef) rfl rfl rfl rfl (fun vs wj hJ hd K hK => ?_) ?_
    · have d8 : (Jo.Fact.eq undef).P (vs 8) wj := hd 8 (by decide)
      have d9 : (Jo.Fact.eq undef).P (vs 9) wj := hd 9 (by decide)
      have d10 : (Jo.Fact.eq undef).P (vs 10) wj := hd 10 (by decide)
      clear hd
      simp only [Jo.putl, List.foldl_cons, List.foldl_nil, Act.put, List.setIfInBounds_toArray, List.set_cons_zero, List.set_cons_succ] at hK ⊢
      generalize vs 8 = u8 at hK d8 ⊢
      generalize vs 9 = u9 at hK d9 ⊢
      generalize vs 10 = u10 at hK d10 ⊢
      replace d8 : u8 = _ := d8
      subst d8
      replace d9 : u9 = _ := d9
      subst d9
      replace d10 : u10 = _ := d10
      subst d10
      go_simp
      exact hK.out _ _ rfl (Below.refl _ _)
    refine Jo.jcons (i := 12) (o := ⟨some 51, _, _, _, _, _⟩) (di := some 51) (L := [(some 47, 8), (some 50, 11)]) (f := Jo.Fact.eq undef) rfl rfl rfl rfl (fun vs wj hJ hd K hK => ?_) ?_
    · have d8 : (Jo.Fact.eq undef).P (vs 8) wj := hd 8 (by decide)
      have d11 : (Jo.Fact.eq undef).P (vs 11) wj := hd 11 (by decide)
      clear hd
      simp only [Jo.putl, List.foldl_cons, List.foldl_nil, Act.put, List.setIfInBounds_toArray, List.set_cons_zero, List.set_cons_succ] at hK ⊢
      generalize vs 8 = u8 at hK d8 ⊢
      generalize vs 11 = u11 at hK d11 ⊢
      replace d8 : u8 = _ := d8
      subst d8
      replace d11 : u11 = _ := d11
      subst d11
      go_simp
      exact hK.out _ _ rfl (Below.refl _ _)
    refine Jo.jcons (i := 13) (o := ⟨some 52, _, _, _, _, _⟩) (di := some 52) (L := [(some 42, 3), (some 47, 8), (some 51, 12)]) (f := Jo.Fact.eq undef) rfl rfl rfl rfl (fun vs wj hJ hd K hK => ?_) ?_
    · have d3 : (Jo.Fact.eq (.bool true)).P (vs 3) wj := hd 3 (by decide)
      have d8 : (Jo.Fact.eq undef).P (vs 8) wj := hd 8 (by decide)
      have d12 : (Jo.Fact.eq undef).P (vs 12) wj := hd 12 (by decide)
      clear hd
      simp only [Jo.putl, List.foldl_cons, List.foldl_nil, Act.put, List.setIfInBounds_toArray, List.set_cons_zero, List.set_cons_succ] at hK ⊢
      generalize vs 3 = u3 at hK d3 ⊢
      generalize vs 8 = u8 at hK d8 ⊢
      generalize vs 12 = u12 at hK d12 ⊢
      replace d3 : u3 = _ := d3
      subst d3
      replace d8 : u8 = _ := d8
      subst d8
      replace d12 : u12 = _ := d12
      subst d12
      go_simp
      exact hK.out _ _ rfl (Below.refl _ _)
    refine Jo.jcons (i := 14) (o := ⟨some 53, _, _, _, _, _⟩) (di := some 53) (L := [(some 42, 3), (some 52, 13)]) (f := Jo.Fact.eq undef) rfl rfl rfl rfl (fun vs wj hJ hd K hK => ?_) ?_
    · have d3 : (Jo.Fact.eq (.bool true)).P (vs 3) wj := hd 3 (by decide)
      have d13 : (Jo.Fact.eq undef).P (vs 13) wj := hd 13 (by decide)
      clear hd
      simp only [Jo.putl, List.foldl_cons, List.foldl_nil, Act.put, List.setIfInBounds_toArray, List.set_cons_zero, List.set_cons_succ] at hK ⊢
      generalize vs 3 = u3 at hK d3 ⊢
      generalize vs 13 = u13 at hK d13 ⊢
      replace d3 : u3 = _ := d3
      subst d3
      replace d13 : u13 = _ := d13
      subst d13
      go_simp
      exact hK.out _ _ rfl (Below.refl _ _)
    refine Jo.jcons (i := 15) (o := ⟨some 54, _, _, _, _, _⟩) (di := some 54) (L := [(some 53, 14)]) (f := Jo.Fact.eq undef) rfl rfl rfl rfl (fun vs wj hJ hd K hK => ?_) ?_
    · have d14 : (Jo.Fact.eq undef).P (vs 14) wj := hd 14 (by decide)
      clear hd
      simp only [Jo.putl, List.foldl_cons, List.foldl_nil, Act.put, List.setIfInBounds_toArray, List.set_cons_zero, List.set_cons_succ] at hK ⊢
      generalize vs 14 = u14 at hK d14 ⊢
      replace d14 : u14 = _ := d14
      subst d14
      go_simp
      exact hK.out _ _ rfl (Below.refl _ _)
    refine Jo.jcons (i := 16) (o := ⟨some 55, _, _, _, _, _⟩) (di := some 55) (L := [(some 53, 14)]) (f := Jo.Fact.eq undef) rfl rfl rfl rfl (fun vs wj hJ hd K hK => ?_) ?_
    · have d14 : (Jo.Fact.eq undef).P (vs 14) wj := hd 14 (by decide)
      clear hd
      simp only [Jo.putl, List.foldl_cons, List.foldl_nil, Act.put, List.setIfInBounds_toArray, List.set_cons_zero, List.set_cons_succ] at hK ⊢
      generalize vs 14 = u14 at hK d14 ⊢
      replace d14 : u14 = _ := d14
      subst d14
      go_simp
      exact hK.out _ _ rfl (Below.refl _ _)
    refine Jo.jcons (i := 17) (o := ⟨some 56, _, _, _, _, _⟩) (di := some 56) (L := [(some 53, 14), (some 54, 15), (some 55, 16)]) (f := Jo.Fact.eq undef) rfl rfl rfl rfl (fun vs wj hJ hd K hK => ?_) ?_
    · have d14 : (Jo.Fact.eq undef).P (vs 14) wj := hd 14 (by decide)
      have d15 : (Jo.Fact.eq undef).P (vs 15) wj := hd 15 (by decide)
      have d16 : (Jo.Fact.eq undef).P (vs 16) wj := hd 16 (by decide)
      clear hd
      simp only [Jo.putl, List.foldl_cons, List.foldl_nil, Act.put, List.setIfInBounds_toArray, List.set_cons_zero, List.set_cons_succ] at hK ⊢
      generalize vs 14 = u14 at hK d14 ⊢
      generalize vs 15 = u15 at hK d15 ⊢
      generalize vs 16 = u16 at hK d16 ⊢
      replace d14 : u14 = _ := d14
      subst d14
      replace d15 : u15 = _ := d15
      subst d15
      replace d16 : u16 = _ := d16
      subst d16
      go_simp
      exact hK.out _ _ rfl (Below.refl _ _)
    refine Jo.jcons (i := 18) (o := ⟨some 57, _, _, _, _, _⟩) (di := some 57) (L := [(some 53, 14), (some 56, 17)]) (f := Jo.Fact.eq undef) rfl rfl rfl rfl (fun vs wj hJ hd K hK => ?_) ?_
    · have d14 : (Jo.Fact.eq undef).P (vs 14) wj := hd 14 (by decide)
      have d17 : (Jo.Fact.eq undef).P (vs 17) wj := hd 17 (by decide)
      clear hd
      simp only [Jo.putl, List.foldl_cons, List.foldl_nil, Act.put, List.setIfInBounds_toArray, List.set_cons_zero, List.set_cons_succ] at hK ⊢
      generalize vs 14 = u14 at hK d14 ⊢
      generalize vs 17 = u17 at hK d17 ⊢
      replace d14 : u14 = _ := d14
      subst d14
      replace d17 : u17 = _ := d17
      subst d17
      go_simp
      exact hK.out _ _ rfl (Below.refl _ _)
    refine Jo.jcons (i := 19) (o := ⟨some 58, _, _, _, _, _⟩) (di := some 58) (L := [(some 42, 3), (some 53, 14), (some 57, 18)]) (f := Jo.Fact.eq undef) rfl rfl rfl rfl (fun vs wj hJ hd K hK => ?_) ?_
    · have d3 : (Jo.Fact.eq (.bool true)).P (vs 3) wj := hd 3 (by decide)
      have d14 : (Jo.Fact.eq undef).P (vs 14) wj := hd 14 (by decide)
      have d18 : (Jo.Fact.eq undef).P (vs 18) wj := hd 18 (by decide)
      clear hd
      simp only [Jo.putl, List.foldl_cons, List.foldl_nil, Act.put, List.setIfInBounds_toArray, List.set_cons_zero, List.set_cons_succ] at hK ⊢
      generalize vs 3 = u3 at hK d3 ⊢
      generalize vs 14 = u14 at hK d14 ⊢
      generalize vs 18 = u18 at hK d18 ⊢
      replace d3 : u3 = _ := d3
      subst d3
      replace d14 : u14 = _ := d14
      subst d14
      replace d18 : u18 = _ := d18
      subst d18
      go_simp
      exact hK.out _ _ rfl (Below.refl _ _)
    refine Jo.jcons (i := 20) (o := ⟨some 59, _, _, _, _, _⟩) (di := some 59) (L := [(some 42, 3), (some 58, 19)]) (f := Jo.Fact.eq (.bool true)) rfl rfl rfl rfl (fun vs wj hJ hd K hK => ?_) ?_
    · have d3 : (Jo.Fact.eq (.bool true)).P (vs 3) wj := hd 3 (by decide)
      have d19 : (Jo.Fact.eq undef).P (vs 19) wj := hd 19 (by decide)
      clear hd
      simp only [Jo.putl, List.foldl_cons, List.foldl_nil, Act.put, List.setIfInBounds_toArray, List.set_cons_zero, List.set_cons_succ] at hK ⊢
      generalize vs 3 = u3 at hK d3 ⊢
      generalize vs 19 = u19 at hK d19 ⊢
      replace d3 : u3 = _ := d3
      subst d3
      replace d19 : u19 = _ := d19
      subst d19
      go_simp
      exact hK.out _ _ rfl (Below.refl _ _)
    refine Jo.jcons (i := 21) (o := ⟨some 6, _, _, _, _, _⟩) (di := some 6) (L := [(some 59, 20)]) (f := Jo.Fact.eq (.bool true)) rfl rfl rfl rfl (fun vs wj hJ hd K hK => ?_) ?_
    · have d20 : (Jo.Fact.eq (.bool true)).P (vs 20) wj := hd 20 (by decide)
      clear hd
      simp only [Jo.putl, List.foldl_cons, List.foldl_nil, Act.put, List.setIfInBounds_toArray, List.set_cons_zero, List.set_cons_succ] at hK ⊢
      generalize vs 20 = u20 at hK d20 ⊢
      replace d20 : u20 = _ := d20
      subst d20
      go_simp
      exact hK.out _ _ rfl (Below.refl _ _)
    exact Jo.Steps.nil
  have d0 : (Jo.Fact.eq (.agg #[.int .i64 D1, .bool s1, .int .u64 M1, .int .i64 E1])).P (vs 0) wB := hd 0 (by decide)
  have d1 : (Jo.Fact.eq (.agg #[.int .i64 D1, .bool s1, .int .u64 M1, .int .i64 E1])).P (vs 1) wB := hd 1 (by decide)
  have d2 : (Jo.Fact.eq (.bool true)).P (vs 2) wB := hd 2 (by decide)
  have d3 : (Jo.Fact.eq (.bool true)).P (vs 3) wB := hd 3 (by decide)
  have d4 : (Jo.Fact.eq undef).P (vs 4) wB := hd 4 (by decide)
  have d5 : (Jo.Fact.eq undef).P (vs 5) wB := hd 5 (by decide)
  have d6 : (Jo.Fact.eq undef).P (vs 6) wB := hd 6 (by decide)
  have d7 : (Jo.Fact.eq undef).P (vs 7) wB := hd 7 (by decide)
  have d8 : (Jo.Fact.eq undef).P (vs 8) wB := hd 8 (by decide)
  have d9 : (Jo.Fact.eq undef).P (vs 9) wB := hd 9 (by decide)
  have d10 : (Jo.Fact.eq undef).P (vs 10) wB := hd 10 (by decide)
  have d11 : (Jo.Fact.eq undef).P (vs 11) wB := hd 11 (by decide)
  have d12 : (Jo.Fact.eq undef).P (vs 12) wB := hd 12 (by decide)
  have d13 : (Jo.Fact.eq undef).P (vs 13) wB := hd 13 (by decide)
  have d14 : (Jo.Fact.eq undef).P (vs 14) wB := hd 14 (by decide)
  have d15 : (Jo.Fact.eq undef).P (vs 15) wB := hd 15 (by decide)
  have d16 : (Jo.Fact.eq undef).P (vs 16) wB := hd 16 (by decide)
  have d17 : (Jo.Fact.eq undef).P (vs 17) wB := hd 17 (by decide)
  have d18 : (Jo.Fact.eq undef).P (vs 18) wB := hd 18 (by decide)
  have d19 : (Jo.Fact.eq undef).P (vs 19) wB := hd 19 (by decide)
  have d20 : (Jo.Fact.eq (.bool true)).P (vs 20) wB := hd 20 (by decide)
  have d21 : (Jo.Fact.eq (.bool true)).P (vs 21) wB := hd 21 (by decide)
  clear hd
  simp only [Jo.putl, List.foldl_cons, List.foldl_nil, Act.put, List.setIfInBounds_toArray, List.set_cons_zero, List.set_cons_succ]
  generalize vs 0 = u0 at d0 ⊢
  generalize vs 1 = u1 at d1 ⊢
  generalize vs 2 = u2 at d2 ⊢
  generalize vs 3 = u3 at d3 ⊢
  generalize vs 4 = u4 at d4 ⊢
  generalize vs 5 = u5 at d5 ⊢
  generalize vs 6 = u6 at d6 ⊢
  generalize vs 7 = u7 at d7 ⊢
  generalize vs 8 = u8 at d8 ⊢
  generalize vs 9 = u9 at d9 ⊢
  generalize vs 10 = u10 at d10 ⊢
  generalize vs 11 = u11 at d11 ⊢
  generalize vs 12 = u12 at d12 ⊢
  generalize vs 13 = u13 at d13 ⊢
  generalize vs 14 = u14 at d14 ⊢
  generalize vs 15 = u15 at d15 ⊢
  generalize vs 16 = u16 at d16 ⊢
  generalize vs 17 = u17 at d17 ⊢
  generalize vs 18 = u18 at d18 ⊢
  generalize vs 19 = u19 at d19 ⊢
  generalize vs 20 = u20 at d20 ⊢
  generalize vs 21 = u21 at d21 ⊢
  clear vs
  replace d0 : u0 = _ := d0
  subst d0
  replace d1 : u1 = _ := d1
  subst d1
  replace d2 : u2 = _ := d2
  subst d2
  replace d3 : u3 = _ := d3
  subst d3
  replace d4 : u4 = _ := d4
  subst d4
  replace d5 : u5 = _ := d5
  subst d5
  replace d6 : u6 = _ := d6
  subst d6
  replace d7 : u7 = _ := d7
  subst d7
  replace d8 : u8 = _ := d8
  subst d8
  replace d9 : u9 = _ := d9
  subst d9
  replace d10 : u10 = _ := d10
  subst d10
  replace d11 : u11 = _ := d11
  subst d11
  replace d12 : u12 = _ := d12
  subst d12
  replace d13 : u13 = _ := d13
  subst d13
  replace d14 : u14 = _ := d14
  subst d14
  replace d15 : u15 = _ := d15
  subst d15
  replace d16 : u16 = _ := d16
  subst d16
  replace d17 : u17 = _ := d17
  subst d17
  replace d18 : u18 = _ := d18
  subst d18
  replace d19 : u19 = _ := d19
  subst d19
  replace d20 : u20 = _ := d20
  subst d20
  replace d21 : u21 = _ := d21
  subst d21
  replace X3 := X3.below hJ
  replace X4 := X4.below hJ
  replace X5 := X5.below hJ
  replace X7 := X7.below hJ
  replace X9 := X9.below hJ
  replace hT := hT.below hJ
  replace h0 := h0.below hJ
  replace pa := pa.below hJ
  replace pb := pb.below hJ
  replace HB := Lib.hid (bt HB.out hJ)
  refine Jo.jdone (by kernel_rfl) ?_
  go_wp2
  go_ret
  exact ⟨rfl, HB.out⟩
set_option maxHeartbeats 8000000 in
theorem holds_next {w : World} {A : Option Addr} {n c : Nat} {sd : Bool} {z e x y D1 M1 E1 D2 M2 E2 : Int} {s1 s2 : Bool} (hT : Tab w) (h0 : Wr w sd A n c z) (hn : n ≤ 100000) (q1 : Fq D1 s1 M1 E1 x) (q2 : Fq D2 s2 M2 E2 y)
    (x1 : -19342822337206103650074625 < x) (x2 : x < 19342822337206103650074625) (y1 : -19342822337206103650074625 < y) (y2 : y < 19342822337206103650074625) (hxy : y = x + 1) (hv : vr x < vl (mk z e)) (hw : vl (mk z e) < vr y) :
    Calls Tryd.prog 30 #[.agg #[.bool sd, .slice A n c, .int .i64 e], .agg #[.int .i64 D1, .bool s1, .int .u64 M1, .int .i64 E1], .agg #[.int .i64 D2, .bool s2, .int .u64 M2, .int .i64 E2]] w (PB w true) := by
  have hnx : nx true x = y := by
    have := TP_eq
    unfold nx
    rw [if_pos rfl]
    omega
  have HNX := Lib.hid hnx
  have HXY := Lib.hid (show x ≠ y by omega)
  clear hnx
  obtain ⟨g1, k1⟩ := exq_vl q1 x1 x2
  have HG1 := Lib.hid g1
  have w1M : 0 ≤ M1 := by rcases q1.cases with ⟨_, _, h, _⟩ | ⟨_, h, _⟩ | ⟨_, h, _⟩ <;> omega
  have HM1 : Hid (cmpI (vl (mk (exq D1 s1 M1 E1).1 (exq D1 s1 M1 E1).2)) (vl (mk z e)) = (-1)) := Lib.hid (by rw [mk_exq6, k1]; exact cmpI_lt hv)
  have HR1 : Hid (cmpI (vl (mk z e)) (vl (mk (exq D1 s1 M1 E1).1 (exq D1 s1 M1 E1).2)) = 1) := Lib.hid (by rw [mk_exq6, k1]; exact cmpI_gt hv)
  obtain ⟨N1, hN1⟩ : ∃ N, (exq D1 s1 M1 E1).1 = N := ⟨_, rfl⟩
  obtain ⟨F1, hF1⟩ : ∃ N, (exq D1 s1 M1 E1).2 = N := ⟨_, rfl⟩
  rw [hN1, hF1] at HM1 HR1
  have HN1 := Lib.hid hN1
  have HF1 := Lib.hid hF1
  clear hN1 hF1 g1 k1
  obtain ⟨g2, k2⟩ := exq_vl q2 y1 y2
  have HG2 := Lib.hid g2
  have w2M : 0 ≤ M2 := by rcases q2.cases with ⟨_, _, h, _⟩ | ⟨_, h, _⟩ | ⟨_, h, _⟩ <;> omega
  have HM2 : Hid (cmpI (vl (mk (exq D2 s2 M2 E2).1 (exq D2 s2 M2 E2).2)) (vl (mk z e)) = 1) := Lib.hid (by rw [mk_exq6, k2]; exact cmpI_gt hw)
  have HR2 : Hid (cmpI (vl (mk z e)) (vl (mk (exq D2 s2 M2 E2).1 (exq D2 s2 M2 E2).2)) = (-1)) := Lib.hid (by rw [mk_exq6, k2]; exact cmpI_lt hw)
  obtain ⟨N2, hN2⟩ : ∃ N, (exq D2 s2 M2 E2).1 = N := ⟨_, rfl⟩
  obtain ⟨F2, hF2⟩ : ∃ N, (exq D2 s2 M2 E2).2 = N := ⟨_, rfl⟩
  rw [hN2, hF2] at HM2 HR2
  have HN2 := Lib.hid hN2
  have HF2 := Lib.hid hF2
  clear hN2 hF2 g2 k2
  clear hv hw hxy
  go_enter Tryd.func30, Tryd.ntmps30
  go_upto_region 1 with (fail)
  have X3 := (Bo.newAt w (g := w.heap.size) (by simp) #[.bool sd, .slice A n c, .int .i64 e] 39).below (bel2 _ (.cells #[.int .i64 D1, .bool s1, .int .u64 M1, .int .i64 E1] 24) (.cells #[.int .i64 D2, .bool s2, .int .u64 M2, .int .i64 E2] 24))
  have X4 := (Bo.newAt (w.alloc (.cells #[.bool sd, .slice A n c, .int .i64 e] 39)) (g := w.heap.size + 1) (by simp) #[.int .i64 D1, .bool s1, .int .u64 M1, .int .i64 E1] 24).below (bel1 _ (.cells #[.int .i64 D2, .bool s2, .int .u64 M2, .int .i64 E2] 24))
  have X5 := (Bo.newAt ((w.alloc (.cells #[.bool sd, .slice A n c, .int .i64 e] 39)).alloc (.cells #[.int .i64 D1, .bool s1, .int .u64 M1, .int .i64 E1] 24)) (g := w.heap.size + 1 + 1) (by simp) #[.int .i64 D2, .bool s2, .int .u64 M2, .int .i64 E2] 24)
  have HB := Lib.hid (bel3 w (.cells #[.bool sd, .slice A n c, .int .i64 e] 39) (.cells #[.int .i64 D1, .bool s1, .int .u64 M1, .int .i64 E1] 24) (.cells #[.int .i64 D2, .bool s2, .int .u64 M2, .int .i64 E2] 24))
  replace hT := hT.below HB.out
  replace h0 := h0.below HB.out
  generalize hW1 : (((w.alloc (.cells #[.bool sd, .slice A n c, .int .i64 e] 39)).alloc (.cells #[.int .i64 D1, .bool s1, .int .u64 M1, .int .i64 E1] 24)).alloc (.cells #[.int .i64 D2, .bool s2, .int .u64 M2, .int .i64 E2] 24)) = w1 at *
  clear hW1
  have xX40 := X4.at (i := 0) (v := .int .i64 D1) rfl
  have xX41 := X4.at (i := 1) (v := .bool s1) rfl
  have xX42 := X4.at (i := 2) (v := .int .u64 M1) rfl
  have xX43 := X4.at (i := 3) (v := .int .i64 E1) rfl
  go_wp2_with fail
  refine (nExact hT w1M q1.top HG1.out HN1.out HF1.out).mono ?_
  rintro ee w5 ⟨sa, Aa, na, ca, rfl, pa, ka, B⟩
  clear xX40 xX41 xX42 xX43
  replace X3 := X3.below B
  replace X4 := X4.below B
  replace X5 := X5.below B
  replace hT := hT.below B
  replace h0 := h0.below B
  replace HB := Lib.hid (bt HB.out B)
  clear B
  go_upto_region 2 with (fail)
  have lX7 := Nat.le_refl (World.heap w5).size
  have nX7X3 := X3.lt
  have nX7X4 := X4.lt
  have nX7X5 := X5.lt
  replace X3 := X3.below (bel1 _ (.cells #[.bool sa, .slice Aa na ca, .int .i64 F1] 39))
  replace X4 := X4.below (bel1 _ (.cells #[.bool sa, .slice Aa na ca, .int .i64 F1] 39))
  replace X5 := X5.below (bel1 _ (.cells #[.bool sa, .slice Aa na ca, .int .i64 F1] 39))
  replace hT := hT.below (bel1 _ (.cells #[.bool sa, .slice Aa na ca, .int .i64 F1] 39))
  replace h0 := h0.below (bel1 _ (.cells #[.bool sa, .slice Aa na ca, .int .i64 F1] 39))
  replace pa := pa.below (bel1 _ (.cells #[.bool sa, .slice Aa na ca, .int .i64 F1] 39))
  replace HB := Lib.hid (bt HB.out (bel1 _ (.cells #[.bool sa, .slice Aa na ca, .int .i64 F1] 39)))
  have X7 := Bo.new w5 #[.bool sa, .slice Aa na ca, .int .i64 F1] 39
  generalize hWn : World.alloc w5 (.cells #[.bool sa, .slice Aa na ca, .int .i64 F1] 39) = w6 at *
  clear hWn
  clear lX7
  have xX50 := X5.at (i := 0) (v := .int .i64 D2) rfl
  have xX51 := X5.at (i := 1) (v := .bool s2) rfl
  have xX52 := X5.at (i := 2) (v := .int .u64 M2) rfl
  have xX53 := X5.at (i := 3) (v := .int .i64 E2) rfl
  go_wp2_with fail
  refine (nExact hT w2M q2.top HG2.out HN2.out HF2.out).mono ?_
  rintro ee w7 ⟨sb, Ab, nb, cb, rfl, pb, kb, B⟩
  clear xX50 xX51 xX52 xX53
  replace X3 := X3.below B
  replace X4 := X4.below B
  replace X5 := X5.below B
  replace X7 := X7.below B
  replace hT := hT.below B
  replace h0 := h0.below B
  replace pa := pa.below B
  replace HB := Lib.hid (bt HB.out B)
  clear B
  go_upto_region 3 with (fail)
  have lX9 := Nat.le_refl (World.heap w7).size
  have nX9X3 := X3.lt
  have nX9X4 := X4.lt
  have nX9X5 := X5.lt
  have nX9X7 := X7.lt
  replace X3 := X3.below (bel1 _ (.cells #[.bool sb, .slice Ab nb cb, .int .i64 F2] 39))
  replace X4 := X4.below (bel1 _ (.cells #[.bool sb, .slice Ab nb cb, .int .i64 F2] 39))
  replace X5 := X5.below (bel1 _ (.cells #[.bool sb, .slice Ab nb cb, .int .i64 F2] 39))
  replace X7 := X7.below (bel1 _ (.cells #[.bool sb, .slice Ab nb cb, .int .i64 F2] 39))
  replace hT := hT.below (bel1 _ (.cells #[.bool sb, .slice Ab nb cb, .int .i64 F2] 39))
  replace h0 := h0.below (bel1 _ (.cells #[.bool sb, .slice Ab nb cb, .int .i64 F2] 39))
  replace pa := pa.below (bel1 _ (.cells #[.bool sb, .slice Ab nb cb, .int .i64 F2] 39))
  replace pb := pb.below (bel1 _ (.cells #[.bool sb, .slice Ab nb cb, .int .i64 F2] 39))
  replace HB := Lib.hid (bt HB.out (bel1 _ (.cells #[.bool sb, .slice Ab nb cb, .int .i64 F2] 39)))
  have X9 := Bo.new w7 #[.bool sb, .slice Ab nb cb, .int .i64 F2] 39
  generalize hWn : World.alloc w7 (.cells #[.bool sb, .slice Ab nb cb, .int .i64 F2] 39) = w8 at *
  clear hWn
  clear lX9
  have xX70 := X7.at (i := 0) (v := .bool sa) rfl
  have xX71 := X7.at (i := 1) (v := .slice Aa na ca) rfl
  have xX72 := X7.at (i := 2) (v := .int .i64 F1) rfl
  have xX30 := X3.at (i := 0) (v := .bool sd) rfl
  have xX31 := X3.at (i := 1) (v := .slice A n c) rfl
  have xX32 := X3.at (i := 2) (v := .int .i64 e) rfl
  go_wp2_with fail
  refine (dCmp hT pa.wr h0 (by omega) (by omega) HM1.out).mono ?_
  rintro ee w9 ⟨rfl, B⟩
  clear xX70 xX71 xX72 xX30 xX31 xX32
  replace X3 := X3.below B
  replace X4 := X4.below B
  replace X5 := X5.below B
  replace X7 := X7.below B
  replace X9 := X9.below B
  replace hT := hT.below B
  replace h0 := h0.below B
  replace pa := pa.below B
  replace pb := pb.below B
  replace HB := Lib.hid (bt HB.out B)
  clear B
  have xX90 := X9.at (i := 0) (v := .bool sb) rfl
  have xX91 := X9.at (i := 1) (v := .slice Ab nb cb) rfl
  have xX92 := X9.at (i := 2) (v := .int .i64 F2) rfl
  have xX30 := X3.at (i := 0) (v := .bool sd) rfl
  have xX31 := X3.at (i := 1) (v := .slice A n c) rfl
  have xX32 := X3.at (i := 2) (v := .int .i64 e) rfl
  go_wp2_with fail
  refine (dCmp hT pb.wr h0 (by omega) (by omega) HM2.out).mono ?_
  rintro ee wA ⟨rfl, B⟩
  clear xX90 xX91 xX92 xX30 xX31 xX32
  replace X3 := X3.below B
  replace X4 := X4.below B
  replace X5 := X5.below B
  replace X7 := X7.below B
  replace X9 := X9.below B
  replace hT := hT.below B
  replace h0 := h0.below B
  replace pa := pa.below B
  replace pb := pb.below B
  replace HB := Lib.hid (bt HB.out B)
  clear B
  go_upto_region 5 with (fail)
  refine Jo.region_joint (T := [0, 1, 2, 3, 4, 5, 6, 7, 8, 9, 10, 11, 12, 13, 14, 15, 16, 17, 18, 19, 20, 21]) (ds := [some 39, some 40, some 41, some 42, some 43, some 44, some 45, some 46, some 47, some 48, some 49, some 50, some 51, some 52, some 53, some 54, some 55, some 56, some 57, some 58, some 59, some 6]) (ls := [[], [], [0, 1], [2], [3], [3, 4], [3], [3, 5, 6], [3, 7], [8], [8], [8, 9, 10], [8, 11], [3, 8, 12], [3, 13], [14], [14], [14, 15, 16], [14, 17], [3, 14, 18], [3, 19], [20]]) (k := 22) (L := [(some 39, 0), (some 40, 1), (some 41, 2), (some 42, 3), (some 43, 4), (some 44, 5), (some 45, 6), (some 46, 7), (some 47, 8), (some 48, 9), (some 49, 10), (some 50, 11), (some 51, 12), (some 52, 13), (some 53, 14), (some 54, 15), (some 55, 16), (some 56, 17), (some 57, 18), (some 58, 19), (some 59, 20), (some 6, 21)]) (fuel := 0) (J := fun wj => Below (World.heap wA).size wA wj)
    (F := [Jo.Fact.eq (.agg #[.int .i64 D1, .bool s1, .int .u64 M1, .int .i64 E1]), Jo.Fact.eq (.agg #[.int .i64 D2, .bool s2, .int .u64 M2, .int .i64 E2]), Jo.Fact.eq (.bool false), Jo.Fact.eq (.bool false), Jo.Fact.eq (.agg #[.int .i64 D1, .bool s1, .int .u64 M1, .int .i64 E1]), Jo.Fact.num y, Jo.Fact.eq (.agg #[.int .i64 D2, .bool s2, .int .u64 M2, .int .i64 E2]), Jo.Fact.eq (.bool true), Jo.Fact.eq (.bool true), Jo.Fact.eq (.agg #[.bool sa, .slice Aa na ca, .int .i64 F1]), Jo.Fact.eq (.agg #[.bool sd, .slice A n c, .int .i64 e]), Jo.Fact.eq (.int .i64 (-1)), Jo.Fact.eq (.bool true), Jo.Fact.eq (.bool true), Jo.Fact.eq (.bool true), Jo.Fact.eq (.agg #[.bool sd, .slice A n c, .int .i64 e]), Jo.Fact.eq (.agg #[.bool sb, .slice Ab nb cb, .int .i64 F2]), Jo.Fact.eq (.int .i64 (-1)), Jo.Fact.eq (.bool true), Jo.Fact.eq (.bool true), Jo.Fact.eq (.bool true), Jo.Fact.eq (.bool true)])
    (by kernel_rfl) (by kernel_rfl) (by decide) rfl rfl (fun _ _ h b => bt h b) ((Below.refl _ _).drew) ?_ (fun vs wB hJ hd => ?_)
  · refine Jo.jcons (i := 0) (o := ⟨some 39, _, _, _, _, _⟩) (di := some 39) (L := []) (f := Jo.Fact.eq (.agg #[.int .i64 D1, .bool s1, .int .u64 M1, .int .i64 E1])) rfl rfl rfl rfl (fun vs wj hJ hd K hK => ?_) ?_
    · clear hd
      simp only [Jo.putl, List.foldl_nil, Act.put, List.setIfInBounds_toArray, List.set_cons_zero, List.set_cons_succ] at hK ⊢
      have xX40 : World.cell? wj ⟨w.heap.size + 1, 0, none⟩ = some (.int .i64 D1) := (X4.below hJ).cell 0
      have xX41 : World.cell? wj ⟨w.heap.size + 1, 1, none⟩ = some (.bool s1) := (X4.below hJ).cell 1
      have xX42 : World.cell? wj ⟨w.heap.size + 1, 2, none⟩ = some (.int .u64 M1) := (X4.below hJ).cell 2
      have xX43 : World.cell? wj ⟨w.heap.size + 1, 3, none⟩ = some (.int .i64 E1) := (X4.below hJ).cell 3
      go_simp
      exact hK.out _ _ rfl (Below.refl _ _)
    refine Jo.jcons (i := 1) (o := ⟨some 40, _, _, _, _, _⟩) (di := some 40) (L := []) (f := Jo.Fact.eq (.agg #[.int .i64 D2, .bool s2, .int .u64 M2, .int .i64 E2])) rfl rfl rfl rfl (fun vs wj hJ hd K hK => ?_) ?_
    · clear hd
      simp only [Jo.putl, List.foldl_nil, Act.put, List.setIfInBounds_toArray, List.set_cons_zero, List.set_cons_succ] at hK ⊢
      have xX50 : World.cell? wj ⟨w.heap.size + 1 + 1, 0, none⟩ = some (.int .i64 D2) := (X5.below hJ).cell 0
      have xX51 : World.cell? wj ⟨w.heap.size + 1 + 1, 1, none⟩ = some (.bool s2) := (X5.below hJ).cell 1
      have xX52 : World.cell? wj ⟨w.heap.size + 1 + 1, 2, none⟩ = some (.int .u64 M2) := (X5.below hJ).cell 2
      have xX53 : World.cell? wj ⟨w.heap.size + 1 + 1, 3, none⟩ = some (.int .i64 E2) := (X5.below hJ).cell 3
      go_simp
      exact hK.out _ _ rfl (Below.refl _ _)
    refine Jo.jcons (i := 2) (o := ⟨some 41, _, _, _, _, _⟩) (di := some 41) (L := [(some 39, 0), (some 40, 1)]) (f := Jo.Fact.eq (.bool false)) rfl rfl rfl rfl (fun vs wj hJ hd K hK => ?_) ?_
    · have d0 : (Jo.Fact.eq (.agg #[.int .i64 D1, .bool s1, .int .u64 M1, .int .i64 E1])).P (vs 0) wj := hd 0 (by decide)
      have d1 : (Jo.Fact.eq (.agg #[.int .i64 D2, .bool s2, .int .u64 M2, .int .i64 E2])).P (vs 1) wj := hd 1 (by decide)
      clear hd
      simp only [Jo.putl, List.foldl_cons, List.foldl_nil, Act.put, List.setIfInBounds_toArray, List.set_cons_zero, List.set_cons_succ] at hK ⊢
      generalize vs 0 = u0 at hK d0 ⊢
      generalize vs 1 = u1 at hK d1 ⊢
      replace d0 : u0 = _ := d0
      subst d0
      replace d1 : u1 = _ := d1
      subst d1
      have hnn := fq_ne6 q1 q2 HXY.out
      go_simp
      (repeat' split) <;> first | exact hK.out _ _ rfl (Below.refl _ _) | (exfalso; exact hnn (by assumption) (by assumption) (by assumption) (by assumption))
    refine Jo.jcons (i := 3) (o := ⟨some 42, _, _, _, _, _⟩) (di := some 42) (L := [(some 41, 2)]) (f := Jo.Fact.eq (.bool false)) rfl rfl rfl rfl (fun vs wj hJ hd K hK => ?_) ?_
    · have d2 : (Jo.Fact.eq (.bool false)).P (vs 2) wj := hd 2 (by decide)
      clear hd
      simp only [Jo.putl, List.foldl_cons, List.foldl_nil, Act.put, List.setIfInBounds_toArray, List.set_cons_zero, List.set_cons_succ] at hK ⊢
      generalize vs 2 = u2 at hK d2 ⊢
      replace d2 : u2 = _ := d2
      subst d2
      go_simp
      exact hK.out _ _ rfl (Below.refl _ _)
    refine Jo.jcons (i := 4) (o := ⟨some 43, _, _, _, _, _⟩) (di := some 43) (L := [(some 42, 3)]) (f := Jo.Fact.eq (.agg #[.int .i64 D1, .bool s1, .int .u64 M1, .int .i64 E1])) rfl rfl rfl rfl (fun vs wj hJ hd K hK => ?_) ?_
    · have d3 : (Jo.Fact.eq (.bool false)).P (vs 3) wj := hd 3 (by decide)
      clear hd
      simp only [Jo.putl, List.foldl_cons, List.foldl_nil, Act.put, List.setIfInBounds_toArray, List.set_cons_zero, List.set_cons_succ] at hK ⊢
      generalize vs 3 = u3 at hK d3 ⊢
      replace d3 : u3 = _ := d3
      subst d3
      have xX40 : World.cell? wj ⟨w.heap.size + 1, 0, none⟩ = some (.int .i64 D1) := (X4.below hJ).cell 0
      have xX41 : World.cell? wj ⟨w.heap.size + 1, 1, none⟩ = some (.bool s1) := (X4.below hJ).cell 1
      have xX42 : World.cell? wj ⟨w.heap.size + 1, 2, none⟩ = some (.int .u64 M1) := (X4.below hJ).cell 2
      have xX43 : World.cell? wj ⟨w.heap.size + 1, 3, none⟩ = some (.int .i64 E1) := (X4.below hJ).cell 3
      go_simp
      exact hK.out _ _ rfl (Below.refl _ _)
    refine Jo.jcons (i := 5) (o := ⟨some 44, _, _, _, _, _⟩) (di := some 44) (L := [(some 42, 3), (some 43, 4)]) (f := Jo.Fact.num y) rfl rfl rfl rfl (fun vs wj hJ hd K hK => ?_) ?_
    · have d3 : (Jo.Fact.eq (.bool false)).P (vs 3) wj := hd 3 (by decide)
      have d4 : (Jo.Fact.eq (.agg #[.int .i64 D1, .bool s1, .int .u64 M1, .int .i64 E1])).P (vs 4) wj := hd 4 (by decide)
      clear hd
      simp only [Jo.putl, List.foldl_cons, List.foldl_nil, Act.put, List.setIfInBounds_toArray, List.set_cons_zero, List.set_cons_succ] at hK ⊢
      generalize vs 3 = u3 at hK d3 ⊢
      generalize vs 4 = u4 at hK d4 ⊢
      replace d3 : u3 = _ := d3
      subst d3
      replace d4 : u4 = _ := d4
      subst d4
      go_simp
      refine (nNext (up := true) (r := y) q1.top (by rw [q1.rk]; exact HNX.out)).mono ?_
      rintro ee wk ⟨K3, s3, M3, E3, rfl, q3, B⟩
      exact hK.out _ _ ⟨K3, s3, M3, E3, rfl, q3⟩ B
    refine Jo.jcons (i := 6) (o := ⟨some 45, _, _, _, _, _⟩) (di := some 45) (L := [(some 42, 3)]) (f := Jo.Fact.eq (.agg #[.int .i64 D2, .bool s2, .int .u64 M2, .int .i64 E2])) rfl rfl rfl rfl (fun vs wj hJ hd K hK => ?_) ?_
    · have d3 : (Jo.Fact.eq (.bool false)).P (vs 3) wj := hd 3 (by decide)
      clear hd
      simp only [Jo.putl, List.foldl_cons, List.foldl_nil, Act.put, List.setIfInBounds_toArray, List.set_cons_zero, List.set_cons_succ] at hK ⊢
      generalize vs 3 = u3 at hK d3 ⊢
      replace d3 : u3 = _ := d3
      subst d3
      have xX50 : World.cell? wj ⟨w.heap.size + 1 + 1, 0, none⟩ = some (.int .i64 D2) := (X5.below hJ).cell 0
      have xX51 : World.cell? wj ⟨w.heap.size + 1 + 1, 1, none⟩ = some (.bool s2) := (X5.below hJ).cell 1
      have xX52 : World.cell? wj ⟨w.heap.size + 1 + 1, 2, none⟩ = some (.int .u64 M2) := (X5.below hJ).cell 2
      have xX53 : World.cell? wj ⟨w.heap.size + 1 + 1, 3, none⟩ = some (.int .i64 E2) := (X5.below hJ).cell 3
      go_simp
      exact hK.out _ _ rfl (Below.refl _ _)
    refine Jo.jcons (i := 7) (o := ⟨some 46, _, _, _, _, _⟩) (di := some 46) (L := [(some 42, 3), (some 44, 5), (some 45, 6)]) (f := Jo.Fact.eq (.bool true)) rfl rfl rfl rfl (fun vs wj hJ hd K hK => ?_) ?_
    · have d3 : (Jo.Fact.eq (.bool false)).P (vs 3) wj := hd 3 (by decide)
      have d5 : (Jo.Fact.num y).P (vs 5) wj := hd 5 (by decide)
      have d6 : (Jo.Fact.eq (.agg #[.int .i64 D2, .bool s2, .int .u64 M2, .int .i64 E2])).P (vs 6) wj := hd 6 (by decide)
      clear hd
      simp only [Jo.putl, List.foldl_cons, List.foldl_nil, Act.put, List.setIfInBounds_toArray, List.set_cons_zero, List.set_cons_succ] at hK ⊢
      generalize vs 3 = u3 at hK d3 ⊢
      generalize vs 5 = u5 at hK d5 ⊢
      generalize vs 6 = u6 at hK d6 ⊢
      replace d3 : u3 = _ := d3
      subst d3
      obtain ⟨K3, s3, M3, E3, rfl, q3⟩ := d5
      replace d6 : u6 = _ := d6
      subst d6
      obtain ⟨rfl, rfl, rfl, rfl⟩ := q3.uniq q2
      go_simp
      exact hK.out _ _ (by first | rfl | (show Value.bool _ = Value.bool _; simp)) (Below.refl _ _)
    refine Jo.jcons (i := 8) (o := ⟨some 47, _, _, _, _, _⟩) (di := some 47) (L := [(some 42, 3), (some 46, 7)]) (f := Jo.Fact.eq (.bool true)) rfl rfl rfl rfl (fun vs wj hJ hd K hK => ?_) ?_
    · have d3 : (Jo.Fact.eq (.bool false)).P (vs 3) wj := hd 3 (by decide)
      have d7 : (Jo.Fact.eq (.bool true)).P (vs 7) wj := hd 7 (by decide)
      clear hd
      simp only [Jo.putl, List.foldl_cons, List.foldl_nil, Act.put, List.setIfInBounds_toArray, List.set_cons_zero, List.set_cons_succ] at hK ⊢
      generalize vs 3 = u3 at hK d3 ⊢
      generalize vs 7 = u7 at hK d7 ⊢
      replace d3 : u3 = _ := d3
      subst d3
      replace d7 : u7 = _ := d7
      subst d7
      go_simp
      exact hK.out _ _ rfl (Below.refl _ _)
    refine Jo.jcons (i := 9) (o := ⟨some 48, _, _, _, _, _⟩) (di := some 48) (L := [(some 47, 8)]) (f := Jo.Fact.eq (.agg #[.bool sa, .slice Aa na ca, .int .i64 F1])) rfl rfl rfl rfl (fun vs wj hJ hd K hK => ?_) ?_
    · have d8 : (Jo.Fact.eq (.bool true)).P (vs 8) wj := hd 8 (by decide)
      clear hd
      simp only [Jo.putl, List.foldl_cons, List.foldl_nil, Act.put, List.setIfInBounds_toArray, List.set_cons_zero, List.set_cons_succ] at hK ⊢
      generalize vs 8 = u8 at hK d8 ⊢
      replace d8 : u8 = _ := d8
      subst d8
      have xX70 : World.cell? wj ⟨w5.heap.size, 0, none⟩ = some (.bool sa) := (X7.below hJ).cell 0
      have xX71 : World.cell? wj ⟨w5.heap.size, 1, none⟩ = some (.slice Aa na ca) := (X7.below hJ).cell 1
      have xX72 : World.cell? wj ⟨w5.heap.size, 2, none⟩ = some (.int .i64 F1) := (X7.below hJ).cell 2
      go_simp
      exact hK.out _ _ rfl (Below.refl _ _)
    refine Jo.jcons (i := 10) (o := ⟨some 49, _, _, _, _, _⟩) (di := some 49) (L := [(some 47, 8)]) (f := Jo.Fact.eq (.agg #[.bool sd, .slice A n c, .int .i64 e])) rfl rfl rfl rfl (fun vs wj hJ hd K hK => ?_) ?_
    · have d8 : (Jo.Fact.eq (.bool true)).P (vs 8) wj := hd 8 (by decide)
      clear hd
      simp only [Jo.putl, List.foldl_cons, List.foldl_nil, Act.put, List.setIfInBounds_toArray, List.set_cons_zero, List.set_cons_succ] at hK ⊢
      generalize vs 8 = u8 at hK d8 ⊢
      replace d8 : u8 = _ := d8
      subst d8
      have xX30 : World.cell? wj ⟨w.heap.size, 0, none⟩ = some (.bool sd) := (X3.below hJ).cell 0
      have xX31 : World.cell? wj ⟨w.heap.size, 1, none⟩ = some (.slice A n c) := (X3.below hJ).cell 1
      have xX32 : World.cell? wj ⟨w.heap.size, 2, none⟩ = some (.int .i64 e) := (X3.below hJ).cell 2
      go_simp
      exact hK.out _ _ rfl (Below.refl _ _)
    refine Jo.jcons (i := 11) (o := ⟨some 50, _, _, _, _, _⟩) (di := some 50) (L := [(some 47, 8), (some 48, 9), (some 49, 10)]) (f := Jo.Fact.eq (.int .i64 (-1))) rfl rfl rfl rfl (fun vs wj hJ hd K hK => ?_) ?_
    · have d8 : (Jo.Fact.eq (.bool true)).P (vs 8) wj := hd 8 (by decide)
      have d9 : (Jo.Fact.eq (.agg #[.bool sa, .slice Aa na ca, .int .i64 F1])).P (vs 9) wj := hd 9 (by decide)
      have d10 : (Jo.Fact.eq (.agg #[.bool sd, .slice A n c, .int .i64 e])).P (vs 10) wj := hd 10 (by decide)
      clear hd
      simp only [Jo.putl, List.foldl_cons, List.foldl_nil, Act.put, List.setIfInBounds_toArray, List.set_cons_zero, List.set_cons_succ] at hK ⊢
      generalize vs 8 = u8 at hK d8 ⊢
      generalize vs 9 = u9 at hK d9 ⊢
      generalize vs 10 = u10 at hK d10 ⊢
      replace d8 : u8 = _ := d8
      subst d8
      replace d9 : u9 = _ := d9
      subst d9
      replace d10 : u10 = _ := d10
      subst d10
      go_simp
      refine (dCmp (hT.below hJ) (pa.wr.below hJ) (h0.below hJ) (by omega) (by omega) HM1.out).mono ?_
      rintro ee wk ⟨rfl, B⟩
      exact hK.out _ _ rfl B
    refine Jo.jcons (i := 12) (o := ⟨some 51, _, _, _, _, _⟩) (di := some 51) (L := [(some 47, 8), (some 50, 11)]) (f := Jo.Fact.eq (.bool true)) rfl rfl rfl rfl (fun vs wj hJ hd K hK => ?_) ?_
    · have d8 : (Jo.Fact.eq (.bool true)).P (vs 8) wj := hd 8 (by decide)
      have d11 : (Jo.Fact.eq (.int .i64 (-1))).P (vs 11) wj := hd 11 (by decide)
      clear hd
      simp only [Jo.putl, List.foldl_cons, List.foldl_nil, Act.put, List.setIfInBounds_toArray, List.set_cons_zero, List.set_cons_succ] at hK ⊢
      generalize vs 8 = u8 at hK d8 ⊢
      generalize vs 11 = u11 at hK d11 ⊢
      replace d8 : u8 = _ := d8
      subst d8
      replace d11 : u11 = _ := d11
      subst d11
      go_simp
      exact hK.out _ _ (by first | rfl | simp) (Below.refl _ _)
    refine Jo.jcons (i := 13) (o := ⟨some 52, _, _, _, _, _⟩) (di := some 52) (L := [(some 42, 3), (some 47, 8), (some 51, 12)]) (f := Jo.Fact.eq (.bool true)) rfl rfl rfl rfl (fun vs wj hJ hd K hK => ?_) ?_
    · have d3 : (Jo.Fact.eq (.bool false)).P (vs 3) wj := hd 3 (by decide)
      have d8 : (Jo.Fact.eq (.bool true)).P (vs 8) wj := hd 8 (by decide)
      have d12 : (Jo.Fact.eq (.bool true)).P (vs 12) wj := hd 12 (by decide)
      clear hd
      simp only [Jo.putl, List.foldl_cons, List.foldl_nil, Act.put, List.setIfInBounds_toArray, List.set_cons_zero, List.set_cons_succ] at hK ⊢
      generalize vs 3 = u3 at hK d3 ⊢
      generalize vs 8 = u8 at hK d8 ⊢
      generalize vs 12 = u12 at hK d12 ⊢
      replace d3 : u3 = _ := d3
      subst d3
      replace d8 : u8 = _ := d8
      subst d8
      replace d12 : u12 = _ := d12
      subst d12
      go_simp
      exact hK.out _ _ rfl (Below.refl _ _)
    refine Jo.jcons (i := 14) (o := ⟨some 53, _, _, _, _, _⟩) (di := some 53) (L := [(some 42, 3), (some 52, 13)]) (f := Jo.Fact.eq (.bool true)) rfl rfl rfl rfl (fun vs wj hJ hd K hK => ?_) ?_
    · have d3 : (Jo.Fact.eq (.bool false)).P (vs 3) wj := hd 3 (by decide)
      have d13 : (Jo.Fact.eq (.bool true)).P (vs 13) wj := hd 13 (by decide)
      clear hd
      simp only [Jo.putl, List.foldl_cons, List.foldl_nil, Act.put, List.setIfInBounds_toArray, List.set_cons_zero, List.set_cons_succ] at hK ⊢
      generalize vs 3 = u3 at hK d3 ⊢
      generalize vs 13 = u13 at hK d13 ⊢
      replace d3 : u3 = _ := d3
      subst d3
      replace d13 : u13 = _ := d13
      subst d13
      go_simp
      exact hK.out _ _ rfl (Below.refl _ _)
    refine Jo.jcons (i := 15) (o := ⟨some 54, _, _, _, _, _⟩) (di := some 54) (L := [(some 53, 14)]) (f := Jo.Fact.eq (.agg #[.bool sd, .slice A n c, .int .i64 e])) rfl rfl rfl rfl (fun vs wj hJ hd K hK => ?_) ?_
    · have d14 : (Jo.Fact.eq (.bool true)).P (vs 14) wj := hd 14 (by decide)
      clear hd
      simp only [Jo.putl, List.foldl_cons, List.foldl_nil, Act.put, List.setIfInBounds_toArray, List.set_cons_zero, List.set_cons_succ] at hK ⊢
      generalize vs 14 = u14 at hK d14 ⊢
      replace d14 : u14 = _ := d14
      subst d14
      have xX30 : World.cell? wj ⟨w.heap.size, 0, none⟩ = some (.bool sd) := (X3.below hJ).cell 0
      have xX31 : World.cell? wj ⟨w.heap.size, 1, none⟩ = some (.slice A n c) := (X3.below hJ).cell 1
      have xX32 : World.cell? wj ⟨w.heap.size, 2, none⟩ = some (.int .i64 e) := (X3.below hJ).cell 2
      go_simp
      exact hK.out _ _ rfl (Below.refl _ _)
    refine Jo.jcons (i := 16) (o := ⟨some 55, _, _, _, _, _⟩) (di := some 55) (L := [(some 53, 14)]) (f := Jo.Fact.eq (.agg #[.bool sb, .slice Ab nb cb, .int .i64 F2])) rfl rfl rfl rfl (fun vs wj hJ hd K hK => ?_) ?_
    · have d14 : (Jo.Fact.eq (.bool true)).P (vs 14) wj := hd 14 (by decide)
      clear hd
      simp only [Jo.putl, List.foldl_cons, List.foldl_nil, Act.put, List.setIfInBounds_toArray, List.set_cons_zero, List.set_cons_succ] at hK ⊢
      generalize vs 14 = u14 at hK d14 ⊢
      replace d14 : u14 = _ := d14
      subst d14
      have xX90 : World.cell? wj ⟨w7.heap.size, 0, none⟩ = some (.bool sb) := (X9.below hJ).cell 0
      have xX91 : World.cell? wj ⟨w7.heap.size, 1, none⟩ = some (.slice Ab nb cb) := (X9.below hJ).cell 1
      have xX92 : World.cell? wj ⟨w7.heap.size, 2, none⟩ = some (.int .i64 F2) := (X9.below hJ).cell 2
      go_simp
      exact hK.out _ _ rfl (Below.refl _ _)
    refine Jo.jcons (i := 17) (o := ⟨some 56, _, _, _, _, _⟩) (di := some 56) (L := [(some 53, 14), (some 54, 15), (some 55, 16)]) (f := Jo.Fact.eq (.int .i64 (-1))) rfl rfl rfl rfl (fun vs wj hJ hd K hK => ?_) ?_
    · have d14 : (Jo.Fact.eq (.bool true)).P (vs 14) wj := hd 14 (by decide)
      have d15 : (Jo.Fact.eq (.agg #[.bool sd, .slice A n c, .int .i64 e])).P (vs 15) wj := hd 15 (by decide)
      have d16 : (Jo.Fact.eq (.agg #[.bool sb, .slice Ab nb cb, .int .i64 F2])).P (vs 16) wj := hd 16 (by decide)
      clear hd
      simp only [Jo.putl, List.foldl_cons, List.foldl_nil, Act.put, List.setIfInBounds_toArray, List.set_cons_zero, List.set_cons_succ] at hK ⊢
      generalize vs 14 = u14 at hK d14 ⊢
      generalize vs 15 = u15 at hK d15 ⊢
      generalize vs 16 = u16 at hK d16 ⊢
      replace d14 : u14 = _ := d14
      subst d14
      replace d15 : u15 = _ := d15
      subst d15
      replace d16 : u16 = _ := d16
      subst d16
      go_simp
      refine (dCmp (hT.below hJ) (h0.below hJ) (pb.wr.below hJ) (by omega) (by omega) HR2.out).mono ?_
      rintro ee wk ⟨rfl, B⟩
      exact hK.out _ _ rfl B
    refine Jo.jcons (i := 18) (o := ⟨some 57, _, _, _, _, _⟩) (di := some 57) (L := [(some 53, 14), (some 56, 17)]) (f := Jo.Fact.eq (.bool true)) rfl rfl rfl rfl (fun vs wj hJ hd K hK => ?_) ?_
    · have d14 : (Jo.Fact.eq (.bool true)).P (vs 14) wj := hd 14 (by decide)
      have d17 : (Jo.Fact.eq (.int .i64 (-1))).P (vs 17) wj := hd 17 (by decide)
      clear hd
      simp only [Jo.putl, List.foldl_cons, List.foldl_nil, Act.put, List.setIfInBounds_toArray, List.set_cons_zero, List.set_cons_succ] at hK ⊢
      generalize vs 14 = u14 at hK d14 ⊢
      generalize vs 17 = u17 at hK d17 ⊢
      replace d14 : u14 = _ := d14
      subst d14
      replace d17 : u17 = _ := d17
      subst d17
      go_simp
      exact hK.out _ _ (by first | rfl | simp) (Below.refl _ _)
    refine Jo.jcons (i := 19) (o := ⟨some 58, _, _, _, _, _⟩) (di := some 58) (L := [(some 42, 3), (some 53, 14), (some 57, 18)]) (f := Jo.Fact.eq (.bool true)) rfl rfl rfl rfl (fun vs wj hJ hd K hK => ?_) ?_
    · have d3 : (Jo.Fact.eq (.bool false)).P (vs 3) wj := hd 3 (by decide)
      have d14 : (Jo.Fact.eq (.bool true)).P (vs 14) wj := hd 14 (by decide)
      have d18 : (Jo.Fact.eq (.bool true)).P (vs 18) wj := hd 18 (by decide)
      clear hd
      simp only [Jo.putl, List.foldl_cons, List.foldl_nil, Act.put, List.setIfInBounds_toArray, List.set_cons_zero, List.set_cons_succ] at hK ⊢
      generalize vs 3 = u3 at hK d3 ⊢
      generalize vs 14 = u14 at hK d14 ⊢
      generalize vs 18 = u18 at hK d18 ⊢
      replace d3 : u3 = _ := d3
      subst d3
      replace d14 : u14 = _ := d14
      subst d14
      replace d18 : u18 = _ := d18
      subst d18
      go_simp
      exact hK.out _ _ rfl (Below.refl _ _)
    refine Jo.jcons (i := 20) (o := ⟨some 59, _, _, _, _, _⟩) (di := some 59) (L := [(some 42, 3), (some 58, 19)]) (f := Jo.Fact.eq (.bool true)) rfl rfl rfl rfl (fun vs wj hJ hd K hK => ?_) ?_
    · have d3 : (Jo.Fact.eq (.bool false)).P (vs 3) wj := hd 3 (by decide)
      have d19 : (Jo.Fact.eq (.bool true)).P (vs 19) wj := hd 19 (by decide)
      clear hd
      simp only [Jo.putl, List.foldl_cons, List.foldl_nil, Act.put, List.setIfInBounds_toArray, List.set_cons_zero, List.set_cons_succ] at hK ⊢
      generalize vs 3 = u3 at hK d3 ⊢
      generalize vs 19 = u19 at hK d19 ⊢
      replace d3 : u3 = _ := d3
      subst d3
      replace d19 : u19 = _ := d19
      subst d19
      go_simp
      exact hK.out _ _ rfl (Below.refl _ _)
    refine Jo.jcons (i := 21) (o := ⟨some 6, _, _, _, _, _⟩) (di := some 6) (L := [(some 59, 20)]) (f := Jo.Fact.eq (.bool true)) rfl rfl rfl rfl (fun vs wj hJ hd K hK => ?_) ?_
    · have d20 : (Jo.Fact.eq (.bool true)).P (vs 20) wj := hd 20 (by decide)
      clear hd
      simp only [Jo.putl, List.foldl_cons, List.foldl_nil, Act.put, List.setIfInBounds_toArray, List.set_cons_zero, List.set_cons_succ] at hK ⊢
      generalize vs 20 = u20 at hK d20 ⊢
      replace d20 : u20 = _ := d20
      subst d20
      go_simp
      exact hK.out _ _ rfl (Below.refl _ _)
    exact Jo.Steps.nil
  have d0 : (Jo.Fact.eq (.agg #[.int .i64 D1, .bool s1, .int .u64 M1, .int .i64 E1])).P (vs 0) wB := hd 0 (by decide)
  have d1 : (Jo.Fact.eq (.agg #[.int .i64 D2, .bool s2, .int .u64 M2, .int .i64 E2])).P (vs 1) wB := hd 1 (by decide)
  have d2 : (Jo.Fact.eq (.bool false)).P (vs 2) wB := hd 2 (by decide)
  have d3 : (Jo.Fact.eq (.bool false)).P (vs 3) wB := hd 3 (by decide)
  have d4 : (Jo.Fact.eq (.agg #[.int .i64 D1, .bool s1, .int .u64 M1, .int .i64 E1])).P (vs 4) wB := hd 4 (by decide)
  have d5 : (Jo.Fact.num y).P (vs 5) wB := hd 5 (by decide)
  have d6 : (Jo.Fact.eq (.agg #[.int .i64 D2, .bool s2, .int .u64 M2, .int .i64 E2])).P (vs 6) wB := hd 6 (by decide)
  have d7 : (Jo.Fact.eq (.bool true)).P (vs 7) wB := hd 7 (by decide)
  have d8 : (Jo.Fact.eq (.bool true)).P (vs 8) wB := hd 8 (by decide)
  have d9 : (Jo.Fact.eq (.agg #[.bool sa, .slice Aa na ca, .int .i64 F1])).P (vs 9) wB := hd 9 (by decide)
  have d10 : (Jo.Fact.eq (.agg #[.bool sd, .slice A n c, .int .i64 e])).P (vs 10) wB := hd 10 (by decide)
  have d11 : (Jo.Fact.eq (.int .i64 (-1))).P (vs 11) wB := hd 11 (by decide)
  have d12 : (Jo.Fact.eq (.bool true)).P (vs 12) wB := hd 12 (by decide)
  have d13 : (Jo.Fact.eq (.bool true)).P (vs 13) wB := hd 13 (by decide)
  have d14 : (Jo.Fact.eq (.bool true)).P (vs 14) wB := hd 14 (by decide)
  have d15 : (Jo.Fact.eq (.agg #[.bool sd, .slice A n c, .int .i64 e])).P (vs 15) wB := hd 15 (by decide)
  have d16 : (Jo.Fact.eq (.agg #[.bool sb, .slice Ab nb cb, .int .i64 F2])).P (vs 16) wB := hd 16 (by decide)
  have d17 : (Jo.Fact.eq (.int .i64 (-1))).P (vs 17) wB := hd 17 (by decide)
  have d18 : (Jo.Fact.eq (.bool true)).P (vs 18) wB := hd 18 (by decide)
  have d19 : (Jo.Fact.eq (.bool true)).P (vs 19) wB := hd 19 (by decide)
  have d20 : (Jo.Fact.eq (.bool true)).P (vs 20) wB := hd 20 (by decide)
  have d21 : (Jo.Fact.eq (.bool true)).P (vs 21) wB := hd 21 (by decide)
  clear hd
  simp only [Jo.putl, List.foldl_cons, List.foldl_nil, Act.put, List.setIfInBounds_toArray, List.set_cons_zero, List.set_cons_succ]
  generalize vs 0 = u0 at d0 ⊢
  generalize vs 1 = u1 at d1 ⊢
  generalize vs 2 = u2 at d2 ⊢
  generalize vs 3 = u3 at d3 ⊢
  generalize vs 4 = u4 at d4 ⊢
  generalize vs 5 = u5 at d5 ⊢
  generalize vs 6 = u6 at d6 ⊢
  generalize vs 7 = u7 at d7 ⊢
  generalize vs 8 = u8 at d8 ⊢
  generalize vs 9 = u9 at d9 ⊢
  generalize vs 10 = u10 at d10 ⊢
  generalize vs 11 = u11 at d11 ⊢
  generalize vs 12 = u12 at d12 ⊢
  generalize vs 13 = u13 at d13 ⊢
  generalize vs 14 = u14 at d14 ⊢
  generalize vs 15 = u15 at d15 ⊢
  generalize vs 16 = u16 at d16 ⊢
  generalize vs 17 = u17 at d17 ⊢
  generalize vs 18 = u18 at d18 ⊢
  generalize vs 19 = u19 at d19 ⊢
  generalize vs 20 = u20 at d20 ⊢
  generalize vs 21 = u21 at d21 ⊢
  clear vs
  replace d0 : u0 = _ := d0
  subst d0
  replace d1 : u1 = _ := d1
  subst d1
  replace d2 : u2 = _ := d2
  subst d2
  replace d3 : u3 = _ := d3
  subst d3
  replace d4 : u4 = _ := d4
  subst d4
  obtain ⟨K3, s3, M3, E3, rfl, _⟩ := d5
  replace d6 : u6 = _ := d6
  subst d6
  replace d7 : u7 = _ := d7
  subst d7
  replace d8 : u8 = _ := d8
  subst d8
  replace d9 : u9 = _ := d9
  subst d9
  replace d10 : u10 = _ := d10
  subst d10
  replace d11 : u11 = _ := d11
  subst d11
  replace d12 : u12 = _ := d12
  subst d12
  replace d13 : u13 = _ := d13
  subst d13
  replace d14 : u14 = _ := d14
  subst d14
  replace d15 : u15 = _ := d15
  subst d15
  replace d16 : u16 = _ := d16
  subst d16
  replace d17 : u17 = _ := d17
  subst d17
  replace d18 : u18 = _ := d18
  subst d18
  replace d19 : u19 = _ := d19
  subst d19
  replace d20 : u20 = _ := d20
  subst d20
  replace d21 : u21 = _ := d21
  subst d21
  replace X3 := X3.below hJ
  replace X4 := X4.below hJ
  replace X5 := X5.below hJ
  replace X7 := X7.below hJ
  replace X9 := X9.below hJ
  replace hT := hT.below hJ
  replace h0 := h0.below hJ
  replace pa := pa.below hJ
  replace pb := pb.below hJ
  replace HB := Lib.hid (bt HB.out hJ)
  refine Jo.jdone (by kernel_rfl) ?_
  go_wp2
  go_ret
  exact ⟨rfl, HB.out⟩
theorem aHolds {w : World} {A : Option Addr} {n c : Nat} {sd : Bool} {z e x y D1 M1 E1 D2 M2 E2 : Int} {s1 s2 : Bool} (hT : Tab w) (h0 : Wr w sd A n c z) (hn : n ≤ 100000) (q1 : Fq D1 s1 M1 E1 x) (q2 : Fq D2 s2 M2 E2 y)
    (h : -19342822337206103650074625 < x ∧ x < 19342822337206103650074625 ∧ -19342822337206103650074625 < y ∧ y < 19342822337206103650074625 ∧ ((y = x ∧ vr x = vl (mk z e)) ∨ (y = x + 1 ∧ vr x < vl (mk z e) ∧ vl (mk z e) < vr y))) :
    Calls Tryd.prog 30 #[.agg #[.bool sd, .slice A n c, .int .i64 e], .agg #[.int .i64 D1, .bool s1, .int .u64 M1, .int .i64 E1], .agg #[.int .i64 D2, .bool s2, .int .u64 M2, .int .i64 E2]] w (PB w true) := by
  obtain ⟨x1, x2, y1, y2, ⟨a, b⟩ | ⟨a, b, c⟩⟩ := h
  · exact holds_same hT h0 hn q1 q2 x1 x2 y1 y2 a b
  · exact holds_next hT h0 hn q1 q2 x1 x2 y1 y2 a b c
theorem mulp_rnd {x y : Int} (up : Bool) (hx : infp x = false) (hy : infp y = false) : mulp up x y = rnd up (ml (ep x) (ep y)).1 (ml (ep x) (ep y)).2 := by
  by_cases h : x = 0 ∨ y = 0
  · rw [mulp_zero up h]
    have e : ml (ep x) (ep y) = (0, 0) := by
      unfold ml
      rcases h with h | h
      · rw [h, ep_zero]
        show mk (0 * (ep y).1) _ = _
        rw [Int.zero_mul]
        exact mk_zero _
      · rw [h, ep_zero]
        show mk ((ep x).1 * 0) _ = _
        rw [Int.mul_zero]
        exact mk_zero _
    rw [e]
    exact (rnd_nought up).symm
  · exact mulp_fin up h (by rw [hx, hy]; simp)
end Go.Proofs.YtbhnpmkdmnnclaaDoor

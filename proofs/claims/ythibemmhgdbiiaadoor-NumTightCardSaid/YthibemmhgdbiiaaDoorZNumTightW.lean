/-
  The walk of NumTight: for all arguments, where the table lies as it was laid, the call answers true, and nothing that was there has turned.
-/
import Derived.Test.YthibemmhgdbiiaaDoorZay
import Derived.Test.YthibemmhgdbiiaaDoorZba
namespace Go.Proofs.YthibemmhgdbiiaaDoor
open Go.RowKit
set_option linter.unusedVariables false
set_option linter.unusedSimpArgs false
set_option maxRecDepth 100000

set_option maxHeartbeats 8000000 in
theorem numTight_far (s0 : Bool) (a0 : Option Addr) (len0 cap0 : Nat) (e0 : Int) (w : World) (hT : Tab w) (hf : fewB len0 e0 = false) :
    Calls Tryd.prog 6 #[.agg #[.bool s0, .slice a0 len0 cap0, .int .i64 e0]] w (PB w true) := by
  have HF := Lib.hid hf
  clear hf
  go_enter Tryd.func6, Tryd.ntmps6
  go_upto_region 1 with (fail)
  have X0 := (Bo.newAt w (g := w.heap.size) (by simp) #[.bool s0, .slice a0 len0 cap0, .int .i64 e0] 26)
  have HB := Lib.hid (bel1 w (.cells #[.bool s0, .slice a0 len0 cap0, .int .i64 e0] 26))
  replace hT := hT.below HB.out
  generalize hW1 : (w.alloc (.cells #[.bool s0, .slice a0 len0 cap0, .int .i64 e0] 26)) = w1 at *
  clear hW1
  go_wp2_with fail
  refine (awake5 _ hT).mono ?_
  rintro ee w2 ⟨rfl, B⟩
  replace X0 := X0.below B
  replace hT := hT.below B
  replace HB := Lib.hid (bt HB.out B)
  clear B
  have xX00 := X0.at (i := 0) (v := .bool s0) rfl
  have xX01 := X0.at (i := 1) (v := .slice a0 len0 cap0) rfl
  have xX02 := X0.at (i := 2) (v := .int .i64 e0) rfl
  go_wp2_with fail
  refine (few3E _ HF.out).mono ?_
  rintro ee w3 ⟨rfl, B⟩
  clear xX00 xX01 xX02
  replace X0 := X0.below B
  replace hT := hT.below B
  replace HB := Lib.hid (bt HB.out B)
  clear B
  have xX00 := X0.at (i := 0) (v := .bool s0) rfl
  have xX01 := X0.at (i := 1) (v := .slice a0 len0 cap0) rfl
  have xX02 := X0.at (i := 2) (v := .int .i64 e0) rfl
  go_wp2
  go_ret
  exact ⟨rfl, HB.out⟩
theorem mk_exq (D : Int) (s : Bool) (M E : Int) : mk (exq D s M E).1 (exq D s M E).2 = exq D s M E := by
  unfold exq
  split
  · exact mk_nf _ _
  · exact mk_zero 0
theorem fq_ne' {D D' : Int} {s s' : Bool} {M M' E E' r r' : Int} (q : Fq D s M E r) (q' : Fq D' s' M' E' r') (h : r ≠ r') : D = D' → s = s' → M = M' → ¬ E = E' := by
  rintro rfl rfl rfl rfl
  exact h (q.2.2.symm.trans q'.2.2)
set_option maxHeartbeats 8000000 in
theorem numTight_same (s0 : Bool) (a0 : Option Addr) (len0 cap0 : Nat) (e0 : Int) (w : World) (z x y : Int) (hT : Tab w) (h0 : Wr w s0 a0 len0 cap0 z) (hf : fewB len0 e0 = true) (ha : rnd false (mk z e0).1 (mk z e0).2 = x) (hb : rnd true (mk z e0).1 (mk z e0).2 = y)
    (x1 : -19342822337206103650074625 < x) (x2 : x < 19342822337206103650074625) (y1 : -19342822337206103650074625 < y) (y2 : y < 19342822337206103650074625) (hxy : y = x) (hv : vr x = vl (mk z e0)) :
    Calls Tryd.prog 6 #[.agg #[.bool s0, .slice a0 len0 cap0, .int .i64 e0]] w (PB w true) := by
  obtain ⟨hn, _, _⟩ := fewB_true hf
  have hyx := hxy.symm
  subst hyx
  have HF := Lib.hid hf
  have HA := Lib.hid ha
  have HB2 := Lib.hid hb
  have HC1 : Hid (cmpI (vr x) (vl (mk z e0)) = 0) := Lib.hid (cmpI_eq hv)
  have HC2 : Hid (cmpI (vr x) (vl (mk z e0)) = 0) := Lib.hid (cmpI_eq hv)
  clear hf ha hb hv
  go_enter Tryd.func6, Tryd.ntmps6
  go_upto_region 1 with (fail)
  have X0 := (Bo.newAt w (g := w.heap.size) (by simp) #[.bool s0, .slice a0 len0 cap0, .int .i64 e0] 26)
  have HB := Lib.hid (bel1 w (.cells #[.bool s0, .slice a0 len0 cap0, .int .i64 e0] 26))
  replace hT := hT.below HB.out
  replace h0 := h0.below HB.out
  generalize hW1 : (w.alloc (.cells #[.bool s0, .slice a0 len0 cap0, .int .i64 e0] 26)) = w1 at *
  clear hW1
  go_wp2_with fail
  refine (awake5 _ hT).mono ?_
  rintro ee w2 ⟨rfl, B⟩
  replace X0 := X0.below B
  replace hT := hT.below B
  replace h0 := h0.below B
  replace HB := Lib.hid (bt HB.out B)
  clear B
  have xX00 := X0.at (i := 0) (v := .bool s0) rfl
  have xX01 := X0.at (i := 1) (v := .slice a0 len0 cap0) rfl
  have xX02 := X0.at (i := 2) (v := .int .i64 e0) rfl
  go_wp2_with fail
  refine (few3E _ HF.out).mono ?_
  rintro ee w3 ⟨rfl, B⟩
  clear xX00 xX01 xX02
  replace X0 := X0.below B
  replace hT := hT.below B
  replace h0 := h0.below B
  replace HB := Lib.hid (bt HB.out B)
  clear B
  have xX00 := X0.at (i := 0) (v := .bool s0) rfl
  have xX01 := X0.at (i := 1) (v := .slice a0 len0 cap0) rfl
  have xX02 := X0.at (i := 2) (v := .int .i64 e0) rfl
  go_wp2_with fail
  refine (nRound (up := false) hT h0 (by omega) rfl rfl HA.out).mono ?_
  rintro ee w4 ⟨K1, s1, M1, E1, rfl, q1, B⟩
  clear xX00 xX01 xX02
  replace X0 := X0.below B
  replace hT := hT.below B
  replace h0 := h0.below B
  replace HB := Lib.hid (bt HB.out B)
  clear B
  go_upto_region 6 with (fail)
  have lX5 := Nat.le_refl (World.heap w4).size
  have nX5X0 := X0.lt
  replace X0 := X0.below (bel1 _ (.cells #[.int .i64 K1, .bool s1, .int .u64 M1, .int .i64 E1] 30))
  replace hT := hT.below (bel1 _ (.cells #[.int .i64 K1, .bool s1, .int .u64 M1, .int .i64 E1] 30))
  replace h0 := h0.below (bel1 _ (.cells #[.int .i64 K1, .bool s1, .int .u64 M1, .int .i64 E1] 30))
  replace HB := Lib.hid (bt HB.out (bel1 _ (.cells #[.int .i64 K1, .bool s1, .int .u64 M1, .int .i64 E1] 30)))
  have X5 := Bo.new w4 #[.int .i64 K1, .bool s1, .int .u64 M1, .int .i64 E1] 30
  generalize hWn : World.alloc w4 (.cells #[.int .i64 K1, .bool s1, .int .u64 M1, .int .i64 E1] 30) = w5 at *
  clear hWn
  clear lX5
  have xX00 := X0.at (i := 0) (v := .bool s0) rfl
  have xX01 := X0.at (i := 1) (v := .slice a0 len0 cap0) rfl
  have xX02 := X0.at (i := 2) (v := .int .i64 e0) rfl
  go_wp2_with fail
  refine (nRound (up := true) hT h0 (by omega) rfl rfl HB2.out).mono ?_
  rintro ee w6 ⟨K2, s2, M2, E2, rfl, q2, B⟩
  clear xX00 xX01 xX02
  replace X0 := X0.below B
  replace X5 := X5.below B
  replace hT := hT.below B
  replace h0 := h0.below B
  replace HB := Lib.hid (bt HB.out B)
  clear B
  obtain ⟨rfl, rfl, rfl, rfl⟩ := q1.uniq q2
  clear q2
  go_upto_region 7 with (fail)
  have lX6 := Nat.le_refl (World.heap w6).size
  have nX6X0 := X0.lt
  have nX6X5 := X5.lt
  replace X0 := X0.below (bel1 _ (.cells #[.int .i64 K1, .bool s1, .int .u64 M1, .int .i64 E1] 30))
  replace X5 := X5.below (bel1 _ (.cells #[.int .i64 K1, .bool s1, .int .u64 M1, .int .i64 E1] 30))
  replace hT := hT.below (bel1 _ (.cells #[.int .i64 K1, .bool s1, .int .u64 M1, .int .i64 E1] 30))
  replace h0 := h0.below (bel1 _ (.cells #[.int .i64 K1, .bool s1, .int .u64 M1, .int .i64 E1] 30))
  replace HB := Lib.hid (bt HB.out (bel1 _ (.cells #[.int .i64 K1, .bool s1, .int .u64 M1, .int .i64 E1] 30)))
  have X6 := Bo.new w6 #[.int .i64 K1, .bool s1, .int .u64 M1, .int .i64 E1] 30
  generalize hWn : World.alloc w6 (.cells #[.int .i64 K1, .bool s1, .int .u64 M1, .int .i64 E1] 30) = w7 at *
  clear hWn
  clear lX6
  obtain ⟨g1, g2⟩ := exq_vl q1 x1 x2
  have HG1 := Lib.hid g1
  have w1M : 0 ≤ M1 := by rcases q1.cases with ⟨_, _, h, _⟩ | ⟨_, h, _⟩ | ⟨_, h, _⟩ <;> omega
  have HM1 : Hid (cmpI (vl (mk (exq K1 s1 M1 E1).1 (exq K1 s1 M1 E1).2)) (vl (mk z e0)) = 0) := Lib.hid (by rw [mk_exq, g2]; exact HC1.out)
  clear g1 g2
  obtain ⟨N1, hN1⟩ : ∃ N, (exq K1 s1 M1 E1).1 = N := ⟨_, rfl⟩
  obtain ⟨F1, hF1⟩ : ∃ N, (exq K1 s1 M1 E1).2 = N := ⟨_, rfl⟩
  rw [hN1, hF1] at HM1
  have HN1 := Lib.hid hN1
  have HF1 := Lib.hid hF1
  clear hN1 hF1
  clear HC1 HC2
  have xX50 := X5.at (i := 0) (v := .int .i64 K1) rfl
  have xX51 := X5.at (i := 1) (v := .bool s1) rfl
  have xX52 := X5.at (i := 2) (v := .int .u64 M1) rfl
  have xX53 := X5.at (i := 3) (v := .int .i64 E1) rfl
  go_wp2_with fail
  refine (nExact hT w1M q1.top HG1.out HN1.out HF1.out).mono ?_
  rintro ee w8 ⟨sa, Aa, na, ca, rfl, pa, ka, B⟩
  clear xX50 xX51 xX52 xX53
  replace X0 := X0.below B
  replace X5 := X5.below B
  replace X6 := X6.below B
  replace hT := hT.below B
  replace h0 := h0.below B
  replace HB := Lib.hid (bt HB.out B)
  clear B
  go_upto_region 8 with (fail)
  have lX7 := Nat.le_refl (World.heap w8).size
  have nX7X0 := X0.lt
  have nX7X5 := X5.lt
  have nX7X6 := X6.lt
  replace X0 := X0.below (bel1 _ (.cells #[.bool sa, .slice Aa na ca, .int .i64 F1] 26))
  replace X5 := X5.below (bel1 _ (.cells #[.bool sa, .slice Aa na ca, .int .i64 F1] 26))
  replace X6 := X6.below (bel1 _ (.cells #[.bool sa, .slice Aa na ca, .int .i64 F1] 26))
  replace hT := hT.below (bel1 _ (.cells #[.bool sa, .slice Aa na ca, .int .i64 F1] 26))
  replace h0 := h0.below (bel1 _ (.cells #[.bool sa, .slice Aa na ca, .int .i64 F1] 26))
  replace pa := pa.below (bel1 _ (.cells #[.bool sa, .slice Aa na ca, .int .i64 F1] 26))
  replace HB := Lib.hid (bt HB.out (bel1 _ (.cells #[.bool sa, .slice Aa na ca, .int .i64 F1] 26)))
  have X7 := Bo.new w8 #[.bool sa, .slice Aa na ca, .int .i64 F1] 26
  generalize hWn : World.alloc w8 (.cells #[.bool sa, .slice Aa na ca, .int .i64 F1] 26) = w9 at *
  clear hWn
  clear lX7
  have xX60 := X6.at (i := 0) (v := .int .i64 K1) rfl
  have xX61 := X6.at (i := 1) (v := .bool s1) rfl
  have xX62 := X6.at (i := 2) (v := .int .u64 M1) rfl
  have xX63 := X6.at (i := 3) (v := .int .i64 E1) rfl
  go_wp2_with fail
  refine (nExact hT w1M q1.top HG1.out HN1.out HF1.out).mono ?_
  rintro ee w10 ⟨sb, Ab, nb, cb, rfl, pb, kb, B⟩
  clear xX60 xX61 xX62 xX63
  replace X0 := X0.below B
  replace X5 := X5.below B
  replace X6 := X6.below B
  replace X7 := X7.below B
  replace hT := hT.below B
  replace h0 := h0.below B
  replace pa := pa.below B
  replace HB := Lib.hid (bt HB.out B)
  clear B
  go_upto_region 9 with (fail)
  have lX9 := Nat.le_refl (World.heap w10).size
  have nX9X0 := X0.lt
  have nX9X5 := X5.lt
  have nX9X6 := X6.lt
  have nX9X7 := X7.lt
  replace X0 := X0.below (bel1 _ (.cells #[.bool sb, .slice Ab nb cb, .int .i64 F1] 26))
  replace X5 := X5.below (bel1 _ (.cells #[.bool sb, .slice Ab nb cb, .int .i64 F1] 26))
  replace X6 := X6.below (bel1 _ (.cells #[.bool sb, .slice Ab nb cb, .int .i64 F1] 26))
  replace X7 := X7.below (bel1 _ (.cells #[.bool sb, .slice Ab nb cb, .int .i64 F1] 26))
  replace hT := hT.below (bel1 _ (.cells #[.bool sb, .slice Ab nb cb, .int .i64 F1] 26))
  replace h0 := h0.below (bel1 _ (.cells #[.bool sb, .slice Ab nb cb, .int .i64 F1] 26))
  replace pa := pa.below (bel1 _ (.cells #[.bool sb, .slice Ab nb cb, .int .i64 F1] 26))
  replace pb := pb.below (bel1 _ (.cells #[.bool sb, .slice Ab nb cb, .int .i64 F1] 26))
  replace HB := Lib.hid (bt HB.out (bel1 _ (.cells #[.bool sb, .slice Ab nb cb, .int .i64 F1] 26)))
  have X9 := Bo.new w10 #[.bool sb, .slice Ab nb cb, .int .i64 F1] 26
  generalize hWn : World.alloc w10 (.cells #[.bool sb, .slice Ab nb cb, .int .i64 F1] 26) = w11 at *
  clear hWn
  clear lX9
  have xX70 := X7.at (i := 0) (v := .bool sa) rfl
  have xX71 := X7.at (i := 1) (v := .slice Aa na ca) rfl
  have xX72 := X7.at (i := 2) (v := .int .i64 F1) rfl
  have xX00 := X0.at (i := 0) (v := .bool s0) rfl
  have xX01 := X0.at (i := 1) (v := .slice a0 len0 cap0) rfl
  have xX02 := X0.at (i := 2) (v := .int .i64 e0) rfl
  go_wp2_with fail
  refine (dCmp hT pa.wr h0 (by omega) (by omega) HM1.out).mono ?_
  rintro ee w12 ⟨rfl, B⟩
  clear xX70 xX71 xX72 xX00 xX01 xX02
  replace X0 := X0.below B
  replace X5 := X5.below B
  replace X6 := X6.below B
  replace X7 := X7.below B
  replace X9 := X9.below B
  replace hT := hT.below B
  replace h0 := h0.below B
  replace pa := pa.below B
  replace pb := pb.below B
  replace HB := Lib.hid (bt HB.out B)
  clear B
  have xX90 := X9.at (i := 0) (v := .bool sb) rfl
  have xX91 := X9.at (i := 1) (v := .slice Ab nb cb) rfl
  have xX92 := X9.at (i := 2) (v := .int .i64 F1) rfl
  have xX00 := X0.at (i := 0) (v := .bool s0) rfl
  have xX01 := X0.at (i := 1) (v := .slice a0 len0 cap0) rfl
  have xX02 := X0.at (i := 2) (v := .int .i64 e0) rfl
  go_wp2_with fail
  refine (dCmp hT pb.wr h0 (by omega) (by omega) HM1.out).mono ?_
  rintro ee w13 ⟨rfl, B⟩
  clear xX90 xX91 xX92 xX00 xX01 xX02
  replace X0 := X0.below B
  replace X5 := X5.below B
  replace X6 := X6.below B
  replace X7 := X7.below B
  replace X9 := X9.below B
  replace hT := hT.below B
  replace h0 := h0.below B
  replace pa := pa.below B
  replace pb := pb.below B
  replace HB := Lib.hid (bt HB.out B)
  clear B
  go_upto_region 11 with (fail)
  refine Jo.region_joint (T := [0, 1, 2, 3, 4, 5, 6, 7, 8, 9, 10, 11, 12, 13, 14, 15, 16, 17, 18, 19, 20, 21, 22, 23, 24, 25, 26, 27]) (ds := [some 53, some 54, some 55, some 56, some 57, some 58, some 59, some 60, some 61, some 62, some 63, some 64, some 65, some 66, some 67, some 68, some 69, some 70, some 71, some 72, some 73, some 74, some 75, some 76, some 77, some 78, some 79, some 2]) (ls := [[], [], [0, 1], [2], [3], [3], [3, 4, 5], [3, 6], [3, 7], [8], [9], [9, 10], [9], [9, 11, 12], [9, 13], [14], [14], [14, 15, 16], [14, 17], [9, 14, 18], [9, 19], [20], [20], [20, 21, 22], [20, 23], [9, 20, 24], [9, 25], [26]]) (k := 28) (L := [(some 53, 0), (some 54, 1), (some 55, 2), (some 56, 3), (some 57, 4), (some 58, 5), (some 59, 6), (some 60, 7), (some 61, 8), (some 62, 9), (some 63, 10), (some 64, 11), (some 65, 12), (some 66, 13), (some 67, 14), (some 68, 15), (some 69, 16), (some 70, 17), (some 71, 18), (some 72, 19), (some 73, 20), (some 74, 21), (some 75, 22), (some 76, 23), (some 77, 24), (some 78, 25), (some 79, 26), (some 2, 27)]) (fuel := 0) (J := fun wj => Below (World.heap w13).size w13 wj)
    (F := [Jo.Fact.eq (.agg #[.int .i64 K1, .bool s1, .int .u64 M1, .int .i64 E1]), Jo.Fact.eq (.agg #[.int .i64 K1, .bool s1, .int .u64 M1, .int .i64 E1]), Jo.Fact.eq (.bool true), Jo.Fact.eq (.bool true), Jo.Fact.eq (.agg #[.bool sa, .slice Aa na ca, .int .i64 F1]), Jo.Fact.eq (.agg #[.bool s0, .slice a0 len0 cap0, .int .i64 e0]), Jo.Fact.eq (.int .i64 0), Jo.Fact.eq (.bool true), Jo.Fact.eq (.bool true), Jo.Fact.eq (.bool true), Jo.Fact.eq undef, Jo.Fact.eq undef, Jo.Fact.eq undef, Jo.Fact.eq undef, Jo.Fact.eq undef, Jo.Fact.eq undef, Jo.Fact.eq undef, Jo.Fact.eq undef, Jo.Fact.eq undef, Jo.Fact.eq undef, Jo.Fact.eq undef, Jo.Fact.eq undef, Jo.Fact.eq undef, Jo.Fact.eq undef, Jo.Fact.eq undef, Jo.Fact.eq undef, Jo.Fact.eq (.bool true), Jo.Fact.eq (.bool true)])
    (by kernel_rfl) (by kernel_rfl) (by decide) rfl rfl (fun _ _ h b => bt h b) ((Below.refl _ _).drew) ?_ (fun vs w14 hJ hd => ?_)
  · refine Jo.jcons (i := 0) (o := ⟨some 53, _, _, _, _, _⟩) (di := some 53) (L := []) (f := Jo.Fact.eq (.agg #[.int .i64 K1, .bool s1, .int .u64 M1, .int .i64 E1])) rfl rfl rfl rfl (fun vs wj hJ hd K hK => ?_) ?_
    · clear hd
      simp only [Jo.putl, List.foldl_nil, Act.put, List.setIfInBounds_toArray, List.set_cons_zero, List.set_cons_succ] at hK ⊢
      have xX50 : World.cell? wj ⟨w4.heap.size, 0, none⟩ = some (.int .i64 K1) := (X5.below hJ).cell 0
      have xX51 : World.cell? wj ⟨w4.heap.size, 1, none⟩ = some (.bool s1) := (X5.below hJ).cell 1
      have xX52 : World.cell? wj ⟨w4.heap.size, 2, none⟩ = some (.int .u64 M1) := (X5.below hJ).cell 2
      have xX53 : World.cell? wj ⟨w4.heap.size, 3, none⟩ = some (.int .i64 E1) := (X5.below hJ).cell 3
      go_simp
      exact hK.out _ _ rfl (Below.refl _ _)
    refine Jo.jcons (i := 1) (o := ⟨some 54, _, _, _, _, _⟩) (di := some 54) (L := []) (f := Jo.Fact.eq (.agg #[.int .i64 K1, .bool s1, .int .u64 M1, .int .i64 E1])) rfl rfl rfl rfl (fun vs wj hJ hd K hK => ?_) ?_
    · clear hd
      simp only [Jo.putl, List.foldl_nil, Act.put, List.setIfInBounds_toArray, List.set_cons_zero, List.set_cons_succ] at hK ⊢
      have xX60 : World.cell? wj ⟨w6.heap.size, 0, none⟩ = some (.int .i64 K1) := (X6.below hJ).cell 0
      have xX61 : World.cell? wj ⟨w6.heap.size, 1, none⟩ = some (.bool s1) := (X6.below hJ).cell 1
      have xX62 : World.cell? wj ⟨w6.heap.size, 2, none⟩ = some (.int .u64 M1) := (X6.below hJ).cell 2
      have xX63 : World.cell? wj ⟨w6.heap.size, 3, none⟩ = some (.int .i64 E1) := (X6.below hJ).cell 3
      go_simp
      exact hK.out _ _ rfl (Below.refl _ _)
    refine Jo.jcons (i := 2) (o := ⟨some 55, _, _, _, _, _⟩) (di := some 55) (L := [(some 53, 0), (some 54, 1)]) (f := Jo.Fact.eq (.bool true)) rfl rfl rfl rfl (fun vs wj hJ hd K hK => ?_) ?_
    · have d0 : (Jo.Fact.eq (.agg #[.int .i64 K1, .bool s1, .int .u64 M1, .int .i64 E1])).P (vs 0) wj := hd 0 (by decide)
      have d1 : (Jo.Fact.eq (.agg #[.int .i64 K1, .bool s1, .int .u64 M1, .int .i64 E1])).P (vs 1) wj := hd 1 (by decide)
      clear hd
      simp only [Jo.putl, List.foldl_cons, List.foldl_nil, Act.put, List.setIfInBounds_toArray, List.set_cons_zero, List.set_cons_succ] at hK ⊢
      generalize vs 0 = u0 at hK d0 ⊢
      generalize vs 1 = u1 at hK d1 ⊢
      replace d0 : u0 = _ := d0
      subst d0
      replace d1 : u1 = _ := d1
      subst d1
      go_simp
      exact hK.out _ _ (by first | rfl | (show Value.bool _ = Value.bool _; simp)) (Below.refl _ _)
    refine Jo.jcons (i := 3) (o := ⟨some 56, _, _, _, _, _⟩) (di := some 56) (L := [(some 55, 2)]) (f := Jo.Fact.eq (.bool true)) rfl rfl rfl rfl (fun vs wj hJ hd K hK => ?_) ?_
    · have d2 : (Jo.Fact.eq (.bool true)).P (vs 2) wj := hd 2 (by decide)
      clear hd
      simp only [Jo.putl, List.foldl_cons, List.foldl_nil, Act.put, List.setIfInBounds_toArray, List.set_cons_zero, List.set_cons_succ] at hK ⊢
      generalize vs 2 = u2 at hK d2 ⊢
      replace d2 : u2 = _ := d2
      subst d2
      go_simp
      exact hK.out _ _ rfl (Below.refl _ _)
    refine Jo.jcons (i := 4) (o := ⟨some 57, _, _, _, _, _⟩) (di := some 57) (L := [(some 56, 3)]) (f := Jo.Fact.eq (.agg #[.bool sa, .slice Aa na ca, .int .i64 F1])) rfl rfl rfl rfl (fun vs wj hJ hd K hK => ?_) ?_
    · have d3 : (Jo.Fact.eq (.bool true)).P (vs 3) wj := hd 3 (by decide)
      clear hd
      simp only [Jo.putl, List.foldl_cons, List.foldl_nil, Act.put, List.setIfInBounds_toArray, List.set_cons_zero, List.set_cons_succ] at hK ⊢
      generalize vs 3 = u3 at hK d3 ⊢
      replace d3 : u3 = _ := d3
      subst d3
      have xX70 : World.cell? wj ⟨w8.heap.size, 0, none⟩ = some (.bool sa) := (X7.below hJ).cell 0
      have xX71 : World.cell? wj ⟨w8.heap.size, 1, none⟩ = some (.slice Aa na ca) := (X7.below hJ).cell 1
      have xX72 : World.cell? wj ⟨w8.heap.size, 2, none⟩ = some (.int .i64 F1) := (X7.below hJ).cell 2
      go_simp
      exact hK.out _ _ rfl (Below.refl _ _)
    refine Jo.jcons (i := 5) (o := ⟨some 58, _, _, _, _, _⟩) (di := some 58) (L := [(some 56, 3)]) (f := Jo.Fact.eq (.agg #[.bool s0, .slice a0 len0 cap0, .int .i64 e0])) rfl rfl rfl rfl (fun vs wj hJ hd K hK => ?_) ?_
    · have d3 : (Jo.Fact.eq (.bool true)).P (vs 3) wj := hd 3 (by decide)
      clear hd
      simp only [Jo.putl, List.foldl_cons, List.foldl_nil, Act.put, List.setIfInBounds_toArray, List.set_cons_zero, List.set_cons_succ] at hK ⊢
      generalize vs 3 = u3 at hK d3 ⊢
      replace d3 : u3 = _ := d3
      subst d3
      have xX00 : World.cell? wj ⟨w.heap.size, 0, none⟩ = some (.bool s0) := (X0.below hJ).cell 0
      have xX01 : World.cell? wj ⟨w.heap.size, 1, none⟩ = some (.slice a0 len0 cap0) := (X0.below hJ).cell 1
      have xX02 : World.cell? wj ⟨w.heap.size, 2, none⟩ = some (.int .i64 e0) := (X0.below hJ).cell 2
      go_simp
      exact hK.out _ _ rfl (Below.refl _ _)
    refine Jo.jcons (i := 6) (o := ⟨some 59, _, _, _, _, _⟩) (di := some 59) (L := [(some 56, 3), (some 57, 4), (some 58, 5)]) (f := Jo.Fact.eq (.int .i64 0)) rfl rfl rfl rfl (fun vs wj hJ hd K hK => ?_) ?_
    · have d3 : (Jo.Fact.eq (.bool true)).P (vs 3) wj := hd 3 (by decide)
      have d4 : (Jo.Fact.eq (.agg #[.bool sa, .slice Aa na ca, .int .i64 F1])).P (vs 4) wj := hd 4 (by decide)
      have d5 : (Jo.Fact.eq (.agg #[.bool s0, .slice a0 len0 cap0, .int .i64 e0])).P (vs 5) wj := hd 5 (by decide)
      clear hd
      simp only [Jo.putl, List.foldl_cons, List.foldl_nil, Act.put, List.setIfInBounds_toArray, List.set_cons_zero, List.set_cons_succ] at hK ⊢
      generalize vs 3 = u3 at hK d3 ⊢
      generalize vs 4 = u4 at hK d4 ⊢
      generalize vs 5 = u5 at hK d5 ⊢
      replace d3 : u3 = _ := d3
      subst d3
      replace d4 : u4 = _ := d4
      subst d4
      replace d5 : u5 = _ := d5
      subst d5
      go_simp
      refine (dCmp (hT.below hJ) (pa.wr.below hJ) (h0.below hJ) (by omega) (by omega) HM1.out).mono ?_
      rintro ee wk ⟨rfl, B⟩
      exact hK.out _ _ rfl B
    refine Jo.jcons (i := 7) (o := ⟨some 60, _, _, _, _, _⟩) (di := some 60) (L := [(some 56, 3), (some 59, 6)]) (f := Jo.Fact.eq (.bool true)) rfl rfl rfl rfl (fun vs wj hJ hd K hK => ?_) ?_
    · have d3 : (Jo.Fact.eq (.bool true)).P (vs 3) wj := hd 3 (by decide)
      have d6 : (Jo.Fact.eq (.int .i64 0)).P (vs 6) wj := hd 6 (by decide)
      clear hd
      simp only [Jo.putl, List.foldl_cons, List.foldl_nil, Act.put, List.setIfInBounds_toArray, List.set_cons_zero, List.set_cons_succ] at hK ⊢
      generalize vs 3 = u3 at hK d3 ⊢
      generalize vs 6 = u6 at hK d6 ⊢
      replace d3 : u3 = _ := d3
      subst d3
      replace d6 : u6 = _ := d6
      subst d6
      go_simp
      exact hK.out _ _ (by first | rfl | simp) (Below.refl _ _)
    refine Jo.jcons (i := 8) (o := ⟨some 61, _, _, _, _, _⟩) (di := some 61) (L := [(some 56, 3), (some 60, 7)]) (f := Jo.Fact.eq (.bool true)) rfl rfl rfl rfl (fun vs wj hJ hd K hK => ?_) ?_
    · have d3 : (Jo.Fact.eq (.bool true)).P (vs 3) wj := hd 3 (by decide)
      have d7 : (Jo.Fact.eq (.bool true)).P (vs 7) wj := hd 7 (by decide)
      clear hd
      simp only [Jo.putl, List.foldl_cons, List.foldl_nil, Act.put, List.setIfInBounds_toArray, List.set_cons_zero, List.set_cons_succ] at hK ⊢
      generalize vs 3 = u3 at hK d3 ⊢
      generalize vs 7 = u7 at hK d7 ⊢
      replace d3 : u3 = _ := d3
      subst d3
      replace d7 : u7 = _ := d7
      subst d7
      go_simp
      exact hK.out _ _ rfl (Below.refl _ _)
    refine Jo.jcons (i := 9) (o := ⟨some 62, _, _, _, _, _⟩) (di := some 62) (L := [(some 61, 8)]) (f := Jo.Fact.eq (.bool true)) rfl rfl rfl rfl (fun vs wj hJ hd K hK => ?_) ?_
    · have d8 : (Jo.Fact.eq (.bool true)).P (vs 8) wj := hd 8 (by decide)
      clear hd
      simp only [Jo.putl, List.foldl_cons, List.foldl_nil, Act.put, List.setIfInBounds_toArray, List.set_cons_zero, List.set_cons_succ] at hK ⊢
      generalize vs 8 = u8 at hK d8 ⊢
      replace d8 : u8 = _ := d8
      subst d8
      go_simp
      exact hK.out _ _ rfl (Below.refl _ _)
    refine Jo.jcons (i := 10) (o := ⟨some 63, _, _, _, _, _⟩) (di := some 63) (L := [(some 62, 9)]) (f := Jo.Fact.eq undef) rfl rfl rfl rfl (fun vs wj hJ hd K hK => ?_) ?_
    · have d9 : (Jo.Fact.eq (.bool true)).P (vs 9) wj := hd 9 (by decide)
      clear hd
      simp only [Jo.putl, List.foldl_cons, List.foldl_nil, Act.put, List.setIfInBounds_toArray, List.set_cons_zero, List.set_cons_succ] at hK ⊢
      generalize vs 9 = u9 at hK d9 ⊢
      replace d9 : u9 = _ := d9
      subst d9
      go_simp
      exact hK.out _ _ rfl (Below.refl _ _)
    refine Jo.jcons (i := 11) (o := ⟨some 64, _, _, _, _, _⟩) (di := some 64) (L := [(some 62, 9), (some 63, 10)]) (f := Jo.Fact.eq undef) rfl rfl rfl rfl (fun vs wj hJ hd K hK => ?_) ?_
    · have d9 : (Jo.Fact.eq (.bool true)).P (vs 9) wj := hd 9 (by decide)
      have d10 : (Jo.Fact.eq undef).P (vs 10) wj := hd 10 (by decide)
      clear hd
      simp only [Jo.putl, List.foldl_cons, List.foldl_nil, Act.put, List.setIfInBounds_toArray, List.set_cons_zero, List.set_cons_succ] at hK ⊢
      generalize vs 9 = u9 at hK d9 ⊢
      generalize vs 10 = u10 at hK d10 ⊢
      replace d9 : u9 = _ := d9
      subst d9
      replace d10 : u10 = _ := d10
      subst d10
      go_simp
      exact hK.out _ _ rfl (Below.refl _ _)
    refine Jo.jcons (i := 12) (o := ⟨some 65, _, _, _, _, _⟩) (di := some 65) (L := [(some 62, 9)]) (f := Jo.Fact.eq undef) rfl rfl rfl rfl (fun vs wj hJ hd K hK => ?_) ?_
    · have d9 : (Jo.Fact.eq (.bool true)).P (vs 9) wj := hd 9 (by decide)
      clear hd
      simp only [Jo.putl, List.foldl_cons, List.foldl_nil, Act.put, List.setIfInBounds_toArray, List.set_cons_zero, List.set_cons_succ] at hK ⊢
      generalize vs 9 = u9 at hK d9 ⊢
      replace d9 : u9 = _ := d9
      subst d9
      go_simp
      exact hK.out _ _ rfl (Below.refl _ _)
    refine Jo.jcons (i := 13) (o := ⟨some 66, _, _, _, _, _⟩) (di := some 66) (L := [(some 62, 9), (some 64, 11), (some 65, 12)]) (f := Jo.Fact.eq undef) rfl rfl rfl rfl (fun vs wj hJ hd K hK => ?_) ?_
    · have d9 : (Jo.Fact.eq (.bool true)).P (vs 9) wj := hd 9 (by decide)
      have d11 : (Jo.Fact.eq undef).P (vs 11) wj := hd 11 (by decide)
      have d12 : (Jo.Fact.eq undef).P (vs 12) wj := hd 12 (by decide)
      clear hd
      simp only [Jo.putl, List.foldl_cons, List.foldl_nil, Act.put, List.setIfInBounds_toArray, List.set_cons_zero, List.set_cons_succ] at hK ⊢
      generalize vs 9 = u9 at hK d9 ⊢
      generalize vs 11 = u11 at hK d11 ⊢
      generalize vs 12 = u12 at hK d12 ⊢
      replace d9 : u9 = _ := d9
      subst d9
      replace d11 : u11 = _ := d11
      subst d11
      replace d12 : u12 = _ := d12
      subst d12
      go_simp
      exact hK.out _ _ rfl (Below.refl _ _)
    refine Jo.jcons (i := 14) (o := ⟨some 67, _, _, _, _, _⟩) (di := some 67) (L := [(some 62, 9), (some 66, 13)]) (f := Jo.Fact.eq undef) rfl rfl rfl rfl (fun vs wj hJ hd K hK => ?_) ?_
    · have d9 : (Jo.Fact.eq (.bool true)).P (vs 9) wj := hd 9 (by decide)
      have d13 : (Jo.Fact.eq undef).P (vs 13) wj := hd 13 (by decide)
      clear hd
      simp only [Jo.putl, List.foldl_cons, List.foldl_nil, Act.put, List.setIfInBounds_toArray, List.set_cons_zero, List.set_cons_succ] at hK ⊢
      generalize vs 9 = u9 at hK d9 ⊢
      generalize vs 13 = u13 at hK d13 ⊢
      replace d9 : u9 = _ := d9
      subst d9
      replace d13 : u13 = _ := d13
      subst d13
      go_simp
      exact hK.out _ _ rfl (Below.refl _ _)
    refine Jo.jcons (i := 15) (o := ⟨some 68, _, _, _, _, _⟩) (di := some 68) (L := [(some 67, 14)]) (f := Jo.Fact.eq undef) rfl rfl rfl rfl (fun vs wj hJ hd K hK => ?_) ?_
    · have d14 : (Jo.Fact.eq undef).P (vs 14) wj := hd 14 (by decide)
      clear hd
      simp only [Jo.putl, List.foldl_cons, List.foldl_nil, Act.put, List.setIfInBounds_toArray, List.set_cons_zero, List.set_cons_succ] at hK ⊢
      generalize vs 14 = u14 at hK d14 ⊢
      replace d14 : u14 = _ := d14
      subst d14
      go_simp
      exact hK.out _ _ rfl (Below.refl _ _)
    refine Jo.jcons (i := 16) (o := ⟨some 69, _, _, _, _, _⟩) (di := some 69) (L := [(some 67, 14)]) (f := Jo.Fact.eq undef) rfl rfl rfl rfl (fun vs wj hJ hd K hK => ?_) ?_
    · have d14 : (Jo.Fact.eq undef).P (vs 14) wj := hd 14 (by decide)
      clear hd
      simp only [Jo.putl, List.foldl_cons, List.foldl_nil, Act.put, List.setIfInBounds_toArray, List.set_cons_zero, List.set_cons_succ] at hK ⊢
      generalize vs 14 = u14 at hK d14 ⊢
      replace d14 : u14 = _ := d14
      subst d14
      go_simp
      exact hK.out _ _ rfl (Below.refl _ _)
    refine Jo.jcons (i := 17) (o := ⟨some 70, _, _, _, _, _⟩) (di := some 70) (L := [(some 67, 14), (some 68, 15), (some 69, 16)]) (f := Jo.Fact.eq undef) rfl rfl rfl rfl (fun vs wj hJ hd K hK => ?_) ?_
    · have d14 : (Jo.Fact.eq undef).P (vs 14) wj := hd 14 (by decide)
      have d15 : (Jo.Fact.eq undef).P (vs 15) wj := hd 15 (by decide)
      have d16 : (Jo.Fact.eq undef).P (vs 16) wj := hd 16 (by decide)
      clear hd
      simp only [Jo.putl, List.foldl_cons, List.foldl_nil, Act.put, List.setIfInBounds_toArray, List.set_cons_zero, List.set_cons_succ] at hK ⊢
      generalize vs 14 = u14 at hK d14 ⊢
      generalize vs 15 = u15 at hK d15 ⊢
      generalize vs 16 = u16 at hK d16 ⊢
      replace d14 : u14 = _ := d14
      subst d14
      replace d15 : u15 = _ := d15
      subst d15
      replace d16 : u16 = _ := d16
      subst d16
      go_simp
      exact hK.out _ _ rfl (Below.refl _ _)
    refine Jo.jcons (i := 18) (o := ⟨some 71, _, _, _, _, _⟩) (di := some 71) (L := [(some 67, 14), (some 70, 17)]) (f := Jo.Fact.eq undef) rfl rfl rfl rfl (fun vs wj hJ hd K hK => ?_) ?_
    · have d14 : (Jo.Fact.eq undef).P (vs 14) wj := hd 14 (by decide)
      have d17 : (Jo.Fact.eq undef).P (vs 17) wj := hd 17 (by decide)
      clear hd
      simp only [Jo.putl, List.foldl_cons, List.foldl_nil, Act.put, List.setIfInBounds_toArray, List.set_cons_zero, List.set_cons_succ] at hK ⊢
      generalize vs 14 = u14 at hK d14 ⊢
      generalize vs 17 = u17 at hK d17 ⊢
      replace d14 : u14 = _ := d14
      subst d14
      replace d17 : u17 = _ := d17
      subst d17
      go_simp
      exact hK.out _ _ rfl (Below.refl _ _)
    refine Jo.jcons (i := 19) (o := ⟨some 72, _, _, _, _, _⟩) (di := some 72) (L := [(some 62, 9), (some 67, 14), (some 71, 18)]) (f := Jo.Fact.eq undef) rfl rfl rfl rfl (fun vs wj hJ hd K hK => ?_) ?_
    · have d9 : (Jo.Fact.eq (.bool true)).P (vs 9) wj := hd 9 (by decide)
      have d14 : (Jo.Fact.eq undef).P (vs 14) wj := hd 14 (by decide)
      have d18 : (Jo.Fact.eq undef).P (vs 18) wj := hd 18 (by decide)
      clear hd
      simp only [Jo.putl, List.foldl_cons, List.foldl_nil, Act.put, List.setIfInBounds_toArray, List.set_cons_zero, List.set_cons_succ] at hK ⊢
      generalize vs 9 = u9 at hK d9 ⊢
      generalize vs 14 = u14 at hK d14 ⊢
      generalize vs 18 = u18 at hK d18 ⊢
      replace d9 : u9 = _ := d9
      subst d9
      replace d14 : u14 = _ := d14
      subst d14
      replace d18 : u18 = _ := d18
      subst d18
      go_simp
      exact hK.out _ _ rfl (Below.refl _ _)
    refine Jo.jcons (i := 20) (o := ⟨some 73, _, _, _, _, _⟩) (di := some 73) (L := [(some 62, 9), (some 72, 19)]) (f := Jo.Fact.eq undef) rfl rfl rfl rfl (fun vs wj hJ hd K hK => ?_) ?_
    · have d9 : (Jo.Fact.eq (.bool true)).P (vs 9) wj := hd 9 (by decide)
      have d19 : (Jo.Fact.eq undef).P (vs 19) wj := hd 19 (by decide)
      clear hd
      simp only [Jo.putl, List.foldl_cons, List.foldl_nil, Act.put, List.setIfInBounds_toArray, List.set_cons_zero, List.set_cons_succ] at hK ⊢
      generalize vs 9 = u9 at hK d9 ⊢
      generalize vs 19 = u19 at hK d19 ⊢
      replace d9 : u9 = _ := d9
      subst d9
      replace d19 : u19 = _ := d19
      subst d19
      go_simp
      exact hK.out _ _ rfl (Below.refl _ _)
    refine Jo.jcons (i := 21) (o := ⟨some 74, _, _, _, _, _⟩) (di := some 74) (L := [(some 73, 20)]) (f := Jo.Fact.eq undef) rfl rfl rfl rfl (fun vs wj hJ hd K hK => ?_) ?_
    · have d20 : (Jo.Fact.eq undef).P (vs 20) wj := hd 20 (by decide)
      clear hd
      simp only [Jo.putl, List.foldl_cons, List.foldl_nil, Act.put, List.setIfInBounds_toArray, List.set_cons_zero, List.set_cons_succ] at hK ⊢
      generalize vs 20 = u20 at hK d20 ⊢
      replace d20 : u20 = _ := d20
      subst d20
      go_simp
      exact hK.out _ _ rfl (Below.refl _ _)
    refine Jo.jcons (i := 22) (o := ⟨some 75, _, _, _, _, _⟩) (di := some 75) (L := [(some 73, 20)]) (f := Jo.Fact.eq undef) rfl rfl rfl rfl (fun vs wj hJ hd K hK => ?_) ?_
    · have d20 : (Jo.Fact.eq undef).P (vs 20) wj := hd 20 (by decide)
      clear hd
      simp only [Jo.putl, List.foldl_cons, List.foldl_nil, Act.put, List.setIfInBounds_toArray, List.set_cons_zero, List.set_cons_succ] at hK ⊢
      generalize vs 20 = u20 at hK d20 ⊢
      replace d20 : u20 = _ := d20
      subst d20
      go_simp
      exact hK.out _ _ rfl (Below.refl _ _)
    refine Jo.jcons (i := 23) (o := ⟨some 76, _, _, _, _, _⟩) (di := some 76) (L := [(some 73, 20), (some 74, 21), (some 75, 22)]) (f := Jo.Fact.eq undef) rfl rfl rfl rfl (fun vs wj hJ hd K hK => ?_) ?_
    · have d20 : (Jo.Fact.eq undef).P (vs 20) wj := hd 20 (by decide)
      have d21 : (Jo.Fact.eq undef).P (vs 21) wj := hd 21 (by decide)
      have d22 : (Jo.Fact.eq undef).P (vs 22) wj := hd 22 (by decide)
      clear hd
      simp only [Jo.putl, List.foldl_cons, List.foldl_nil, Act.put, List.setIfInBounds_toArray, List.set_cons_zero, List.set_cons_succ] at hK ⊢
      generalize vs 20 = u20 at hK d20 ⊢
      generalize vs 21 = u21 at hK d21 ⊢
      generalize vs 22 = u22 at hK d22 ⊢
      replace d20 : u20 = _ := d20
      subst d20
      replace d21 : u21 = _ := d21
      subst d21
      replace d22 : u22 = _ := d22
      subst d22
      go_simp
      exact hK.out _ _ rfl (Below.refl _ _)
    refine Jo.jcons (i := 24) (o := ⟨some 77, _, _, _, _, _⟩) (di := some 77) (L := [(some 73, 20), (some 76, 23)]) (f := Jo.Fact.eq undef) rfl rfl rfl rfl (fun vs wj hJ hd K hK => ?_) ?_
    · have d20 : (Jo.Fact.eq undef).P (vs 20) wj := hd 20 (by decide)
      have d23 : (Jo.Fact.eq undef).P (vs 23) wj := hd 23 (by decide)
      clear hd
      simp only [Jo.putl, List.foldl_cons, List.foldl_nil, Act.put, List.setIfInBounds_toArray, List.set_cons_zero, List.set_cons_succ] at hK ⊢
      generalize vs 20 = u20 at hK d20 ⊢
      generalize vs 23 = u23 at hK d23 ⊢
      replace d20 : u20 = _ := d20
      subst d20
      replace d23 : u23 = _ := d23
      subst d23
      go_simp
      exact hK.out _ _ rfl (Below.refl _ _)
    refine Jo.jcons (i := 25) (o := ⟨some 78, _, _, _, _, _⟩) (di := some 78) (L := [(some 62, 9), (some 73, 20), (some 77, 24)]) (f := Jo.Fact.eq undef) rfl rfl rfl rfl (fun vs wj hJ hd K hK => ?_) ?_
    · have d9 : (Jo.Fact.eq (.bool true)).P (vs 9) wj := hd 9 (by decide)
      have d20 : (Jo.Fact.eq undef).P (vs 20) wj := hd 20 (by decide)
      have d24 : (Jo.Fact.eq undef).P (vs 24) wj := hd 24 (by decide)
      clear hd
      simp only [Jo.putl, List.foldl_cons, List.foldl_nil, Act.put, List.setIfInBounds_toArray, List.set_cons_zero, List.set_cons_succ] at hK ⊢
      generalize vs 9 = u9 at hK d9 ⊢
      generalize vs 20 = u20 at hK d20 ⊢
      generalize vs 24 = u24 at hK d24 ⊢
      replace d9 : u9 = _ := d9
      subst d9
      replace d20 : u20 = _ := d20
      subst d20
      replace d24 : u24 = _ := d24
      subst d24
      go_simp
      exact hK.out _ _ rfl (Below.refl _ _)
    refine Jo.jcons (i := 26) (o := ⟨some 79, _, _, _, _, _⟩) (di := some 79) (L := [(some 62, 9), (some 78, 25)]) (f := Jo.Fact.eq (.bool true)) rfl rfl rfl rfl (fun vs wj hJ hd K hK => ?_) ?_
    · have d9 : (Jo.Fact.eq (.bool true)).P (vs 9) wj := hd 9 (by decide)
      have d25 : (Jo.Fact.eq undef).P (vs 25) wj := hd 25 (by decide)
      clear hd
      simp only [Jo.putl, List.foldl_cons, List.foldl_nil, Act.put, List.setIfInBounds_toArray, List.set_cons_zero, List.set_cons_succ] at hK ⊢
      generalize vs 9 = u9 at hK d9 ⊢
      generalize vs 25 = u25 at hK d25 ⊢
      replace d9 : u9 = _ := d9
      subst d9
      replace d25 : u25 = _ := d25
      subst d25
      go_simp
      exact hK.out _ _ rfl (Below.refl _ _)
    refine Jo.jcons (i := 27) (o := ⟨some 2, _, _, _, _, _⟩) (di := some 2) (L := [(some 79, 26)]) (f := Jo.Fact.eq (.bool true)) rfl rfl rfl rfl (fun vs wj hJ hd K hK => ?_) ?_
    · have d26 : (Jo.Fact.eq (.bool true)).P (vs 26) wj := hd 26 (by decide)
      clear hd
      simp only [Jo.putl, List.foldl_cons, List.foldl_nil, Act.put, List.setIfInBounds_toArray, List.set_cons_zero, List.set_cons_succ] at hK ⊢
      generalize vs 26 = u26 at hK d26 ⊢
      replace d26 : u26 = _ := d26
      subst d26
      go_simp
      exact hK.out _ _ rfl (Below.refl _ _)
    exact Jo.Steps.nil
  have d0 : (Jo.Fact.eq (.agg #[.int .i64 K1, .bool s1, .int .u64 M1, .int .i64 E1])).P (vs 0) w14 := hd 0 (by decide)
  have d1 : (Jo.Fact.eq (.agg #[.int .i64 K1, .bool s1, .int .u64 M1, .int .i64 E1])).P (vs 1) w14 := hd 1 (by decide)
  have d2 : (Jo.Fact.eq (.bool true)).P (vs 2) w14 := hd 2 (by decide)
  have d3 : (Jo.Fact.eq (.bool true)).P (vs 3) w14 := hd 3 (by decide)
  have d4 : (Jo.Fact.eq (.agg #[.bool sa, .slice Aa na ca, .int .i64 F1])).P (vs 4) w14 := hd 4 (by decide)
  have d5 : (Jo.Fact.eq (.agg #[.bool s0, .slice a0 len0 cap0, .int .i64 e0])).P (vs 5) w14 := hd 5 (by decide)
  have d6 : (Jo.Fact.eq (.int .i64 0)).P (vs 6) w14 := hd 6 (by decide)
  have d7 : (Jo.Fact.eq (.bool true)).P (vs 7) w14 := hd 7 (by decide)
  have d8 : (Jo.Fact.eq (.bool true)).P (vs 8) w14 := hd 8 (by decide)
  have d9 : (Jo.Fact.eq (.bool true)).P (vs 9) w14 := hd 9 (by decide)
  have d10 : (Jo.Fact.eq undef).P (vs 10) w14 := hd 10 (by decide)
  have d11 : (Jo.Fact.eq undef).P (vs 11) w14 := hd 11 (by decide)
  have d12 : (Jo.Fact.eq undef).P (vs 12) w14 := hd 12 (by decide)
  have d13 : (Jo.Fact.eq undef).P (vs 13) w14 := hd 13 (by decide)
  have d14 : (Jo.Fact.eq undef).P (vs 14) w14 := hd 14 (by decide)
  have d15 : (Jo.Fact.eq undef).P (vs 15) w14 := hd 15 (by decide)
  have d16 : (Jo.Fact.eq undef).P (vs 16) w14 := hd 16 (by decide)
  have d17 : (Jo.Fact.eq undef).P (vs 17) w14 := hd 17 (by decide)
  have d18 : (Jo.Fact.eq undef).P (vs 18) w14 := hd 18 (by decide)
  have d19 : (Jo.Fact.eq undef).P (vs 19) w14 := hd 19 (by decide)
  have d20 : (Jo.Fact.eq undef).P (vs 20) w14 := hd 20 (by decide)
  have d21 : (Jo.Fact.eq undef).P (vs 21) w14 := hd 21 (by decide)
  have d22 : (Jo.Fact.eq undef).P (vs 22) w14 := hd 22 (by decide)
  have d23 : (Jo.Fact.eq undef).P (vs 23) w14 := hd 23 (by decide)
  have d24 : (Jo.Fact.eq undef).P (vs 24) w14 := hd 24 (by decide)
  have d25 : (Jo.Fact.eq undef).P (vs 25) w14 := hd 25 (by decide)
  have d26 : (Jo.Fact.eq (.bool true)).P (vs 26) w14 := hd 26 (by decide)
  have d27 : (Jo.Fact.eq (.bool true)).P (vs 27) w14 := hd 27 (by decide)
  clear hd
  simp only [Jo.putl, List.foldl_cons, List.foldl_nil, Act.put, List.setIfInBounds_toArray, List.set_cons_zero, List.set_cons_succ]
  generalize vs 0 = u0 at d0 ⊢
  generalize vs 1 = u1 at d1 ⊢
  generalize vs 2 = u2 at d2 ⊢
  generalize vs 3 = u3 at d3 ⊢
  generalize vs 4 = u4 at d4 ⊢
  generalize vs 5 = u5 at d5 ⊢
  generalize vs 6 = u6 at d6 ⊢
  generalize vs 7 = u7 at d7 ⊢
  generalize vs 8 = u8 at d8 ⊢
  generalize vs 9 = u9 at d9 ⊢
  generalize vs 10 = u10 at d10 ⊢
  generalize vs 11 = u11 at d11 ⊢
  generalize vs 12 = u12 at d12 ⊢
  generalize vs 13 = u13 at d13 ⊢
  generalize vs 14 = u14 at d14 ⊢
  generalize vs 15 = u15 at d15 ⊢
  generalize vs 16 = u16 at d16 ⊢
  generalize vs 17 = u17 at d17 ⊢
  generalize vs 18 = u18 at d18 ⊢
  generalize vs 19 = u19 at d19 ⊢
  generalize vs 20 = u20 at d20 ⊢
  generalize vs 21 = u21 at d21 ⊢
  generalize vs 22 = u22 at d22 ⊢
  generalize vs 23 = u23 at d23 ⊢
  generalize vs 24 = u24 at d24 ⊢
  generalize vs 25 = u25 at d25 ⊢
  generalize vs 26 = u26 at d26 ⊢
  generalize vs 27 = u27 at d27 ⊢
  clear vs
  replace d0 : u0 = _ := d0
  subst d0
  replace d1 : u1 = _ := d1
  subst d1
  replace d2 : u2 = _ := d2
  subst d2
  replace d3 : u3 = _ := d3
  subst d3
  replace d4 : u4 = _ := d4
  subst d4
  replace d5 : u5 = _ := d5
  subst d5
  replace d6 : u6 = _ := d6
  subst d6
  replace d7 : u7 = _ := d7
  subst d7
  replace d8 : u8 = _ := d8
  subst d8
  replace d9 : u9 = _ := d9
  subst d9
  replace d10 : u10 = _ := d10
  subst d10
  replace d11 : u11 = _ := d11
  subst d11
  replace d12 : u12 = _ := d12
  subst d12
  replace d13 : u13 = _ := d13
  subst d13
  replace d14 : u14 = _ := d14
  subst d14
  replace d15 : u15 = _ := d15
  subst d15
  replace d16 : u16 = _ := d16
  subst d16
  replace d17 : u17 = _ := d17
  subst d17
  replace d18 : u18 = _ := d18
  subst d18
  replace d19 : u19 = _ := d19
  subst d19
  replace d20 : u20 = _ := d20
  subst d20
  replace d21 : u21 = _ := d21
  subst d21
  replace d22 : u22 = _ := d22
  subst d22
  replace d23 : u23 = _ := d23
  subst d23
  replace d24 : u24 = _ := d24
  subst d24
  replace d25 : u25 = _ := d25
  subst d25
  replace d26 : u26 = _ := d26
  subst d26
  replace d27 : u27 = _ := d27
  subst d27
  replace X0 := X0.below hJ
  replace X5 := X5.below hJ
  replace X6 := X6.below hJ
  replace X7 := X7.below hJ
  replace X9 := X9.below hJ
  replace hT := hT.below hJ
  replace h0 := h0.below hJ
  replace pa := pa.below hJ
  replace pb := pb.below hJ
  replace HB := Lib.hid (bt HB.out hJ)
  refine Jo.jdone (by kernel_rfl) ?_
  go_wp2
  go_ret
  exact ⟨rfl, HB.out⟩
set_option maxHeartbeats 8000000 in
theorem numTight_next (s0 : Bool) (a0 : Option Addr) (len0 cap0 : Nat) (e0 : Int) (w : World) (z x y : Int) (hT : Tab w) (h0 : Wr w s0 a0 len0 cap0 z) (hf : fewB len0 e0 = true) (ha : rnd false (mk z e0).1 (mk z e0).2 = x) (hb : rnd true (mk z e0).1 (mk z e0).2 = y)
    (x1 : -19342822337206103650074625 < x) (x2 : x < 19342822337206103650074625) (y1 : -19342822337206103650074625 < y) (y2 : y < 19342822337206103650074625) (hxy : y = x + 1) (hv : vr x < vl (mk z e0)) (hw : vl (mk z e0) < vr y) :
    Calls Tryd.prog 6 #[.agg #[.bool s0, .slice a0 len0 cap0, .int .i64 e0]] w (PB w true) := by
  obtain ⟨hn, _, _⟩ := fewB_true hf
  have hnx : nx true x = y := by
    have := TP_eq
    unfold nx
    rw [if_pos rfl]
    omega
  have HNX := Lib.hid hnx
  have HXY := Lib.hid (show x ≠ y by omega)
  clear hxy hnx
  have HF := Lib.hid hf
  have HA := Lib.hid ha
  have HB2 := Lib.hid hb
  have HC1 : Hid (cmpI (vr x) (vl (mk z e0)) = (-1)) := Lib.hid (cmpI_lt hv)
  have HC2 : Hid (cmpI (vr y) (vl (mk z e0)) = 1) := Lib.hid (cmpI_gt hw)
  clear hf ha hb hv hw
  go_enter Tryd.func6, Tryd.ntmps6
  go_upto_region 1 with (fail)
  have X0 := (Bo.newAt w (g := w.heap.size) (by simp) #[.bool s0, .slice a0 len0 cap0, .int .i64 e0] 26)
  have HB := Lib.hid (bel1 w (.cells #[.bool s0, .slice a0 len0 cap0, .int .i64 e0] 26))
  replace hT := hT.below HB.out
  replace h0 := h0.below HB.out
  generalize hW1 : (w.alloc (.cells #[.bool s0, .slice a0 len0 cap0, .int .i64 e0] 26)) = w1 at *
  clear hW1
  go_wp2_with fail
  refine (awake5 _ hT).mono ?_
  rintro ee w2 ⟨rfl, B⟩
  replace X0 := X0.below B
  replace hT := hT.below B
  replace h0 := h0.below B
  replace HB := Lib.hid (bt HB.out B)
  clear B
  have xX00 := X0.at (i := 0) (v := .bool s0) rfl
  have xX01 := X0.at (i := 1) (v := .slice a0 len0 cap0) rfl
  have xX02 := X0.at (i := 2) (v := .int .i64 e0) rfl
  go_wp2_with fail
  refine (few3E _ HF.out).mono ?_
  rintro ee w3 ⟨rfl, B⟩
  clear xX00 xX01 xX02
  replace X0 := X0.below B
  replace hT := hT.below B
  replace h0 := h0.below B
  replace HB := Lib.hid (bt HB.out B)
  clear B
  have xX00 := X0.at (i := 0) (v := .bool s0) rfl
  have xX01 := X0.at (i := 1) (v := .slice a0 len0 cap0) rfl
  have xX02 := X0.at (i := 2) (v := .int .i64 e0) rfl
  go_wp2_with fail
  refine (nRound (up := false) hT h0 (by omega) rfl rfl HA.out).mono ?_
  rintro ee w4 ⟨K1, s1, M1, E1, rfl, q1, B⟩
  clear xX00 xX01 xX02
  replace X0 := X0.below B
  replace hT := hT.below B
  replace h0 := h0.below B
  replace HB := Lib.hid (bt HB.out B)
  clear B
  go_upto_region 6 with (fail)
  have lX5 := Nat.le_refl (World.heap w4).size
  have nX5X0 := X0.lt
  replace X0 := X0.below (bel1 _ (.cells #[.int .i64 K1, .bool s1, .int .u64 M1, .int .i64 E1] 30))
  replace hT := hT.below (bel1 _ (.cells #[.int .i64 K1, .bool s1, .int .u64 M1, .int .i64 E1] 30))
  replace h0 := h0.below (bel1 _ (.cells #[.int .i64 K1, .bool s1, .int .u64 M1, .int .i64 E1] 30))
  replace HB := Lib.hid (bt HB.out (bel1 _ (.cells #[.int .i64 K1, .bool s1, .int .u64 M1, .int .i64 E1] 30)))
  have X5 := Bo.new w4 #[.int .i64 K1, .bool s1, .int .u64 M1, .int .i64 E1] 30
  generalize hWn : World.alloc w4 (.cells #[.int .i64 K1, .bool s1, .int .u64 M1, .int .i64 E1] 30) = w5 at *
  clear hWn
  clear lX5
  have xX00 := X0.at (i := 0) (v := .bool s0) rfl
  have xX01 := X0.at (i := 1) (v := .slice a0 len0 cap0) rfl
  have xX02 := X0.at (i := 2) (v := .int .i64 e0) rfl
  go_wp2_with fail
  refine (nRound (up := true) hT h0 (by omega) rfl rfl HB2.out).mono ?_
  rintro ee w6 ⟨K2, s2, M2, E2, rfl, q2, B⟩
  clear xX00 xX01 xX02
  replace X0 := X0.below B
  replace X5 := X5.below B
  replace hT := hT.below B
  replace h0 := h0.below B
  replace HB := Lib.hid (bt HB.out B)
  clear B
  go_upto_region 7 with (fail)
  have lX6 := Nat.le_refl (World.heap w6).size
  have nX6X0 := X0.lt
  have nX6X5 := X5.lt
  replace X0 := X0.below (bel1 _ (.cells #[.int .i64 K2, .bool s2, .int .u64 M2, .int .i64 E2] 30))
  replace X5 := X5.below (bel1 _ (.cells #[.int .i64 K2, .bool s2, .int .u64 M2, .int .i64 E2] 30))
  replace hT := hT.below (bel1 _ (.cells #[.int .i64 K2, .bool s2, .int .u64 M2, .int .i64 E2] 30))
  replace h0 := h0.below (bel1 _ (.cells #[.int .i64 K2, .bool s2, .int .u64 M2, .int .i64 E2] 30))
  replace HB := Lib.hid (bt HB.out (bel1 _ (.cells #[.int .i64 K2, .bool s2, .int .u64 M2, .int .i64 E2] 30)))
  have X6 := Bo.new w6 #[.int .i64 K2, .bool s2, .int .u64 M2, .int .i64 E2] 30
  generalize hWn : World.alloc w6 (.cells #[.int .i64 K2, .bool s2, .int .u64 M2, .int .i64 E2] 30) = w7 at *
  clear hWn
  clear lX6
  obtain ⟨g1, g2⟩ := exq_vl q1 x1 x2
  have HG1 := Lib.hid g1
  have w1M : 0 ≤ M1 := by rcases q1.cases with ⟨_, _, h, _⟩ | ⟨_, h, _⟩ | ⟨_, h, _⟩ <;> omega
  have HM1 : Hid (cmpI (vl (mk (exq K1 s1 M1 E1).1 (exq K1 s1 M1 E1).2)) (vl (mk z e0)) = (-1)) := Lib.hid (by rw [mk_exq, g2]; exact HC1.out)
  clear g1 g2
  obtain ⟨g1, g2⟩ := exq_vl q2 y1 y2
  have HG2 := Lib.hid g1
  have w2M : 0 ≤ M2 := by rcases q2.cases with ⟨_, _, h, _⟩ | ⟨_, h, _⟩ | ⟨_, h, _⟩ <;> omega
  have HM2 : Hid (cmpI (vl (mk (exq K2 s2 M2 E2).1 (exq K2 s2 M2 E2).2)) (vl (mk z e0)) = 1) := Lib.hid (by rw [mk_exq, g2]; exact HC2.out)
  clear g1 g2
  obtain ⟨N1, hN1⟩ : ∃ N, (exq K1 s1 M1 E1).1 = N := ⟨_, rfl⟩
  obtain ⟨F1, hF1⟩ : ∃ N, (exq K1 s1 M1 E1).2 = N := ⟨_, rfl⟩
  rw [hN1, hF1] at HM1
  have HN1 := Lib.hid hN1
  have HF1 := Lib.hid hF1
  clear hN1 hF1
  obtain ⟨N2, hN2⟩ : ∃ N, (exq K2 s2 M2 E2).1 = N := ⟨_, rfl⟩
  obtain ⟨F2, hF2⟩ : ∃ N, (exq K2 s2 M2 E2).2 = N := ⟨_, rfl⟩
  rw [hN2, hF2] at HM2
  have HN2 := Lib.hid hN2
  have HF2 := Lib.hid hF2
  clear hN2 hF2
  clear HC1 HC2
  have xX50 := X5.at (i := 0) (v := .int .i64 K1) rfl
  have xX51 := X5.at (i := 1) (v := .bool s1) rfl
  have xX52 := X5.at (i := 2) (v := .int .u64 M1) rfl
  have xX53 := X5.at (i := 3) (v := .int .i64 E1) rfl
  go_wp2_with fail
  refine (nExact hT w1M q1.top HG1.out HN1.out HF1.out).mono ?_
  rintro ee w8 ⟨sa, Aa, na, ca, rfl, pa, ka, B⟩
  clear xX50 xX51 xX52 xX53
  replace X0 := X0.below B
  replace X5 := X5.below B
  replace X6 := X6.below B
  replace hT := hT.below B
  replace h0 := h0.below B
  replace HB := Lib.hid (bt HB.out B)
  clear B
  go_upto_region 8 with (fail)
  have lX7 := Nat.le_refl (World.heap w8).size
  have nX7X0 := X0.lt
  have nX7X5 := X5.lt
  have nX7X6 := X6.lt
  replace X0 := X0.below (bel1 _ (.cells #[.bool sa, .slice Aa na ca, .int .i64 F1] 26))
  replace X5 := X5.below (bel1 _ (.cells #[.bool sa, .slice Aa na ca, .int .i64 F1] 26))
  replace X6 := X6.below (bel1 _ (.cells #[.bool sa, .slice Aa na ca, .int .i64 F1] 26))
  replace hT := hT.below (bel1 _ (.cells #[.bool sa, .slice Aa na ca, .int .i64 F1] 26))
  replace h0 := h0.below (bel1 _ (.cells #[.bool sa, .slice Aa na ca, .int .i64 F1] 26))
  replace pa := pa.below (bel1 _ (.cells #[.bool sa, .slice Aa na ca, .int .i64 F1] 26))
  replace HB := Lib.hid (bt HB.out (bel1 _ (.cells #[.bool sa, .slice Aa na ca, .int .i64 F1] 26)))
  have X7 := Bo.new w8 #[.bool sa, .slice Aa na ca, .int .i64 F1] 26
  generalize hWn : World.alloc w8 (.cells #[.bool sa, .slice Aa na ca, .int .i64 F1] 26) = w9 at *
  clear hWn
  clear lX7
  have xX60 := X6.at (i := 0) (v := .int .i64 K2) rfl
  have xX61 := X6.at (i := 1) (v := .bool s2) rfl
  have xX62 := X6.at (i := 2) (v := .int .u64 M2) rfl
  have xX63 := X6.at (i := 3) (v := .int .i64 E2) rfl
  go_wp2_with fail
  refine (nExact hT w2M q2.top HG2.out HN2.out HF2.out).mono ?_
  rintro ee w10 ⟨sb, Ab, nb, cb, rfl, pb, kb, B⟩
  clear xX60 xX61 xX62 xX63
  replace X0 := X0.below B
  replace X5 := X5.below B
  replace X6 := X6.below B
  replace X7 := X7.below B
  replace hT := hT.below B
  replace h0 := h0.below B
  replace pa := pa.below B
  replace HB := Lib.hid (bt HB.out B)
  clear B
  go_upto_region 9 with (fail)
  have lX9 := Nat.le_refl (World.heap w10).size
  have nX9X0 := X0.lt
  have nX9X5 := X5.lt
  have nX9X6 := X6.lt
  have nX9X7 := X7.lt
  replace X0 := X0.below (bel1 _ (.cells #[.bool sb, .slice Ab nb cb, .int .i64 F2] 26))
  replace X5 := X5.below (bel1 _ (.cells #[.bool sb, .slice Ab nb cb, .int .i64 F2] 26))
  replace X6 := X6.below (bel1 _ (.cells #[.bool sb, .slice Ab nb cb, .int .i64 F2] 26))
  replace X7 := X7.below (bel1 _ (.cells #[.bool sb, .slice Ab nb cb, .int .i64 F2] 26))
  replace hT := hT.below (bel1 _ (.cells #[.bool sb, .slice Ab nb cb, .int .i64 F2] 26))
  replace h0 := h0.below (bel1 _ (.cells #[.bool sb, .slice Ab nb cb, .int .i64 F2] 26))
  replace pa := pa.below (bel1 _ (.cells #[.bool sb, .slice Ab nb cb, .int .i64 F2] 26))
  replace pb := pb.below (bel1 _ (.cells #[.bool sb, .slice Ab nb cb, .int .i64 F2] 26))
  replace HB := Lib.hid (bt HB.out (bel1 _ (.cells #[.bool sb, .slice Ab nb cb, .int .i64 F2] 26)))
  have X9 := Bo.new w10 #[.bool sb, .slice Ab nb cb, .int .i64 F2] 26
  generalize hWn : World.alloc w10 (.cells #[.bool sb, .slice Ab nb cb, .int .i64 F2] 26) = w11 at *
  clear hWn
  clear lX9
  have xX70 := X7.at (i := 0) (v := .bool sa) rfl
  have xX71 := X7.at (i := 1) (v := .slice Aa na ca) rfl
  have xX72 := X7.at (i := 2) (v := .int .i64 F1) rfl
  have xX00 := X0.at (i := 0) (v := .bool s0) rfl
  have xX01 := X0.at (i := 1) (v := .slice a0 len0 cap0) rfl
  have xX02 := X0.at (i := 2) (v := .int .i64 e0) rfl
  go_wp2_with fail
  refine (dCmp hT pa.wr h0 (by omega) (by omega) HM1.out).mono ?_
  rintro ee w12 ⟨rfl, B⟩
  clear xX70 xX71 xX72 xX00 xX01 xX02
  replace X0 := X0.below B
  replace X5 := X5.below B
  replace X6 := X6.below B
  replace X7 := X7.below B
  replace X9 := X9.below B
  replace hT := hT.below B
  replace h0 := h0.below B
  replace pa := pa.below B
  replace pb := pb.below B
  replace HB := Lib.hid (bt HB.out B)
  clear B
  have xX90 := X9.at (i := 0) (v := .bool sb) rfl
  have xX91 := X9.at (i := 1) (v := .slice Ab nb cb) rfl
  have xX92 := X9.at (i := 2) (v := .int .i64 F2) rfl
  have xX00 := X0.at (i := 0) (v := .bool s0) rfl
  have xX01 := X0.at (i := 1) (v := .slice a0 len0 cap0) rfl
  have xX02 := X0.at (i := 2) (v := .int .i64 e0) rfl
  go_wp2_with fail
  refine (dCmp hT pb.wr h0 (by omega) (by omega) HM2.out).mono ?_
  rintro ee w13 ⟨rfl, B⟩
  clear xX90 xX91 xX92 xX00 xX01 xX02
  replace X0 := X0.below B
  replace X5 := X5.below B
  replace X6 := X6.below B
  replace X7 := X7.below B
  replace X9 := X9.below B
  replace hT := hT.below B
  replace h0 := h0.below B
  replace pa := pa.below B
  replace pb := pb.below B
  replace HB := Lib.hid (bt HB.out B)
  clear B
  go_upto_region 11 with (fail)
  refine Jo.region_joint (T := [0, 1, 2, 3, 4, 5, 6, 7, 8, 9, 10, 11, 12, 13, 14, 15, 16, 17, 18, 19, 20, 21, 22, 23, 24, 25, 26, 27]) (ds := [some 53, some 54, some 55, some 56, some 57, some 58, some 59, some 60, some 61, some 62, some 63, some 64, some 65, some 66, some 67, some 68, some 69, some 70, some 71, some 72, some 73, some 74, some 75, some 76, some 77, some 78, some 79, some 2]) (ls := [[], [], [0, 1], [2], [3], [3], [3, 4, 5], [3, 6], [3, 7], [8], [9], [9, 10], [9], [9, 11, 12], [9, 13], [14], [14], [14, 15, 16], [14, 17], [9, 14, 18], [9, 19], [20], [20], [20, 21, 22], [20, 23], [9, 20, 24], [9, 25], [26]]) (k := 28) (L := [(some 53, 0), (some 54, 1), (some 55, 2), (some 56, 3), (some 57, 4), (some 58, 5), (some 59, 6), (some 60, 7), (some 61, 8), (some 62, 9), (some 63, 10), (some 64, 11), (some 65, 12), (some 66, 13), (some 67, 14), (some 68, 15), (some 69, 16), (some 70, 17), (some 71, 18), (some 72, 19), (some 73, 20), (some 74, 21), (some 75, 22), (some 76, 23), (some 77, 24), (some 78, 25), (some 79, 26), (some 2, 27)]) (fuel := 0) (J := fun wj => Below (World.heap w13).size w13 wj)
    (F := [Jo.Fact.eq (.agg #[.int .i64 K1, .bool s1, .int .u64 M1, .int .i64 E1]), Jo.Fact.eq (.agg #[.int .i64 K2, .bool s2, .int .u64 M2, .int .i64 E2]), Jo.Fact.eq (.bool false), Jo.Fact.eq (.bool false), Jo.Fact.eq undef, Jo.Fact.eq undef, Jo.Fact.eq undef, Jo.Fact.eq undef, Jo.Fact.eq (.bool false), Jo.Fact.eq (.bool false), Jo.Fact.eq (.agg #[.int .i64 K1, .bool s1, .int .u64 M1, .int .i64 E1]), Jo.Fact.num y, Jo.Fact.eq (.agg #[.int .i64 K2, .bool s2, .int .u64 M2, .int .i64 E2]), Jo.Fact.eq (.bool true), Jo.Fact.eq (.bool true), Jo.Fact.eq (.agg #[.bool sa, .slice Aa na ca, .int .i64 F1]), Jo.Fact.eq (.agg #[.bool s0, .slice a0 len0 cap0, .int .i64 e0]), Jo.Fact.eq (.int .i64 (-1)), Jo.Fact.eq (.bool true), Jo.Fact.eq (.bool true), Jo.Fact.eq (.bool true), Jo.Fact.eq (.agg #[.bool sb, .slice Ab nb cb, .int .i64 F2]), Jo.Fact.eq (.agg #[.bool s0, .slice a0 len0 cap0, .int .i64 e0]), Jo.Fact.eq (.int .i64 1), Jo.Fact.eq (.bool true), Jo.Fact.eq (.bool true), Jo.Fact.eq (.bool true), Jo.Fact.eq (.bool true)])
    (by kernel_rfl) (by kernel_rfl) (by decide) rfl rfl (fun _ _ h b => bt h b) ((Below.refl _ _).drew) ?_ (fun vs w14 hJ hd => ?_)
  · refine Jo.jcons (i := 0) (o := ⟨some 53, _, _, _, _, _⟩) (di := some 53) (L := []) (f := Jo.Fact.eq (.agg #[.int .i64 K1, .bool s1, .int .u64 M1, .int .i64 E1])) rfl rfl rfl rfl (fun vs wj hJ hd K hK => ?_) ?_
    · clear hd
      simp only [Jo.putl, List.foldl_nil, Act.put, List.setIfInBounds_toArray, List.set_cons_zero, List.set_cons_succ] at hK ⊢
      have xX50 : World.cell? wj ⟨w4.heap.size, 0, none⟩ = some (.int .i64 K1) := (X5.below hJ).cell 0
      have xX51 : World.cell? wj ⟨w4.heap.size, 1, none⟩ = some (.bool s1) := (X5.below hJ).cell 1
      have xX52 : World.cell? wj ⟨w4.heap.size, 2, none⟩ = some (.int .u64 M1) := (X5.below hJ).cell 2
      have xX53 : World.cell? wj ⟨w4.heap.size, 3, none⟩ = some (.int .i64 E1) := (X5.below hJ).cell 3
      go_simp
      exact hK.out _ _ rfl (Below.refl _ _)
    refine Jo.jcons (i := 1) (o := ⟨some 54, _, _, _, _, _⟩) (di := some 54) (L := []) (f := Jo.Fact.eq (.agg #[.int .i64 K2, .bool s2, .int .u64 M2, .int .i64 E2])) rfl rfl rfl rfl (fun vs wj hJ hd K hK => ?_) ?_
    · clear hd
      simp only [Jo.putl, List.foldl_nil, Act.put, List.setIfInBounds_toArray, List.set_cons_zero, List.set_cons_succ] at hK ⊢
      have xX60 : World.cell? wj ⟨w6.heap.size, 0, none⟩ = some (.int .i64 K2) := (X6.below hJ).cell 0
      have xX61 : World.cell? wj ⟨w6.heap.size, 1, none⟩ = some (.bool s2) := (X6.below hJ).cell 1
      have xX62 : World.cell? wj ⟨w6.heap.size, 2, none⟩ = some (.int .u64 M2) := (X6.below hJ).cell 2
      have xX63 : World.cell? wj ⟨w6.heap.size, 3, none⟩ = some (.int .i64 E2) := (X6.below hJ).cell 3
      go_simp
      exact hK.out _ _ rfl (Below.refl _ _)
    refine Jo.jcons (i := 2) (o := ⟨some 55, _, _, _, _, _⟩) (di := some 55) (L := [(some 53, 0), (some 54, 1)]) (f := Jo.Fact.eq (.bool false)) rfl rfl rfl rfl (fun vs wj hJ hd K hK => ?_) ?_
    · have d0 : (Jo.Fact.eq (.agg #[.int .i64 K1, .bool s1, .int .u64 M1, .int .i64 E1])).P (vs 0) wj := hd 0 (by decide)
      have d1 : (Jo.Fact.eq (.agg #[.int .i64 K2, .bool s2, .int .u64 M2, .int .i64 E2])).P (vs 1) wj := hd 1 (by decide)
      clear hd
      simp only [Jo.putl, List.foldl_cons, List.foldl_nil, Act.put, List.setIfInBounds_toArray, List.set_cons_zero, List.set_cons_succ] at hK ⊢
      generalize vs 0 = u0 at hK d0 ⊢
      generalize vs 1 = u1 at hK d1 ⊢
      replace d0 : u0 = _ := d0
      subst d0
      replace d1 : u1 = _ := d1
      subst d1
      have hnn := fq_ne' q1 q2 HXY.out
      go_simp
      (repeat' split) <;> first | exact hK.out _ _ rfl (Below.refl _ _) | (exfalso; exact hnn (by assumption) (by assumption) (by assumption) (by assumption))
    refine Jo.jcons (i := 3) (o := ⟨some 56, _, _, _, _, _⟩) (di := some 56) (L := [(some 55, 2)]) (f := Jo.Fact.eq (.bool false)) rfl rfl rfl rfl (fun vs wj hJ hd K hK => ?_) ?_
    · have d2 : (Jo.Fact.eq (.bool false)).P (vs 2) wj := hd 2 (by decide)
      clear hd
      simp only [Jo.putl, List.foldl_cons, List.foldl_nil, Act.put, List.setIfInBounds_toArray, List.set_cons_zero, List.set_cons_succ] at hK ⊢
      generalize vs 2 = u2 at hK d2 ⊢
      replace d2 : u2 = _ := d2
      subst d2
      go_simp
      exact hK.out _ _ rfl (Below.refl _ _)
    refine Jo.jcons (i := 4) (o := ⟨some 57, _, _, _, _, _⟩) (di := some 57) (L := [(some 56, 3)]) (f := Jo.Fact.eq undef) rfl rfl rfl rfl (fun vs wj hJ hd K hK => ?_) ?_
    · have d3 : (Jo.Fact.eq (.bool false)).P (vs 3) wj := hd 3 (by decide)
      clear hd
      simp only [Jo.putl, List.foldl_cons, List.foldl_nil, Act.put, List.setIfInBounds_toArray, List.set_cons_zero, List.set_cons_succ] at hK ⊢
      generalize vs 3 = u3 at hK d3 ⊢
      replace d3 : u3 = _ := d3
      subst d3
      go_simp
      exact hK.out _ _ rfl (Below.refl _ _)
    refine Jo.jcons (i := 5) (o := ⟨some 58, _, _, _, _, _⟩) (di := some 58) (L := [(some 56, 3)]) (f := Jo.Fact.eq undef) rfl rfl rfl rfl (fun vs wj hJ hd K hK => ?_) ?_
    · have d3 : (Jo.Fact.eq (.bool false)).P (vs 3) wj := hd 3 (by decide)
      clear hd
      simp only [Jo.putl, List.foldl_cons, List.foldl_nil, Act.put, List.setIfInBounds_toArray, List.set_cons_zero, List.set_cons_succ] at hK ⊢
      generalize vs 3 = u3 at hK d3 ⊢
      replace d3 : u3 = _ := d3
      subst d3
      go_simp
      exact hK.out _ _ rfl (Below.refl _ _)
    refine Jo.jcons (i := 6) (o := ⟨some 59, _, _, _, _, _⟩) (di := some 59) (L := [(some 56, 3), (some 57, 4), (some 58, 5)]) (f := Jo.Fact.eq undef) rfl rfl rfl rfl (fun vs wj hJ hd K hK => ?_) ?_
    · have d3 : (Jo.Fact.eq (.bool false)).P (vs 3) wj := hd 3 (by decide)
      have d4 : (Jo.Fact.eq undef).P (vs 4) wj := hd 4 (by decide)
      have d5 : (Jo.Fact.eq undef).P (vs 5) wj := hd 5 (by decide)
      clear hd
      simp only [Jo.putl, List.foldl_cons, List.foldl_nil, Act.put, List.setIfInBounds_toArray, List.set_cons_zero, List.set_cons_succ] at hK ⊢
      generalize vs 3 = u3 at hK d3 ⊢
      generalize vs 4 = u4 at hK d4 ⊢
      generalize vs 5 = u5 at hK d5 ⊢
      replace d3 : u3 = _ := d3
      subst d3
      replace d4 : u4 = _ := d4
      subst d4
      replace d5 : u5 = _ := d5
      subst d5
      go_simp
      exact hK.out _ _ rfl (Below.refl _ _)
    refine Jo.jcons (i := 7) (o := ⟨some 60, _, _, _, _, _⟩) (di := some 60) (L := [(some 56, 3), (some 59, 6)]) (f := Jo.Fact.eq undef) rfl rfl rfl rfl (fun vs wj hJ hd K hK => ?_) ?_
    · have d3 : (Jo.Fact.eq (.bool false)).P (vs 3) wj := hd 3 (by decide)
      have d6 : (Jo.Fact.eq undef).P (vs 6) wj := hd 6 (by decide)
      clear hd
      simp only [Jo.putl, List.foldl_cons, List.foldl_nil, Act.put, List.setIfInBounds_toArray, List.set_cons_zero, List.set_cons_succ] at hK ⊢
      generalize vs 3 = u3 at hK d3 ⊢
      generalize vs 6 = u6 at hK d6 ⊢
      replace d3 : u3 = _ := d3
      subst d3
      replace d6 : u6 = _ := d6
      subst d6
      go_simp
      exact hK.out _ _ rfl (Below.refl _ _)
    refine Jo.jcons (i := 8) (o := ⟨some 61, _, _, _, _, _⟩) (di := some 61) (L := [(some 56, 3), (some 60, 7)]) (f := Jo.Fact.eq (.bool false)) rfl rfl rfl rfl (fun vs wj hJ hd K hK => ?_) ?_
    · have d3 : (Jo.Fact.eq (.bool false)).P (vs 3) wj := hd 3 (by decide)
      have d7 : (Jo.Fact.eq undef).P (vs 7) wj := hd 7 (by decide)
      clear hd
      simp only [Jo.putl, List.foldl_cons, List.foldl_nil, Act.put, List.setIfInBounds_toArray, List.set_cons_zero, List.set_cons_succ] at hK ⊢
      generalize vs 3 = u3 at hK d3 ⊢
      generalize vs 7 = u7 at hK d7 ⊢
      replace d3 : u3 = _ := d3
      subst d3
      replace d7 : u7 = _ := d7
      subst d7
      go_simp
      exact hK.out _ _ rfl (Below.refl _ _)
    refine Jo.jcons (i := 9) (o := ⟨some 62, _, _, _, _, _⟩) (di := some 62) (L := [(some 61, 8)]) (f := Jo.Fact.eq (.bool false)) rfl rfl rfl rfl (fun vs wj hJ hd K hK => ?_) ?_
    · have d8 : (Jo.Fact.eq (.bool false)).P (vs 8) wj := hd 8 (by decide)
      clear hd
      simp only [Jo.putl, List.foldl_cons, List.foldl_nil, Act.put, List.setIfInBounds_toArray, List.set_cons_zero, List.set_cons_succ] at hK ⊢
      generalize vs 8 = u8 at hK d8 ⊢
      replace d8 : u8 = _ := d8
      subst d8
      go_simp
      exact hK.out _ _ rfl (Below.refl _ _)
    refine Jo.jcons (i := 10) (o := ⟨some 63, _, _, _, _, _⟩) (di := some 63) (L := [(some 62, 9)]) (f := Jo.Fact.eq (.agg #[.int .i64 K1, .bool s1, .int .u64 M1, .int .i64 E1])) rfl rfl rfl rfl (fun vs wj hJ hd K hK => ?_) ?_
    · have d9 : (Jo.Fact.eq (.bool false)).P (vs 9) wj := hd 9 (by decide)
      clear hd
      simp only [Jo.putl, List.foldl_cons, List.foldl_nil, Act.put, List.setIfInBounds_toArray, List.set_cons_zero, List.set_cons_succ] at hK ⊢
      generalize vs 9 = u9 at hK d9 ⊢
      replace d9 : u9 = _ := d9
      subst d9
      have xX50 : World.cell? wj ⟨w4.heap.size, 0, none⟩ = some (.int .i64 K1) := (X5.below hJ).cell 0
      have xX51 : World.cell? wj ⟨w4.heap.size, 1, none⟩ = some (.bool s1) := (X5.below hJ).cell 1
      have xX52 : World.cell? wj ⟨w4.heap.size, 2, none⟩ = some (.int .u64 M1) := (X5.below hJ).cell 2
      have xX53 : World.cell? wj ⟨w4.heap.size, 3, none⟩ = some (.int .i64 E1) := (X5.below hJ).cell 3
      go_simp
      exact hK.out _ _ rfl (Below.refl _ _)
    refine Jo.jcons (i := 11) (o := ⟨some 64, _, _, _, _, _⟩) (di := some 64) (L := [(some 62, 9), (some 63, 10)]) (f := Jo.Fact.num y) rfl rfl rfl rfl (fun vs wj hJ hd K hK => ?_) ?_
    · have d9 : (Jo.Fact.eq (.bool false)).P (vs 9) wj := hd 9 (by decide)
      have d10 : (Jo.Fact.eq (.agg #[.int .i64 K1, .bool s1, .int .u64 M1, .int .i64 E1])).P (vs 10) wj := hd 10 (by decide)
      clear hd
      simp only [Jo.putl, List.foldl_cons, List.foldl_nil, Act.put, List.setIfInBounds_toArray, List.set_cons_zero, List.set_cons_succ] at hK ⊢
      generalize vs 9 = u9 at hK d9 ⊢
      generalize vs 10 = u10 at hK d10 ⊢
      replace d9 : u9 = _ := d9
      subst d9
      replace d10 : u10 = _ := d10
      subst d10
      go_simp
      refine (nNext (up := true) (r := y) q1.top (by rw [q1.rk]; exact HNX.out)).mono ?_
      rintro ee wk ⟨K3, s3, M3, E3, rfl, q3, B⟩
      exact hK.out _ _ ⟨K3, s3, M3, E3, rfl, q3⟩ B
    refine Jo.jcons (i := 12) (o := ⟨some 65, _, _, _, _, _⟩) (di := some 65) (L := [(some 62, 9)]) (f := Jo.Fact.eq (.agg #[.int .i64 K2, .bool s2, .int .u64 M2, .int .i64 E2])) rfl rfl rfl rfl (fun vs wj hJ hd K hK => ?_) ?_
    · have d9 : (Jo.Fact.eq (.bool false)).P (vs 9) wj := hd 9 (by decide)
      clear hd
      simp only [Jo.putl, List.foldl_cons, List.foldl_nil, Act.put, List.setIfInBounds_toArray, List.set_cons_zero, List.set_cons_succ] at hK ⊢
      generalize vs 9 = u9 at hK d9 ⊢
      replace d9 : u9 = _ := d9
      subst d9
      have xX60 : World.cell? wj ⟨w6.heap.size, 0, none⟩ = some (.int .i64 K2) := (X6.below hJ).cell 0
      have xX61 : World.cell? wj ⟨w6.heap.size, 1, none⟩ = some (.bool s2) := (X6.below hJ).cell 1
      have xX62 : World.cell? wj ⟨w6.heap.size, 2, none⟩ = some (.int .u64 M2) := (X6.below hJ).cell 2
      have xX63 : World.cell? wj ⟨w6.heap.size, 3, none⟩ = some (.int .i64 E2) := (X6.below hJ).cell 3
      go_simp
      exact hK.out _ _ rfl (Below.refl _ _)
    refine Jo.jcons (i := 13) (o := ⟨some 66, _, _, _, _, _⟩) (di := some 66) (L := [(some 62, 9), (some 64, 11), (some 65, 12)]) (f := Jo.Fact.eq (.bool true)) rfl rfl rfl rfl (fun vs wj hJ hd K hK => ?_) ?_
    · have d9 : (Jo.Fact.eq (.bool false)).P (vs 9) wj := hd 9 (by decide)
      have d11 : (Jo.Fact.num y).P (vs 11) wj := hd 11 (by decide)
      have d12 : (Jo.Fact.eq (.agg #[.int .i64 K2, .bool s2, .int .u64 M2, .int .i64 E2])).P (vs 12) wj := hd 12 (by decide)
      clear hd
      simp only [Jo.putl, List.foldl_cons, List.foldl_nil, Act.put, List.setIfInBounds_toArray, List.set_cons_zero, List.set_cons_succ] at hK ⊢
      generalize vs 9 = u9 at hK d9 ⊢
      generalize vs 11 = u11 at hK d11 ⊢
      generalize vs 12 = u12 at hK d12 ⊢
      replace d9 : u9 = _ := d9
      subst d9
      obtain ⟨K3, s3, M3, E3, rfl, q3⟩ := d11
      replace d12 : u12 = _ := d12
      subst d12
      obtain ⟨rfl, rfl, rfl, rfl⟩ := q3.uniq q2
      go_simp
      exact hK.out _ _ (by first | rfl | (show Value.bool _ = Value.bool _; simp)) (Below.refl _ _)
    refine Jo.jcons (i := 14) (o := ⟨some 67, _, _, _, _, _⟩) (di := some 67) (L := [(some 62, 9), (some 66, 13)]) (f := Jo.Fact.eq (.bool true)) rfl rfl rfl rfl (fun vs wj hJ hd K hK => ?_) ?_
    · have d9 : (Jo.Fact.eq (.bool false)).P (vs 9) wj := hd 9 (by decide)
      have d13 : (Jo.Fact.eq (.bool true)).P (vs 13) wj := hd 13 (by decide)
      clear hd
      simp only [Jo.putl, List.foldl_cons, List.foldl_nil, Act.put, List.setIfInBounds_toArray, List.set_cons_zero, List.set_cons_succ] at hK ⊢
      generalize vs 9 = u9 at hK d9 ⊢
      generalize vs 13 = u13 at hK d13 ⊢
      replace d9 : u9 = _ := d9
      subst d9
      replace d13 : u13 = _ := d13
      subst d13
      go_simp
      exact hK.out _ _ rfl (Below.refl _ _)
    refine Jo.jcons (i := 15) (o := ⟨some 68, _, _, _, _, _⟩) (di := some 68) (L := [(some 67, 14)]) (f := Jo.Fact.eq (.agg #[.bool sa, .slice Aa na ca, .int .i64 F1])) rfl rfl rfl rfl (fun vs wj hJ hd K hK => ?_) ?_
    · have d14 : (Jo.Fact.eq (.bool true)).P (vs 14) wj := hd 14 (by decide)
      clear hd
      simp only [Jo.putl, List.foldl_cons, List.foldl_nil, Act.put, List.setIfInBounds_toArray, List.set_cons_zero, List.set_cons_succ] at hK ⊢
      generalize vs 14 = u14 at hK d14 ⊢
      replace d14 : u14 = _ := d14
      subst d14
      have xX70 : World.cell? wj ⟨w8.heap.size, 0, none⟩ = some (.bool sa) := (X7.below hJ).cell 0
      have xX71 : World.cell? wj ⟨w8.heap.size, 1, none⟩ = some (.slice Aa na ca) := (X7.below hJ).cell 1
      have xX72 : World.cell? wj ⟨w8.heap.size, 2, none⟩ = some (.int .i64 F1) := (X7.below hJ).cell 2
      go_simp
      exact hK.out _ _ rfl (Below.refl _ _)
    refine Jo.jcons (i := 16) (o := ⟨some 69, _, _, _, _, _⟩) (di := some 69) (L := [(some 67, 14)]) (f := Jo.Fact.eq (.agg #[.bool s0, .slice a0 len0 cap0, .int .i64 e0])) rfl rfl rfl rfl (fun vs wj hJ hd K hK => ?_) ?_
    · have d14 : (Jo.Fact.eq (.bool true)).P (vs 14) wj := hd 14 (by decide)
      clear hd
      simp only [Jo.putl, List.foldl_cons, List.foldl_nil, Act.put, List.setIfInBounds_toArray, List.set_cons_zero, List.set_cons_succ] at hK ⊢
      generalize vs 14 = u14 at hK d14 ⊢
      replace d14 : u14 = _ := d14
      subst d14
      have xX00 : World.cell? wj ⟨w.heap.size, 0, none⟩ = some (.bool s0) := (X0.below hJ).cell 0
      have xX01 : World.cell? wj ⟨w.heap.size, 1, none⟩ = some (.slice a0 len0 cap0) := (X0.below hJ).cell 1
      have xX02 : World.cell? wj ⟨w.heap.size, 2, none⟩ = some (.int .i64 e0) := (X0.below hJ).cell 2
      go_simp
      exact hK.out _ _ rfl (Below.refl _ _)
    refine Jo.jcons (i := 17) (o := ⟨some 70, _, _, _, _, _⟩) (di := some 70) (L := [(some 67, 14), (some 68, 15), (some 69, 16)]) (f := Jo.Fact.eq (.int .i64 (-1))) rfl rfl rfl rfl (fun vs wj hJ hd K hK => ?_) ?_
    · have d14 : (Jo.Fact.eq (.bool true)).P (vs 14) wj := hd 14 (by decide)
      have d15 : (Jo.Fact.eq (.agg #[.bool sa, .slice Aa na ca, .int .i64 F1])).P (vs 15) wj := hd 15 (by decide)
      have d16 : (Jo.Fact.eq (.agg #[.bool s0, .slice a0 len0 cap0, .int .i64 e0])).P (vs 16) wj := hd 16 (by decide)
      clear hd
      simp only [Jo.putl, List.foldl_cons, List.foldl_nil, Act.put, List.setIfInBounds_toArray, List.set_cons_zero, List.set_cons_succ] at hK ⊢
      generalize vs 14 = u14 at hK d14 ⊢
      generalize vs 15 = u15 at hK d15 ⊢
      generalize vs 16 = u16 at hK d16 ⊢
      replace d14 : u14 = _ := d14
      subst d14
      replace d15 : u15 = _ := d15
      subst d15
      replace d16 : u16 = _ := d16
      subst d16
      go_simp
      refine (dCmp (hT.below hJ) (pa.wr.below hJ) (h0.below hJ) (by omega) (by omega) HM1.out).mono ?_
      rintro ee wk ⟨rfl, B⟩
      exact hK.out _ _ rfl B
    refine Jo.jcons (i := 18) (o := ⟨some 71, _, _, _, _, _⟩) (di := some 71) (L := [(some 67, 14), (some 70, 17)]) (f := Jo.Fact.eq (.bool true)) rfl rfl rfl rfl (fun vs wj hJ hd K hK => ?_) ?_
    · have d14 : (Jo.Fact.eq (.bool true)).P (vs 14) wj := hd 14 (by decide)
      have d17 : (Jo.Fact.eq (.int .i64 (-1))).P (vs 17) wj := hd 17 (by decide)
      clear hd
      simp only [Jo.putl, List.foldl_cons, List.foldl_nil, Act.put, List.setIfInBounds_toArray, List.set_cons_zero, List.set_cons_succ] at hK ⊢
      generalize vs 14 = u14 at hK d14 ⊢
      generalize vs 17 = u17 at hK d17 ⊢
      replace d14 : u14 = _ := d14
      subst d14
      replace d17 : u17 = _ := d17
      subst d17
      go_simp
      exact hK.out _ _ (by first | rfl | simp) (Below.refl _ _)
    refine Jo.jcons (i := 19) (o := ⟨some 72, _, _, _, _, _⟩) (di := some 72) (L := [(some 62, 9), (some 67, 14), (some 71, 18)]) (f := Jo.Fact.eq (.bool true)) rfl rfl rfl rfl (fun vs wj hJ hd K hK => ?_) ?_
    · have d9 : (Jo.Fact.eq (.bool false)).P (vs 9) wj := hd 9 (by decide)
      have d14 : (Jo.Fact.eq (.bool true)).P (vs 14) wj := hd 14 (by decide)
      have d18 : (Jo.Fact.eq (.bool true)).P (vs 18) wj := hd 18 (by decide)
      clear hd
      simp only [Jo.putl, List.foldl_cons, List.foldl_nil, Act.put, List.setIfInBounds_toArray, List.set_cons_zero, List.set_cons_succ] at hK ⊢
      generalize vs 9 = u9 at hK d9 ⊢
      generalize vs 14 = u14 at hK d14 ⊢
      generalize vs 18 = u18 at hK d18 ⊢
      replace d9 : u9 = _ := d9
      subst d9
      replace d14 : u14 = _ := d14
      subst d14
      replace d18 : u18 = _ := d18
      subst d18
      go_simp
      exact hK.out _ _ rfl (Below.refl _ _)
    refine Jo.jcons (i := 20) (o := ⟨some 73, _, _, _, _, _⟩) (di := some 73) (L := [(some 62, 9), (some 72, 19)]) (f := Jo.Fact.eq (.bool true)) rfl rfl rfl rfl (fun vs wj hJ hd K hK => ?_) ?_
    · have d9 : (Jo.Fact.eq (.bool false)).P (vs 9) wj := hd 9 (by decide)
      have d19 : (Jo.Fact.eq (.bool true)).P (vs 19) wj := hd 19 (by decide)
      clear hd
      simp only [Jo.putl, List.foldl_cons, List.foldl_nil, Act.put, List.setIfInBounds_toArray, List.set_cons_zero, List.set_cons_succ] at hK ⊢
      generalize vs 9 = u9 at hK d9 ⊢
      generalize vs 19 = u19 at hK d19 ⊢
      replace d9 : u9 = _ := d9
      subst d9
      replace d19 : u19 = _ := d19
      subst d19
      go_simp
      exact hK.out _ _ rfl (Below.refl _ _)
    refine Jo.jcons (i := 21) (o := ⟨some 74, _, _, _, _, _⟩) (di := some 74) (L := [(some 73, 20)]) (f := Jo.Fact.eq (.agg #[.bool sb, .slice Ab nb cb, .int .i64 F2])) rfl rfl rfl rfl (fun vs wj hJ hd K hK => ?_) ?_
    · have d20 : (Jo.Fact.eq (.bool true)).P (vs 20) wj := hd 20 (by decide)
      clear hd
      simp only [Jo.putl, List.foldl_cons, List.foldl_nil, Act.put, List.setIfInBounds_toArray, List.set_cons_zero, List.set_cons_succ] at hK ⊢
      generalize vs 20 = u20 at hK d20 ⊢
      replace d20 : u20 = _ := d20
      subst d20
      have xX90 : World.cell? wj ⟨w10.heap.size, 0, none⟩ = some (.bool sb) := (X9.below hJ).cell 0
      have xX91 : World.cell? wj ⟨w10.heap.size, 1, none⟩ = some (.slice Ab nb cb) := (X9.below hJ).cell 1
      have xX92 : World.cell? wj ⟨w10.heap.size, 2, none⟩ = some (.int .i64 F2) := (X9.below hJ).cell 2
      go_simp
      exact hK.out _ _ rfl (Below.refl _ _)
    refine Jo.jcons (i := 22) (o := ⟨some 75, _, _, _, _, _⟩) (di := some 75) (L := [(some 73, 20)]) (f := Jo.Fact.eq (.agg #[.bool s0, .slice a0 len0 cap0, .int .i64 e0])) rfl rfl rfl rfl (fun vs wj hJ hd K hK => ?_) ?_
    · have d20 : (Jo.Fact.eq (.bool true)).P (vs 20) wj := hd 20 (by decide)
      clear hd
      simp only [Jo.putl, List.foldl_cons, List.foldl_nil, Act.put, List.setIfInBounds_toArray, List.set_cons_zero, List.set_cons_succ] at hK ⊢
      generalize vs 20 = u20 at hK d20 ⊢
      replace d20 : u20 = _ := d20
      subst d20
      have xX00 : World.cell? wj ⟨w.heap.size, 0, none⟩ = some (.bool s0) := (X0.below hJ).cell 0
      have xX01 : World.cell? wj ⟨w.heap.size, 1, none⟩ = some (.slice a0 len0 cap0) := (X0.below hJ).cell 1
      have xX02 : World.cell? wj ⟨w.heap.size, 2, none⟩ = some (.int .i64 e0) := (X0.below hJ).cell 2
      go_simp
      exact hK.out _ _ rfl (Below.refl _ _)
    refine Jo.jcons (i := 23) (o := ⟨some 76, _, _, _, _, _⟩) (di := some 76) (L := [(some 73, 20), (some 74, 21), (some 75, 22)]) (f := Jo.Fact.eq (.int .i64 1)) rfl rfl rfl rfl (fun vs wj hJ hd K hK => ?_) ?_
    · have d20 : (Jo.Fact.eq (.bool true)).P (vs 20) wj := hd 20 (by decide)
      have d21 : (Jo.Fact.eq (.agg #[.bool sb, .slice Ab nb cb, .int .i64 F2])).P (vs 21) wj := hd 21 (by decide)
      have d22 : (Jo.Fact.eq (.agg #[.bool s0, .slice a0 len0 cap0, .int .i64 e0])).P (vs 22) wj := hd 22 (by decide)
      clear hd
      simp only [Jo.putl, List.foldl_cons, List.foldl_nil, Act.put, List.setIfInBounds_toArray, List.set_cons_zero, List.set_cons_succ] at hK ⊢
      generalize vs 20 = u20 at hK d20 ⊢
      generalize vs 21 = u21 at hK d21 ⊢
      generalize vs 22 = u22 at hK d22 ⊢
      replace d20 : u20 = _ := d20
      subst d20
      replace d21 : u21 = _ := d21
      subst d21
      replace d22 : u22 = _ := d22
      subst d22
      go_simp
      refine (dCmp (hT.below hJ) (pb.wr.below hJ) (h0.below hJ) (by omega) (by omega) HM2.out).mono ?_
      rintro ee wk ⟨rfl, B⟩
      exact hK.out _ _ rfl B
    refine Jo.jcons (i := 24) (o := ⟨some 77, _, _, _, _, _⟩) (di := some 77) (L := [(some 73, 20), (some 76, 23)]) (f := Jo.Fact.eq (.bool true)) rfl rfl rfl rfl (fun vs wj hJ hd K hK => ?_) ?_
    · have d20 : (Jo.Fact.eq (.bool true)).P (vs 20) wj := hd 20 (by decide)
      have d23 : (Jo.Fact.eq (.int .i64 1)).P (vs 23) wj := hd 23 (by decide)
      clear hd
      simp only [Jo.putl, List.foldl_cons, List.foldl_nil, Act.put, List.setIfInBounds_toArray, List.set_cons_zero, List.set_cons_succ] at hK ⊢
      generalize vs 20 = u20 at hK d20 ⊢
      generalize vs 23 = u23 at hK d23 ⊢
      replace d20 : u20 = _ := d20
      subst d20
      replace d23 : u23 = _ := d23
      subst d23
      go_simp
      exact hK.out _ _ (by first | rfl | simp) (Below.refl _ _)
    refine Jo.jcons (i := 25) (o := ⟨some 78, _, _, _, _, _⟩) (di := some 78) (L := [(some 62, 9), (some 73, 20), (some 77, 24)]) (f := Jo.Fact.eq (.bool true)) rfl rfl rfl rfl (fun vs wj hJ hd K hK => ?_) ?_
    · have d9 : (Jo.Fact.eq (.bool false)).P (vs 9) wj := hd 9 (by decide)
      have d20 : (Jo.Fact.eq (.bool true)).P (vs 20) wj := hd 20 (by decide)
      have d24 : (Jo.Fact.eq (.bool true)).P (vs 24) wj := hd 24 (by decide)
      clear hd
      simp only [Jo.putl, List.foldl_cons, List.foldl_nil, Act.put, List.setIfInBounds_toArray, List.set_cons_zero, List.set_cons_succ] at hK ⊢
      generalize vs 9 = u9 at hK d9 ⊢
      generalize vs 20 = u20 at hK d20 ⊢
      generalize vs 24 = u24 at hK d24 ⊢
      replace d9 : u9 = _ := d9
      subst d9
      replace d20 : u20 = _ := d20
      subst d20
      replace d24 : u24 = _ := d24
      subst d24
      go_simp
      exact hK.out _ _ rfl (Below.refl _ _)
    refine Jo.jcons (i := 26) (o := ⟨some 79, _, _, _, _, _⟩) (di := some 79) (L := [(some 62, 9), (some 78, 25)]) (f := Jo.Fact.eq (.bool true)) rfl rfl rfl rfl (fun vs wj hJ hd K hK => ?_) ?_
    · have d9 : (Jo.Fact.eq (.bool false)).P (vs 9) wj := hd 9 (by decide)
      have d25 : (Jo.Fact.eq (.bool true)).P (vs 25) wj := hd 25 (by decide)
      clear hd
      simp only [Jo.putl, List.foldl_cons, List.foldl_nil, Act.put, List.setIfInBounds_toArray, List.set_cons_zero, List.set_cons_succ] at hK ⊢
      generalize vs 9 = u9 at hK d9 ⊢
      generalize vs 25 = u25 at hK d25 ⊢
      replace d9 : u9 = _ := d9
      subst d9
      replace d25 : u25 = _ := d25
      subst d25
      go_simp
      exact hK.out _ _ rfl (Below.refl _ _)
    refine Jo.jcons (i := 27) (o := ⟨some 2, _, _, _, _, _⟩) (di := some 2) (L := [(some 79, 26)]) (f := Jo.Fact.eq (.bool true)) rfl rfl rfl rfl (fun vs wj hJ hd K hK => ?_) ?_
    · have d26 : (Jo.Fact.eq (.bool true)).P (vs 26) wj := hd 26 (by decide)
      clear hd
      simp only [Jo.putl, List.foldl_cons, List.foldl_nil, Act.put, List.setIfInBounds_toArray, List.set_cons_zero, List.set_cons_succ] at hK ⊢
      generalize vs 26 = u26 at hK d26 ⊢
      replace d26 : u26 = _ := d26
      subst d26
      go_simp
      exact hK.out _ _ rfl (Below.refl _ _)
    exact Jo.Steps.nil
  have d0 : (Jo.Fact.eq (.agg #[.int .i64 K1, .bool s1, .int .u64 M1, .int .i64 E1])).P (vs 0) w14 := hd 0 (by decide)
  have d1 : (Jo.Fact.eq (.agg #[.int .i64 K2, .bool s2, .int .u64 M2, .int .i64 E2])).P (vs 1) w14 := hd 1 (by decide)
  have d2 : (Jo.Fact.eq (.bool false)).P (vs 2) w14 := hd 2 (by decide)
  have d3 : (Jo.Fact.eq (.bool false)).P (vs 3) w14 := hd 3 (by decide)
  have d4 : (Jo.Fact.eq undef).P (vs 4) w14 := hd 4 (by decide)
  have d5 : (Jo.Fact.eq undef).P (vs 5) w14 := hd 5 (by decide)
  have d6 : (Jo.Fact.eq undef).P (vs 6) w14 := hd 6 (by decide)
  have d7 : (Jo.Fact.eq undef).P (vs 7) w14 := hd 7 (by decide)
  have d8 : (Jo.Fact.eq (.bool false)).P (vs 8) w14 := hd 8 (by decide)
  have d9 : (Jo.Fact.eq (.bool false)).P (vs 9) w14 := hd 9 (by decide)
  have d10 : (Jo.Fact.eq (.agg #[.int .i64 K1, .bool s1, .int .u64 M1, .int .i64 E1])).P (vs 10) w14 := hd 10 (by decide)
  have d11 : (Jo.Fact.num y).P (vs 11) w14 := hd 11 (by decide)
  have d12 : (Jo.Fact.eq (.agg #[.int .i64 K2, .bool s2, .int .u64 M2, .int .i64 E2])).P (vs 12) w14 := hd 12 (by decide)
  have d13 : (Jo.Fact.eq (.bool true)).P (vs 13) w14 := hd 13 (by decide)
  have d14 : (Jo.Fact.eq (.bool true)).P (vs 14) w14 := hd 14 (by decide)
  have d15 : (Jo.Fact.eq (.agg #[.bool sa, .slice Aa na ca, .int .i64 F1])).P (vs 15) w14 := hd 15 (by decide)
  have d16 : (Jo.Fact.eq (.agg #[.bool s0, .slice a0 len0 cap0, .int .i64 e0])).P (vs 16) w14 := hd 16 (by decide)
  have d17 : (Jo.Fact.eq (.int .i64 (-1))).P (vs 17) w14 := hd 17 (by decide)
  have d18 : (Jo.Fact.eq (.bool true)).P (vs 18) w14 := hd 18 (by decide)
  have d19 : (Jo.Fact.eq (.bool true)).P (vs 19) w14 := hd 19 (by decide)
  have d20 : (Jo.Fact.eq (.bool true)).P (vs 20) w14 := hd 20 (by decide)
  have d21 : (Jo.Fact.eq (.agg #[.bool sb, .slice Ab nb cb, .int .i64 F2])).P (vs 21) w14 := hd 21 (by decide)
  have d22 : (Jo.Fact.eq (.agg #[.bool s0, .slice a0 len0 cap0, .int .i64 e0])).P (vs 22) w14 := hd 22 (by decide)
  have d23 : (Jo.Fact.eq (.int .i64 1)).P (vs 23) w14 := hd 23 (by decide)
  have d24 : (Jo.Fact.eq (.bool true)).P (vs 24) w14 := hd 24 (by decide)
  have d25 : (Jo.Fact.eq (.bool true)).P (vs 25) w14 := hd 25 (by decide)
  have d26 : (Jo.Fact.eq (.bool true)).P (vs 26) w14 := hd 26 (by decide)
  have d27 : (Jo.Fact.eq (.bool true)).P (vs 27) w14 := hd 27 (by decide)
  clear hd
  simp only [Jo.putl, List.foldl_cons, List.foldl_nil, Act.put, List.setIfInBounds_toArray, List.set_cons_zero, List.set_cons_succ]
  generalize vs 0 = u0 at d0 ⊢
  generalize vs 1 = u1 at d1 ⊢
  generalize vs 2 = u2 at d2 ⊢
  generalize vs 3 = u3 at d3 ⊢
  generalize vs 4 = u4 at d4 ⊢
  generalize vs 5 = u5 at d5 ⊢
  generalize vs 6 = u6 at d6 ⊢
  generalize vs 7 = u7 at d7 ⊢
  generalize vs 8 = u8 at d8 ⊢
  generalize vs 9 = u9 at d9 ⊢
  generalize vs 10 = u10 at d10 ⊢
  generalize vs 11 = u11 at d11 ⊢
  generalize vs 12 = u12 at d12 ⊢
  generalize vs 13 = u13 at d13 ⊢
  generalize vs 14 = u14 at d14 ⊢
  generalize vs 15 = u15 at d15 ⊢
  generalize vs 16 = u16 at d16 ⊢
  generalize vs 17 = u17 at d17 ⊢
  generalize vs 18 = u18 at d18 ⊢
  generalize vs 19 = u19 at d19 ⊢
  generalize vs 20 = u20 at d20 ⊢
  generalize vs 21 = u21 at d21 ⊢
  generalize vs 22 = u22 at d22 ⊢
  generalize vs 23 = u23 at d23 ⊢
  generalize vs 24 = u24 at d24 ⊢
  generalize vs 25 = u25 at d25 ⊢
  generalize vs 26 = u26 at d26 ⊢
  generalize vs 27 = u27 at d27 ⊢
  clear vs
  replace d0 : u0 = _ := d0
  subst d0
  replace d1 : u1 = _ := d1
  subst d1
  replace d2 : u2 = _ := d2
  subst d2
  replace d3 : u3 = _ := d3
  subst d3
  replace d4 : u4 = _ := d4
  subst d4
  replace d5 : u5 = _ := d5
  subst d5
  replace d6 : u6 = _ := d6
  subst d6
  replace d7 : u7 = _ := d7
  subst d7
  replace d8 : u8 = _ := d8
  subst d8
  replace d9 : u9 = _ := d9
  subst d9
  replace d10 : u10 = _ := d10
  subst d10
  obtain ⟨K3, s3, M3, E3, rfl, _⟩ := d11
  replace d12 : u12 = _ := d12
  subst d12
  replace d13 : u13 = _ := d13
  subst d13
  replace d14 : u14 = _ := d14
  subst d14
  replace d15 : u15 = _ := d15
  subst d15
  replace d16 : u16 = _ := d16
  subst d16
  replace d17 : u17 = _ := d17
  subst d17
  replace d18 : u18 = _ := d18
  subst d18
  replace d19 : u19 = _ := d19
  subst d19
  replace d20 : u20 = _ := d20
  subst d20
  replace d21 : u21 = _ := d21
  subst d21
  replace d22 : u22 = _ := d22
  subst d22
  replace d23 : u23 = _ := d23
  subst d23
  replace d24 : u24 = _ := d24
  subst d24
  replace d25 : u25 = _ := d25
  subst d25
  replace d26 : u26 = _ := d26
  subst d26
  replace d27 : u27 = _ := d27
  subst d27
  replace X0 := X0.below hJ
  replace X5 := X5.below hJ
  replace X6 := X6.below hJ
  replace X7 := X7.below hJ
  replace X9 := X9.below hJ
  replace hT := hT.below hJ
  replace h0 := h0.below hJ
  replace pa := pa.below hJ
  replace pb := pb.below hJ
  replace HB := Lib.hid (bt HB.out hJ)
  refine Jo.jdone (by kernel_rfl) ?_
  go_wp2
  go_ret
  exact ⟨rfl, HB.out⟩

theorem numTight_walk (s0 : Bool) (a0 : Option Addr) (len0 cap0 : Nat) (y0 : List Int) (e0 : Int) (w : World) (hT : Tab w) (w0 : RowIn w a0 len0 cap0 y0) :
    Calls Tryd.prog 6 #[.agg #[.bool s0, .slice a0 len0 cap0, .int .i64 e0]] w fun e w' => e = .returned (.bool true) ∧ Below w.heap.size w w' := by
  cases hf : fewB len0 e0
  · exact numTight_far s0 a0 len0 cap0 e0 w hT hf
  · obtain ⟨hn, f1, f2⟩ := fewB_true hf
    obtain ⟨u, r0⟩ := w0.rd (by omega)
    obtain ⟨η, hη, fP⟩ := raw_fit' (r0.wr s0) hf
    subst hη
    obtain ⟨x, y, ha, hb, x1, x2, y1, y2, ⟨hxy, hv⟩ | ⟨hxy, hv, hw⟩⟩ := rnd_tight fP
    · exact numTight_same s0 a0 len0 cap0 e0 w _ x y hT (r0.wr s0) hf ha hb x1 x2 y1 y2 hxy hv
    · exact numTight_next s0 a0 len0 cap0 e0 w _ x y hT (r0.wr s0) hf ha hb x1 x2 y1 y2 hxy hv hw
end Go.Proofs.YthibemmhgdbiiaaDoor

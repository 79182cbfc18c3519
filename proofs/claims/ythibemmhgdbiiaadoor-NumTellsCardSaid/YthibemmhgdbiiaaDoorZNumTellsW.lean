/-
  The walk of NumTells: for all arguments, where the table lies as it was laid, the call answers true, and nothing that was there has turned.
-/
import Derived.Test.YthibemmhgdbiiaaDoorZay
import Derived.Test.YthibemmhgdbiiaaDoorZba
namespace Go.Proofs.YthibemmhgdbiiaaDoor
open Go.RowKit
set_option linter.unusedVariables false
set_option linter.unusedSimpArgs false
set_option maxRecDepth 100000

set_option maxHeartbeats 8000000 in
theorem numTells_walk (D0 : Int) (s0 : Bool) (M0 E0 : Int) (D1 : Int) (s1 : Bool) (M1 E1 : Int) (b2 : Bool) (w : World) (hT : Tab w) (w0 : 0 ≤ M0) (u0 : M0 < 18446744073709551616) (w1 : 0 ≤ M1) (u1 : M1 < 18446744073709551616)  :
    Calls Tryd.prog 4 #[.agg #[.int .i64 D0, .bool s0, .int .u64 M0, .int .i64 E0], .agg #[.int .i64 D1, .bool s1, .int .u64 M1, .int .i64 E1], .bool b2] w fun e w' => e = .returned (.bool true) ∧ Below w.heap.size w w' := by
  obtain ⟨t, ht⟩ : ∃ t, exb D0 s0 M0 E0 = t := ⟨_, rfl⟩
  obtain ⟨N, hN⟩ : ∃ N, (exq D0 s0 M0 E0).1 = N := ⟨_, rfl⟩
  obtain ⟨F, hF⟩ : ∃ F, (exq D0 s0 M0 E0).2 = F := ⟨_, rfl⟩
  obtain ⟨m, hm⟩ : ∃ m, decide (MayQ D0 s0 M0 E0) = m := ⟨_, rfl⟩
  obtain ⟨x, hx⟩ : ∃ x, rk D0 s0 M0 E0 = x := ⟨_, rfl⟩
  obtain ⟨σ, hσ⟩ : ∃ σ, cmpI (rk D0 s0 M0 E0) 0 = σ := ⟨_, rfl⟩
  obtain ⟨τ, hτ⟩ : ∃ τ, cmpI (rk D0 s0 M0 E0) (rk D1 s1 M1 E1) = τ := ⟨_, rfl⟩
  have HT := Lib.hid ht
  have HN := Lib.hid hN
  have HF := Lib.hid hF
  have HM := Lib.hid hm
  have HX := Lib.hid hx
  have HS := Lib.hid hσ
  have HC := Lib.hid hτ
  clear ht hN hF hm hx hσ hτ
  go_enter Tryd.func4, Tryd.ntmps4
  go_upto_region 1 with (fail)
  have X0 := (Bo.newAt w (g := w.heap.size) (by simp) #[.int .i64 D0, .bool s0, .int .u64 M0, .int .i64 E0] 30).below (bel1 _ (.cells #[.int .i64 D1, .bool s1, .int .u64 M1, .int .i64 E1] 30))
  have X1 := (Bo.newAt (w.alloc (.cells #[.int .i64 D0, .bool s0, .int .u64 M0, .int .i64 E0] 30)) (g := w.heap.size + 1) (by simp) #[.int .i64 D1, .bool s1, .int .u64 M1, .int .i64 E1] 30)
  have HB := Lib.hid (bel2 w (.cells #[.int .i64 D0, .bool s0, .int .u64 M0, .int .i64 E0] 30) (.cells #[.int .i64 D1, .bool s1, .int .u64 M1, .int .i64 E1] 30))
  replace hT := hT.below HB.out
  generalize hW1 : ((w.alloc (.cells #[.int .i64 D0, .bool s0, .int .u64 M0, .int .i64 E0] 30)).alloc (.cells #[.int .i64 D1, .bool s1, .int .u64 M1, .int .i64 E1] 30)) = w1 at *
  clear hW1
  go_wp2_with fail
  refine (awake5 _ hT).mono ?_
  rintro ee w2 ⟨rfl, B⟩
  replace X0 := X0.below B
  replace X1 := X1.below B
  replace hT := hT.below B
  replace HB := Lib.hid (bt HB.out B)
  clear B
  have xX00 := X0.at (i := 0) (v := .int .i64 D0) rfl
  have xX01 := X0.at (i := 1) (v := .bool s0) rfl
  have xX02 := X0.at (i := 2) (v := .int .u64 M0) rfl
  have xX03 := X0.at (i := 3) (v := .int .i64 E0) rfl
  go_wp2_with fail
  refine (nExact hT w0 u0 HT.out HN.out HF.out).mono ?_
  rintro ee w3 ⟨sa, Aa, na, ca, rfl, pa, ka, B⟩
  clear xX00 xX01 xX02 xX03
  replace X0 := X0.below B
  replace X1 := X1.below B
  replace hT := hT.below B
  replace HB := Lib.hid (bt HB.out B)
  clear B
  go_upto_region 3 with (fail)
  have lX8 := Nat.le_refl (World.heap w3).size
  have nX8X0 := X0.lt
  have nX8X1 := X1.lt
  replace X0 := X0.below (bel1 _ (.cells #[.bool sa, .slice Aa na ca, .int .i64 F] 26))
  replace X1 := X1.below (bel1 _ (.cells #[.bool sa, .slice Aa na ca, .int .i64 F] 26))
  replace hT := hT.below (bel1 _ (.cells #[.bool sa, .slice Aa na ca, .int .i64 F] 26))
  replace pa := pa.below (bel1 _ (.cells #[.bool sa, .slice Aa na ca, .int .i64 F] 26))
  replace HB := Lib.hid (bt HB.out (bel1 _ (.cells #[.bool sa, .slice Aa na ca, .int .i64 F] 26)))
  have X8 := Bo.new w3 #[.bool sa, .slice Aa na ca, .int .i64 F] 26
  generalize hWn : World.alloc w3 (.cells #[.bool sa, .slice Aa na ca, .int .i64 F] 26) = w4 at *
  clear hWn
  clear lX8
  have xX00 := X0.at (i := 0) (v := .int .i64 D0) rfl
  have xX01 := X0.at (i := 1) (v := .bool s0) rfl
  have xX02 := X0.at (i := 2) (v := .int .u64 M0) rfl
  have xX03 := X0.at (i := 3) (v := .int .i64 E0) rfl
  go_wp2_with fail
  refine (yExact hT w0 u0 HT.out HN.out HF.out).mono ?_
  rintro ee w5 ⟨sb, Ab, nb, cb, rfl, pb, kb, B⟩
  clear xX00 xX01 xX02 xX03
  replace X0 := X0.below B
  replace X1 := X1.below B
  replace X8 := X8.below B
  replace hT := hT.below B
  replace pa := pa.below B
  replace HB := Lib.hid (bt HB.out B)
  clear B
  go_upto_region 4 with (fail)
  have lX10 := Nat.le_refl (World.heap w5).size
  have nX10X0 := X0.lt
  have nX10X1 := X1.lt
  have nX10X8 := X8.lt
  replace X0 := X0.below (bel1 _ (.cells #[.bool sb, .slice Ab nb cb, .int .i64 F] 26))
  replace X1 := X1.below (bel1 _ (.cells #[.bool sb, .slice Ab nb cb, .int .i64 F] 26))
  replace X8 := X8.below (bel1 _ (.cells #[.bool sb, .slice Ab nb cb, .int .i64 F] 26))
  replace pa := pa.below (bel1 _ (.cells #[.bool sb, .slice Ab nb cb, .int .i64 F] 26))
  replace pb := pb.below (bel1 _ (.cells #[.bool sb, .slice Ab nb cb, .int .i64 F] 26))
  replace HB := Lib.hid (bt HB.out (bel1 _ (.cells #[.bool sb, .slice Ab nb cb, .int .i64 F] 26)))
  have X10 := Bo.new w5 #[.bool sb, .slice Ab nb cb, .int .i64 F] 26
  generalize hWn : World.alloc w5 (.cells #[.bool sb, .slice Ab nb cb, .int .i64 F] 26) = w6 at *
  clear hWn
  clear lX10
  have xX80 := X8.at (i := 0) (v := .bool sa) rfl
  have xX81 := X8.at (i := 1) (v := .slice Aa na ca) rfl
  have xX82 := X8.at (i := 2) (v := .int .i64 F) rfl
  have xX100 := X10.at (i := 0) (v := .bool sb) rfl
  have xX101 := X10.at (i := 1) (v := .slice Ab nb cb) rfl
  have xX102 := X10.at (i := 2) (v := .int .i64 F) rfl
  go_wp2_with fail
  refine (q3Alike pa pb).mono ?_
  rintro ee w7 ⟨rfl, B⟩
  clear xX80 xX81 xX82 xX100 xX101 xX102
  replace X0 := X0.below B
  replace X1 := X1.below B
  replace X8 := X8.below B
  replace X10 := X10.below B
  replace pa := pa.below B
  replace pb := pb.below B
  replace HB := Lib.hid (bt HB.out B)
  clear B
  clear pa pb
  go_upto_region 5 with (fail)
  refine Jo.region_joint (T := [0, 1, 2, 3, 4, 5, 6, 7, 8, 9, 10, 11, 12, 13, 14, 15, 16, 17, 18, 19, 20, 21, 22, 23, 24, 25, 26, 27, 28, 29, 30, 31, 32, 33, 34, 35, 36, 37, 38, 39, 40, 41, 42, 43, 44, 45, 46, 47, 48, 49, 50, 51, 52, 53, 54, 55]) (ds := [some 27, some 28, some 29, some 30, some 31, some 32, some 33, some 34, some 35, some 36, some 37, some 38, some 39, some 40, some 41, some 42, some 43, some 44, some 45, some 46, some 47, some 48, some 49, some 50, some 51, some 52, some 53, some 54, some 55, some 56, some 57, some 58, some 59, some 60, some 61, some 62, some 63, some 64, some 65, some 66, some 67, some 68, some 69, some 70, some 71, some 72, some 73, some 74, some 75, some 76, some 77, some 78, some 79, some 80, some 81, some 6]) (ls := [[], [0], [1], [1, 2], [3], [4], [4], [4, 5, 6], [4, 7], [8], [9], [9, 10], [9], [9, 12], [9, 11, 13], [9, 14], [15], [16], [16, 17], [16], [16, 19], [16, 18, 20], [16, 21], [22], [23], [23, 24], [23], [23, 26], [23, 25, 27], [23, 28], [29], [30], [30], [30, 31, 32], [30], [30], [30, 34, 35], [30, 33, 36], [30, 37], [38], [39], [39], [39, 40, 41], [39], [39], [39, 43, 44], [39, 42, 45], [39, 46], [47], [48], [48, 49], [48], [48, 51], [48, 50, 52], [48, 53], [54]]) (k := 56) (L := [(some 27, 0), (some 28, 1), (some 29, 2), (some 30, 3), (some 31, 4), (some 32, 5), (some 33, 6), (some 34, 7), (some 35, 8), (some 36, 9), (some 37, 10), (some 38, 11), (some 39, 12), (some 40, 13), (some 41, 14), (some 42, 15), (some 43, 16), (some 44, 17), (some 45, 18), (some 46, 19), (some 47, 20), (some 48, 21), (some 49, 22), (some 50, 23), (some 51, 24), (some 52, 25), (some 53, 26), (some 54, 27), (some 55, 28), (some 56, 29), (some 57, 30), (some 58, 31), (some 59, 32), (some 60, 33), (some 61, 34), (some 62, 35), (some 63, 36), (some 64, 37), (some 65, 38), (some 66, 39), (some 67, 40), (some 68, 41), (some 69, 42), (some 70, 43), (some 71, 44), (some 72, 45), (some 73, 46), (some 74, 47), (some 75, 48), (some 76, 49), (some 77, 50), (some 78, 51), (some 79, 52), (some 80, 53), (some 81, 54), (some 6, 55)]) (fuel := 0) (J := fun wj => Below (World.heap w7).size w7 wj)
    (F := [Jo.Fact.eq (.bool true), Jo.Fact.eq (.bool true), Jo.Fact.eq (.bool true), Jo.Fact.eq (.bool true), Jo.Fact.eq (.bool true), Jo.Fact.eq (.bool t), Jo.Fact.eq (.bool t), Jo.Fact.eq (.bool true), Jo.Fact.eq (.bool true), Jo.Fact.eq (.bool true), Jo.Fact.eq (.agg #[.int .i64 D0, .bool s0, .int .u64 M0, .int .i64 E0]), Jo.Fact.eq (.bool m), Jo.Fact.eq (.agg #[.int .i64 D0, .bool s0, .int .u64 M0, .int .i64 E0]), Jo.Fact.eq (.bool m), Jo.Fact.eq (.bool true), Jo.Fact.eq (.bool true), Jo.Fact.eq (.bool true), Jo.Fact.eq (.agg #[.int .i64 D0, .bool s0, .int .u64 M0, .int .i64 E0]), Jo.Fact.eq (.int .i64 σ), Jo.Fact.eq (.agg #[.int .i64 D0, .bool s0, .int .u64 M0, .int .i64 E0]), Jo.Fact.eq (.int .i64 σ), Jo.Fact.eq (.bool true), Jo.Fact.eq (.bool true), Jo.Fact.eq (.bool true), Jo.Fact.eq (.agg #[.int .i64 D0, .bool s0, .int .u64 M0, .int .i64 E0]), Jo.Fact.num (-x), Jo.Fact.eq (.agg #[.int .i64 D0, .bool s0, .int .u64 M0, .int .i64 E0]), Jo.Fact.num (-x), Jo.Fact.eq (.bool true), Jo.Fact.eq (.bool true), Jo.Fact.eq (.bool true), Jo.Fact.eq (.agg #[.int .i64 D0, .bool s0, .int .u64 M0, .int .i64 E0]), Jo.Fact.eq (.bool b2), Jo.Fact.num (nx b2 x), Jo.Fact.eq (.agg #[.int .i64 D0, .bool s0, .int .u64 M0, .int .i64 E0]), Jo.Fact.eq (.bool b2), Jo.Fact.num (nx b2 x), Jo.Fact.eq (.bool true), Jo.Fact.eq (.bool true), Jo.Fact.eq (.bool true), Jo.Fact.eq (.agg #[.int .i64 D0, .bool s0, .int .u64 M0, .int .i64 E0]), Jo.Fact.eq (.agg #[.int .i64 D1, .bool s1, .int .u64 M1, .int .i64 E1]), Jo.Fact.eq (.int .i64 τ), Jo.Fact.eq (.agg #[.int .i64 D0, .bool s0, .int .u64 M0, .int .i64 E0]), Jo.Fact.eq (.agg #[.int .i64 D1, .bool s1, .int .u64 M1, .int .i64 E1]), Jo.Fact.eq (.int .i64 τ), Jo.Fact.eq (.bool true), Jo.Fact.eq (.bool true), Jo.Fact.eq (.bool true), Jo.Fact.eq (.bool b2), Jo.Fact.num (sgi b2 TP), Jo.Fact.eq (.bool b2), Jo.Fact.num (sgi b2 TP), Jo.Fact.eq (.bool true), Jo.Fact.eq (.bool true), Jo.Fact.eq (.bool true)])
    (by kernel_rfl) (by kernel_rfl) (by decide) rfl rfl (fun _ _ h b => bt h b) ((Below.refl _ _).drew) ?_ (fun vs w8 hJ hd => ?_)
  · refine Jo.jcons (i := 0) (o := ⟨some 27, _, _, _, _, _⟩) (di := some 27) (L := []) (f := Jo.Fact.eq (.bool true)) rfl rfl rfl rfl (fun vs wj hJ hd K hK => ?_) ?_
    · clear hd
      simp only [Jo.putl, List.foldl_nil, Act.put, List.setIfInBounds_toArray, List.set_cons_zero, List.set_cons_succ] at hK ⊢
      go_simp
      exact hK.out _ _ rfl (Below.refl _ _)
    refine Jo.jcons (i := 1) (o := ⟨some 28, _, _, _, _, _⟩) (di := some 28) (L := [(some 27, 0)]) (f := Jo.Fact.eq (.bool true)) rfl rfl rfl rfl (fun vs wj hJ hd K hK => ?_) ?_
    · have d0 : (Jo.Fact.eq (.bool true)).P (vs 0) wj := hd 0 (by decide)
      clear hd
      simp only [Jo.putl, List.foldl_cons, List.foldl_nil, Act.put, List.setIfInBounds_toArray, List.set_cons_zero, List.set_cons_succ] at hK ⊢
      generalize vs 0 = u0 at hK d0 ⊢
      replace d0 : u0 = _ := d0
      subst d0
      go_simp
      exact hK.out _ _ rfl (Below.refl _ _)
    refine Jo.jcons (i := 2) (o := ⟨some 29, _, _, _, _, _⟩) (di := some 29) (L := [(some 28, 1)]) (f := Jo.Fact.eq (.bool true)) rfl rfl rfl rfl (fun vs wj hJ hd K hK => ?_) ?_
    · have d1 : (Jo.Fact.eq (.bool true)).P (vs 1) wj := hd 1 (by decide)
      clear hd
      simp only [Jo.putl, List.foldl_cons, List.foldl_nil, Act.put, List.setIfInBounds_toArray, List.set_cons_zero, List.set_cons_succ] at hK ⊢
      generalize vs 1 = u1 at hK d1 ⊢
      replace d1 : u1 = _ := d1
      subst d1
      go_simp
      exact hK.out _ _ rfl (Below.refl _ _)
    refine Jo.jcons (i := 3) (o := ⟨some 30, _, _, _, _, _⟩) (di := some 30) (L := [(some 28, 1), (some 29, 2)]) (f := Jo.Fact.eq (.bool true)) rfl rfl rfl rfl (fun vs wj hJ hd K hK => ?_) ?_
    · have d1 : (Jo.Fact.eq (.bool true)).P (vs 1) wj := hd 1 (by decide)
      have d2 : (Jo.Fact.eq (.bool true)).P (vs 2) wj := hd 2 (by decide)
      clear hd
      simp only [Jo.putl, List.foldl_cons, List.foldl_nil, Act.put, List.setIfInBounds_toArray, List.set_cons_zero, List.set_cons_succ] at hK ⊢
      generalize vs 1 = u1 at hK d1 ⊢
      generalize vs 2 = u2 at hK d2 ⊢
      replace d1 : u1 = _ := d1
      subst d1
      replace d2 : u2 = _ := d2
      subst d2
      go_simp
      exact hK.out _ _ rfl (Below.refl _ _)
    refine Jo.jcons (i := 4) (o := ⟨some 31, _, _, _, _, _⟩) (di := some 31) (L := [(some 30, 3)]) (f := Jo.Fact.eq (.bool true)) rfl rfl rfl rfl (fun vs wj hJ hd K hK => ?_) ?_
    · have d3 : (Jo.Fact.eq (.bool true)).P (vs 3) wj := hd 3 (by decide)
      clear hd
      simp only [Jo.putl, List.foldl_cons, List.foldl_nil, Act.put, List.setIfInBounds_toArray, List.set_cons_zero, List.set_cons_succ] at hK ⊢
      generalize vs 3 = u3 at hK d3 ⊢
      replace d3 : u3 = _ := d3
      subst d3
      go_simp
      exact hK.out _ _ rfl (Below.refl _ _)
    refine Jo.jcons (i := 5) (o := ⟨some 32, _, _, _, _, _⟩) (di := some 32) (L := [(some 31, 4)]) (f := Jo.Fact.eq (.bool t)) rfl rfl rfl rfl (fun vs wj hJ hd K hK => ?_) ?_
    · have d4 : (Jo.Fact.eq (.bool true)).P (vs 4) wj := hd 4 (by decide)
      clear hd
      simp only [Jo.putl, List.foldl_cons, List.foldl_nil, Act.put, List.setIfInBounds_toArray, List.set_cons_zero, List.set_cons_succ] at hK ⊢
      generalize vs 4 = u4 at hK d4 ⊢
      replace d4 : u4 = _ := d4
      subst d4
      go_simp
      exact hK.out _ _ rfl (Below.refl _ _)
    refine Jo.jcons (i := 6) (o := ⟨some 33, _, _, _, _, _⟩) (di := some 33) (L := [(some 31, 4)]) (f := Jo.Fact.eq (.bool t)) rfl rfl rfl rfl (fun vs wj hJ hd K hK => ?_) ?_
    · have d4 : (Jo.Fact.eq (.bool true)).P (vs 4) wj := hd 4 (by decide)
      clear hd
      simp only [Jo.putl, List.foldl_cons, List.foldl_nil, Act.put, List.setIfInBounds_toArray, List.set_cons_zero, List.set_cons_succ] at hK ⊢
      generalize vs 4 = u4 at hK d4 ⊢
      replace d4 : u4 = _ := d4
      subst d4
      go_simp
      exact hK.out _ _ rfl (Below.refl _ _)
    refine Jo.jcons (i := 7) (o := ⟨some 34, _, _, _, _, _⟩) (di := some 34) (L := [(some 31, 4), (some 32, 5), (some 33, 6)]) (f := Jo.Fact.eq (.bool true)) rfl rfl rfl rfl (fun vs wj hJ hd K hK => ?_) ?_
    · have d4 : (Jo.Fact.eq (.bool true)).P (vs 4) wj := hd 4 (by decide)
      have d5 : (Jo.Fact.eq (.bool t)).P (vs 5) wj := hd 5 (by decide)
      have d6 : (Jo.Fact.eq (.bool t)).P (vs 6) wj := hd 6 (by decide)
      clear hd
      simp only [Jo.putl, List.foldl_cons, List.foldl_nil, Act.put, List.setIfInBounds_toArray, List.set_cons_zero, List.set_cons_succ] at hK ⊢
      generalize vs 4 = u4 at hK d4 ⊢
      generalize vs 5 = u5 at hK d5 ⊢
      generalize vs 6 = u6 at hK d6 ⊢
      replace d4 : u4 = _ := d4
      subst d4
      replace d5 : u5 = _ := d5
      subst d5
      replace d6 : u6 = _ := d6
      subst d6
      go_simp
      exact hK.out _ _ (by first | rfl | simp) (Below.refl _ _)
    refine Jo.jcons (i := 8) (o := ⟨some 35, _, _, _, _, _⟩) (di := some 35) (L := [(some 31, 4), (some 34, 7)]) (f := Jo.Fact.eq (.bool true)) rfl rfl rfl rfl (fun vs wj hJ hd K hK => ?_) ?_
    · have d4 : (Jo.Fact.eq (.bool true)).P (vs 4) wj := hd 4 (by decide)
      have d7 : (Jo.Fact.eq (.bool true)).P (vs 7) wj := hd 7 (by decide)
      clear hd
      simp only [Jo.putl, List.foldl_cons, List.foldl_nil, Act.put, List.setIfInBounds_toArray, List.set_cons_zero, List.set_cons_succ] at hK ⊢
      generalize vs 4 = u4 at hK d4 ⊢
      generalize vs 7 = u7 at hK d7 ⊢
      replace d4 : u4 = _ := d4
      subst d4
      replace d7 : u7 = _ := d7
      subst d7
      go_simp
      exact hK.out _ _ rfl (Below.refl _ _)
    refine Jo.jcons (i := 9) (o := ⟨some 36, _, _, _, _, _⟩) (di := some 36) (L := [(some 35, 8)]) (f := Jo.Fact.eq (.bool true)) rfl rfl rfl rfl (fun vs wj hJ hd K hK => ?_) ?_
    · have d8 : (Jo.Fact.eq (.bool true)).P (vs 8) wj := hd 8 (by decide)
      clear hd
      simp only [Jo.putl, List.foldl_cons, List.foldl_nil, Act.put, List.setIfInBounds_toArray, List.set_cons_zero, List.set_cons_succ] at hK ⊢
      generalize vs 8 = u8 at hK d8 ⊢
      replace d8 : u8 = _ := d8
      subst d8
      go_simp
      exact hK.out _ _ rfl (Below.refl _ _)
    refine Jo.jcons (i := 10) (o := ⟨some 37, _, _, _, _, _⟩) (di := some 37) (L := [(some 36, 9)]) (f := Jo.Fact.eq (.agg #[.int .i64 D0, .bool s0, .int .u64 M0, .int .i64 E0])) rfl rfl rfl rfl (fun vs wj hJ hd K hK => ?_) ?_
    · have d9 : (Jo.Fact.eq (.bool true)).P (vs 9) wj := hd 9 (by decide)
      clear hd
      simp only [Jo.putl, List.foldl_cons, List.foldl_nil, Act.put, List.setIfInBounds_toArray, List.set_cons_zero, List.set_cons_succ] at hK ⊢
      generalize vs 9 = u9 at hK d9 ⊢
      replace d9 : u9 = _ := d9
      subst d9
      have xX00 : World.cell? wj ⟨w.heap.size, 0, none⟩ = some (.int .i64 D0) := (X0.below hJ).cell 0
      have xX01 : World.cell? wj ⟨w.heap.size, 1, none⟩ = some (.bool s0) := (X0.below hJ).cell 1
      have xX02 : World.cell? wj ⟨w.heap.size, 2, none⟩ = some (.int .u64 M0) := (X0.below hJ).cell 2
      have xX03 : World.cell? wj ⟨w.heap.size, 3, none⟩ = some (.int .i64 E0) := (X0.below hJ).cell 3
      go_simp
      exact hK.out _ _ rfl (Below.refl _ _)
    refine Jo.jcons (i := 11) (o := ⟨some 38, _, _, _, _, _⟩) (di := some 38) (L := [(some 36, 9), (some 37, 10)]) (f := Jo.Fact.eq (.bool m)) rfl rfl rfl rfl (fun vs wj hJ hd K hK => ?_) ?_
    · have d9 : (Jo.Fact.eq (.bool true)).P (vs 9) wj := hd 9 (by decide)
      have d10 : (Jo.Fact.eq (.agg #[.int .i64 D0, .bool s0, .int .u64 M0, .int .i64 E0])).P (vs 10) wj := hd 10 (by decide)
      clear hd
      simp only [Jo.putl, List.foldl_cons, List.foldl_nil, Act.put, List.setIfInBounds_toArray, List.set_cons_zero, List.set_cons_succ] at hK ⊢
      generalize vs 9 = u9 at hK d9 ⊢
      generalize vs 10 = u10 at hK d10 ⊢
      replace d9 : u9 = _ := d9
      subst d9
      replace d10 : u10 = _ := d10
      subst d10
      go_simp
      refine (nMay HM.out).mono ?_
      rintro ee wk ⟨rfl, B⟩
      exact hK.out _ _ rfl B
    refine Jo.jcons (i := 12) (o := ⟨some 39, _, _, _, _, _⟩) (di := some 39) (L := [(some 36, 9)]) (f := Jo.Fact.eq (.agg #[.int .i64 D0, .bool s0, .int .u64 M0, .int .i64 E0])) rfl rfl rfl rfl (fun vs wj hJ hd K hK => ?_) ?_
    · have d9 : (Jo.Fact.eq (.bool true)).P (vs 9) wj := hd 9 (by decide)
      clear hd
      simp only [Jo.putl, List.foldl_cons, List.foldl_nil, Act.put, List.setIfInBounds_toArray, List.set_cons_zero, List.set_cons_succ] at hK ⊢
      generalize vs 9 = u9 at hK d9 ⊢
      replace d9 : u9 = _ := d9
      subst d9
      have xX00 : World.cell? wj ⟨w.heap.size, 0, none⟩ = some (.int .i64 D0) := (X0.below hJ).cell 0
      have xX01 : World.cell? wj ⟨w.heap.size, 1, none⟩ = some (.bool s0) := (X0.below hJ).cell 1
      have xX02 : World.cell? wj ⟨w.heap.size, 2, none⟩ = some (.int .u64 M0) := (X0.below hJ).cell 2
      have xX03 : World.cell? wj ⟨w.heap.size, 3, none⟩ = some (.int .i64 E0) := (X0.below hJ).cell 3
      go_simp
      exact hK.out _ _ rfl (Below.refl _ _)
    refine Jo.jcons (i := 13) (o := ⟨some 40, _, _, _, _, _⟩) (di := some 40) (L := [(some 36, 9), (some 39, 12)]) (f := Jo.Fact.eq (.bool m)) rfl rfl rfl rfl (fun vs wj hJ hd K hK => ?_) ?_
    · have d9 : (Jo.Fact.eq (.bool true)).P (vs 9) wj := hd 9 (by decide)
      have d12 : (Jo.Fact.eq (.agg #[.int .i64 D0, .bool s0, .int .u64 M0, .int .i64 E0])).P (vs 12) wj := hd 12 (by decide)
      clear hd
      simp only [Jo.putl, List.foldl_cons, List.foldl_nil, Act.put, List.setIfInBounds_toArray, List.set_cons_zero, List.set_cons_succ] at hK ⊢
      generalize vs 9 = u9 at hK d9 ⊢
      generalize vs 12 = u12 at hK d12 ⊢
      replace d9 : u9 = _ := d9
      subst d9
      replace d12 : u12 = _ := d12
      subst d12
      go_simp
      refine (yMay HM.out).mono ?_
      rintro ee wk ⟨rfl, B⟩
      exact hK.out _ _ rfl B
    refine Jo.jcons (i := 14) (o := ⟨some 41, _, _, _, _, _⟩) (di := some 41) (L := [(some 36, 9), (some 38, 11), (some 40, 13)]) (f := Jo.Fact.eq (.bool true)) rfl rfl rfl rfl (fun vs wj hJ hd K hK => ?_) ?_
    · have d9 : (Jo.Fact.eq (.bool true)).P (vs 9) wj := hd 9 (by decide)
      have d11 : (Jo.Fact.eq (.bool m)).P (vs 11) wj := hd 11 (by decide)
      have d13 : (Jo.Fact.eq (.bool m)).P (vs 13) wj := hd 13 (by decide)
      clear hd
      simp only [Jo.putl, List.foldl_cons, List.foldl_nil, Act.put, List.setIfInBounds_toArray, List.set_cons_zero, List.set_cons_succ] at hK ⊢
      generalize vs 9 = u9 at hK d9 ⊢
      generalize vs 11 = u11 at hK d11 ⊢
      generalize vs 13 = u13 at hK d13 ⊢
      replace d9 : u9 = _ := d9
      subst d9
      replace d11 : u11 = _ := d11
      subst d11
      replace d13 : u13 = _ := d13
      subst d13
      go_simp
      exact hK.out _ _ (by first | rfl | simp) (Below.refl _ _)
    refine Jo.jcons (i := 15) (o := ⟨some 42, _, _, _, _, _⟩) (di := some 42) (L := [(some 36, 9), (some 41, 14)]) (f := Jo.Fact.eq (.bool true)) rfl rfl rfl rfl (fun vs wj hJ hd K hK => ?_) ?_
    · have d9 : (Jo.Fact.eq (.bool true)).P (vs 9) wj := hd 9 (by decide)
      have d14 : (Jo.Fact.eq (.bool true)).P (vs 14) wj := hd 14 (by decide)
      clear hd
      simp only [Jo.putl, List.foldl_cons, List.foldl_nil, Act.put, List.setIfInBounds_toArray, List.set_cons_zero, List.set_cons_succ] at hK ⊢
      generalize vs 9 = u9 at hK d9 ⊢
      generalize vs 14 = u14 at hK d14 ⊢
      replace d9 : u9 = _ := d9
      subst d9
      replace d14 : u14 = _ := d14
      subst d14
      go_simp
      exact hK.out _ _ rfl (Below.refl _ _)
    refine Jo.jcons (i := 16) (o := ⟨some 43, _, _, _, _, _⟩) (di := some 43) (L := [(some 42, 15)]) (f := Jo.Fact.eq (.bool true)) rfl rfl rfl rfl (fun vs wj hJ hd K hK => ?_) ?_
    · have d15 : (Jo.Fact.eq (.bool true)).P (vs 15) wj := hd 15 (by decide)
      clear hd
      simp only [Jo.putl, List.foldl_cons, List.foldl_nil, Act.put, List.setIfInBounds_toArray, List.set_cons_zero, List.set_cons_succ] at hK ⊢
      generalize vs 15 = u15 at hK d15 ⊢
      replace d15 : u15 = _ := d15
      subst d15
      go_simp
      exact hK.out _ _ rfl (Below.refl _ _)
    refine Jo.jcons (i := 17) (o := ⟨some 44, _, _, _, _, _⟩) (di := some 44) (L := [(some 43, 16)]) (f := Jo.Fact.eq (.agg #[.int .i64 D0, .bool s0, .int .u64 M0, .int .i64 E0])) rfl rfl rfl rfl (fun vs wj hJ hd K hK => ?_) ?_
    · have d16 : (Jo.Fact.eq (.bool true)).P (vs 16) wj := hd 16 (by decide)
      clear hd
      simp only [Jo.putl, List.foldl_cons, List.foldl_nil, Act.put, List.setIfInBounds_toArray, List.set_cons_zero, List.set_cons_succ] at hK ⊢
      generalize vs 16 = u16 at hK d16 ⊢
      replace d16 : u16 = _ := d16
      subst d16
      have xX00 : World.cell? wj ⟨w.heap.size, 0, none⟩ = some (.int .i64 D0) := (X0.below hJ).cell 0
      have xX01 : World.cell? wj ⟨w.heap.size, 1, none⟩ = some (.bool s0) := (X0.below hJ).cell 1
      have xX02 : World.cell? wj ⟨w.heap.size, 2, none⟩ = some (.int .u64 M0) := (X0.below hJ).cell 2
      have xX03 : World.cell? wj ⟨w.heap.size, 3, none⟩ = some (.int .i64 E0) := (X0.below hJ).cell 3
      go_simp
      exact hK.out _ _ rfl (Below.refl _ _)
    refine Jo.jcons (i := 18) (o := ⟨some 45, _, _, _, _, _⟩) (di := some 45) (L := [(some 43, 16), (some 44, 17)]) (f := Jo.Fact.eq (.int .i64 σ)) rfl rfl rfl rfl (fun vs wj hJ hd K hK => ?_) ?_
    · have d16 : (Jo.Fact.eq (.bool true)).P (vs 16) wj := hd 16 (by decide)
      have d17 : (Jo.Fact.eq (.agg #[.int .i64 D0, .bool s0, .int .u64 M0, .int .i64 E0])).P (vs 17) wj := hd 17 (by decide)
      clear hd
      simp only [Jo.putl, List.foldl_cons, List.foldl_nil, Act.put, List.setIfInBounds_toArray, List.set_cons_zero, List.set_cons_succ] at hK ⊢
      generalize vs 16 = u16 at hK d16 ⊢
      generalize vs 17 = u17 at hK d17 ⊢
      replace d16 : u16 = _ := d16
      subst d16
      replace d17 : u17 = _ := d17
      subst d17
      go_simp
      refine (nSign u0 HS.out).mono ?_
      rintro ee wk ⟨rfl, B⟩
      exact hK.out _ _ rfl B
    refine Jo.jcons (i := 19) (o := ⟨some 46, _, _, _, _, _⟩) (di := some 46) (L := [(some 43, 16)]) (f := Jo.Fact.eq (.agg #[.int .i64 D0, .bool s0, .int .u64 M0, .int .i64 E0])) rfl rfl rfl rfl (fun vs wj hJ hd K hK => ?_) ?_
    · have d16 : (Jo.Fact.eq (.bool true)).P (vs 16) wj := hd 16 (by decide)
      clear hd
      simp only [Jo.putl, List.foldl_cons, List.foldl_nil, Act.put, List.setIfInBounds_toArray, List.set_cons_zero, List.set_cons_succ] at hK ⊢
      generalize vs 16 = u16 at hK d16 ⊢
      replace d16 : u16 = _ := d16
      subst d16
      have xX00 : World.cell? wj ⟨w.heap.size, 0, none⟩ = some (.int .i64 D0) := (X0.below hJ).cell 0
      have xX01 : World.cell? wj ⟨w.heap.size, 1, none⟩ = some (.bool s0) := (X0.below hJ).cell 1
      have xX02 : World.cell? wj ⟨w.heap.size, 2, none⟩ = some (.int .u64 M0) := (X0.below hJ).cell 2
      have xX03 : World.cell? wj ⟨w.heap.size, 3, none⟩ = some (.int .i64 E0) := (X0.below hJ).cell 3
      go_simp
      exact hK.out _ _ rfl (Below.refl _ _)
    refine Jo.jcons (i := 20) (o := ⟨some 47, _, _, _, _, _⟩) (di := some 47) (L := [(some 43, 16), (some 46, 19)]) (f := Jo.Fact.eq (.int .i64 σ)) rfl rfl rfl rfl (fun vs wj hJ hd K hK => ?_) ?_
    · have d16 : (Jo.Fact.eq (.bool true)).P (vs 16) wj := hd 16 (by decide)
      have d19 : (Jo.Fact.eq (.agg #[.int .i64 D0, .bool s0, .int .u64 M0, .int .i64 E0])).P (vs 19) wj := hd 19 (by decide)
      clear hd
      simp only [Jo.putl, List.foldl_cons, List.foldl_nil, Act.put, List.setIfInBounds_toArray, List.set_cons_zero, List.set_cons_succ] at hK ⊢
      generalize vs 16 = u16 at hK d16 ⊢
      generalize vs 19 = u19 at hK d19 ⊢
      replace d16 : u16 = _ := d16
      subst d16
      replace d19 : u19 = _ := d19
      subst d19
      go_simp
      refine (ySign u0 HS.out).mono ?_
      rintro ee wk ⟨rfl, B⟩
      exact hK.out _ _ rfl B
    refine Jo.jcons (i := 21) (o := ⟨some 48, _, _, _, _, _⟩) (di := some 48) (L := [(some 43, 16), (some 45, 18), (some 47, 20)]) (f := Jo.Fact.eq (.bool true)) rfl rfl rfl rfl (fun vs wj hJ hd K hK => ?_) ?_
    · have d16 : (Jo.Fact.eq (.bool true)).P (vs 16) wj := hd 16 (by decide)
      have d18 : (Jo.Fact.eq (.int .i64 σ)).P (vs 18) wj := hd 18 (by decide)
      have d20 : (Jo.Fact.eq (.int .i64 σ)).P (vs 20) wj := hd 20 (by decide)
      clear hd
      simp only [Jo.putl, List.foldl_cons, List.foldl_nil, Act.put, List.setIfInBounds_toArray, List.set_cons_zero, List.set_cons_succ] at hK ⊢
      generalize vs 16 = u16 at hK d16 ⊢
      generalize vs 18 = u18 at hK d18 ⊢
      generalize vs 20 = u20 at hK d20 ⊢
      replace d16 : u16 = _ := d16
      subst d16
      replace d18 : u18 = _ := d18
      subst d18
      replace d20 : u20 = _ := d20
      subst d20
      go_simp
      exact hK.out _ _ (by first | rfl | simp) (Below.refl _ _)
    refine Jo.jcons (i := 22) (o := ⟨some 49, _, _, _, _, _⟩) (di := some 49) (L := [(some 43, 16), (some 48, 21)]) (f := Jo.Fact.eq (.bool true)) rfl rfl rfl rfl (fun vs wj hJ hd K hK => ?_) ?_
    · have d16 : (Jo.Fact.eq (.bool true)).P (vs 16) wj := hd 16 (by decide)
      have d21 : (Jo.Fact.eq (.bool true)).P (vs 21) wj := hd 21 (by decide)
      clear hd
      simp only [Jo.putl, List.foldl_cons, List.foldl_nil, Act.put, List.setIfInBounds_toArray, List.set_cons_zero, List.set_cons_succ] at hK ⊢
      generalize vs 16 = u16 at hK d16 ⊢
      generalize vs 21 = u21 at hK d21 ⊢
      replace d16 : u16 = _ := d16
      subst d16
      replace d21 : u21 = _ := d21
      subst d21
      go_simp
      exact hK.out _ _ rfl (Below.refl _ _)
    refine Jo.jcons (i := 23) (o := ⟨some 50, _, _, _, _, _⟩) (di := some 50) (L := [(some 49, 22)]) (f := Jo.Fact.eq (.bool true)) rfl rfl rfl rfl (fun vs wj hJ hd K hK => ?_) ?_
    · have d22 : (Jo.Fact.eq (.bool true)).P (vs 22) wj := hd 22 (by decide)
      clear hd
      simp only [Jo.putl, List.foldl_cons, List.foldl_nil, Act.put, List.setIfInBounds_toArray, List.set_cons_zero, List.set_cons_succ] at hK ⊢
      generalize vs 22 = u22 at hK d22 ⊢
      replace d22 : u22 = _ := d22
      subst d22
      go_simp
      exact hK.out _ _ rfl (Below.refl _ _)
    refine Jo.jcons (i := 24) (o := ⟨some 51, _, _, _, _, _⟩) (di := some 51) (L := [(some 50, 23)]) (f := Jo.Fact.eq (.agg #[.int .i64 D0, .bool s0, .int .u64 M0, .int .i64 E0])) rfl rfl rfl rfl (fun vs wj hJ hd K hK => ?_) ?_
    · have d23 : (Jo.Fact.eq (.bool true)).P (vs 23) wj := hd 23 (by decide)
      clear hd
      simp only [Jo.putl, List.foldl_cons, List.foldl_nil, Act.put, List.setIfInBounds_toArray, List.set_cons_zero, List.set_cons_succ] at hK ⊢
      generalize vs 23 = u23 at hK d23 ⊢
      replace d23 : u23 = _ := d23
      subst d23
      have xX00 : World.cell? wj ⟨w.heap.size, 0, none⟩ = some (.int .i64 D0) := (X0.below hJ).cell 0
      have xX01 : World.cell? wj ⟨w.heap.size, 1, none⟩ = some (.bool s0) := (X0.below hJ).cell 1
      have xX02 : World.cell? wj ⟨w.heap.size, 2, none⟩ = some (.int .u64 M0) := (X0.below hJ).cell 2
      have xX03 : World.cell? wj ⟨w.heap.size, 3, none⟩ = some (.int .i64 E0) := (X0.below hJ).cell 3
      go_simp
      exact hK.out _ _ rfl (Below.refl _ _)
    refine Jo.jcons (i := 25) (o := ⟨some 52, _, _, _, _, _⟩) (di := some 52) (L := [(some 50, 23), (some 51, 24)]) (f := Jo.Fact.num (-x)) rfl rfl rfl rfl (fun vs wj hJ hd K hK => ?_) ?_
    · have d23 : (Jo.Fact.eq (.bool true)).P (vs 23) wj := hd 23 (by decide)
      have d24 : (Jo.Fact.eq (.agg #[.int .i64 D0, .bool s0, .int .u64 M0, .int .i64 E0])).P (vs 24) wj := hd 24 (by decide)
      clear hd
      simp only [Jo.putl, List.foldl_cons, List.foldl_nil, Act.put, List.setIfInBounds_toArray, List.set_cons_zero, List.set_cons_succ] at hK ⊢
      generalize vs 23 = u23 at hK d23 ⊢
      generalize vs 24 = u24 at hK d24 ⊢
      replace d23 : u23 = _ := d23
      subst d23
      replace d24 : u24 = _ := d24
      subst d24
      go_simp
      refine (nNeg u0 (by rw [HX.out])).mono ?_
      rintro ee wk ⟨K4, s4, M4, E4, rfl, q4, B⟩
      exact hK.out _ _ ⟨K4, s4, M4, E4, rfl, q4⟩ B
    refine Jo.jcons (i := 26) (o := ⟨some 53, _, _, _, _, _⟩) (di := some 53) (L := [(some 50, 23)]) (f := Jo.Fact.eq (.agg #[.int .i64 D0, .bool s0, .int .u64 M0, .int .i64 E0])) rfl rfl rfl rfl (fun vs wj hJ hd K hK => ?_) ?_
    · have d23 : (Jo.Fact.eq (.bool true)).P (vs 23) wj := hd 23 (by decide)
      clear hd
      simp only [Jo.putl, List.foldl_cons, List.foldl_nil, Act.put, List.setIfInBounds_toArray, List.set_cons_zero, List.set_cons_succ] at hK ⊢
      generalize vs 23 = u23 at hK d23 ⊢
      replace d23 : u23 = _ := d23
      subst d23
      have xX00 : World.cell? wj ⟨w.heap.size, 0, none⟩ = some (.int .i64 D0) := (X0.below hJ).cell 0
      have xX01 : World.cell? wj ⟨w.heap.size, 1, none⟩ = some (.bool s0) := (X0.below hJ).cell 1
      have xX02 : World.cell? wj ⟨w.heap.size, 2, none⟩ = some (.int .u64 M0) := (X0.below hJ).cell 2
      have xX03 : World.cell? wj ⟨w.heap.size, 3, none⟩ = some (.int .i64 E0) := (X0.below hJ).cell 3
      go_simp
      exact hK.out _ _ rfl (Below.refl _ _)
    refine Jo.jcons (i := 27) (o := ⟨some 54, _, _, _, _, _⟩) (di := some 54) (L := [(some 50, 23), (some 53, 26)]) (f := Jo.Fact.num (-x)) rfl rfl rfl rfl (fun vs wj hJ hd K hK => ?_) ?_
    · have d23 : (Jo.Fact.eq (.bool true)).P (vs 23) wj := hd 23 (by decide)
      have d26 : (Jo.Fact.eq (.agg #[.int .i64 D0, .bool s0, .int .u64 M0, .int .i64 E0])).P (vs 26) wj := hd 26 (by decide)
      clear hd
      simp only [Jo.putl, List.foldl_cons, List.foldl_nil, Act.put, List.setIfInBounds_toArray, List.set_cons_zero, List.set_cons_succ] at hK ⊢
      generalize vs 23 = u23 at hK d23 ⊢
      generalize vs 26 = u26 at hK d26 ⊢
      replace d23 : u23 = _ := d23
      subst d23
      replace d26 : u26 = _ := d26
      subst d26
      go_simp
      refine (yNeg u0 (by rw [HX.out])).mono ?_
      rintro ee wk ⟨K5, s5, M5, E5, rfl, q5, B⟩
      exact hK.out _ _ ⟨K5, s5, M5, E5, rfl, q5⟩ B
    refine Jo.jcons (i := 28) (o := ⟨some 55, _, _, _, _, _⟩) (di := some 55) (L := [(some 50, 23), (some 52, 25), (some 54, 27)]) (f := Jo.Fact.eq (.bool true)) rfl rfl rfl rfl (fun vs wj hJ hd K hK => ?_) ?_
    · have d23 : (Jo.Fact.eq (.bool true)).P (vs 23) wj := hd 23 (by decide)
      have d25 : (Jo.Fact.num (-x)).P (vs 25) wj := hd 25 (by decide)
      have d27 : (Jo.Fact.num (-x)).P (vs 27) wj := hd 27 (by decide)
      clear hd
      simp only [Jo.putl, List.foldl_cons, List.foldl_nil, Act.put, List.setIfInBounds_toArray, List.set_cons_zero, List.set_cons_succ] at hK ⊢
      generalize vs 23 = u23 at hK d23 ⊢
      generalize vs 25 = u25 at hK d25 ⊢
      generalize vs 27 = u27 at hK d27 ⊢
      replace d23 : u23 = _ := d23
      subst d23
      obtain ⟨K4, s4, M4, E4, rfl, q4⟩ := d25
      obtain ⟨K5, s5, M5, E5, rfl, q5⟩ := d27
      obtain ⟨rfl, rfl, rfl, rfl⟩ := q4.uniq q5
      go_simp
      exact hK.out _ _ (by first | rfl | (show Value.bool _ = Value.bool _; simp)) (Below.refl _ _)
    refine Jo.jcons (i := 29) (o := ⟨some 56, _, _, _, _, _⟩) (di := some 56) (L := [(some 50, 23), (some 55, 28)]) (f := Jo.Fact.eq (.bool true)) rfl rfl rfl rfl (fun vs wj hJ hd K hK => ?_) ?_
    · have d23 : (Jo.Fact.eq (.bool true)).P (vs 23) wj := hd 23 (by decide)
      have d28 : (Jo.Fact.eq (.bool true)).P (vs 28) wj := hd 28 (by decide)
      clear hd
      simp only [Jo.putl, List.foldl_cons, List.foldl_nil, Act.put, List.setIfInBounds_toArray, List.set_cons_zero, List.set_cons_succ] at hK ⊢
      generalize vs 23 = u23 at hK d23 ⊢
      generalize vs 28 = u28 at hK d28 ⊢
      replace d23 : u23 = _ := d23
      subst d23
      replace d28 : u28 = _ := d28
      subst d28
      go_simp
      exact hK.out _ _ rfl (Below.refl _ _)
    refine Jo.jcons (i := 30) (o := ⟨some 57, _, _, _, _, _⟩) (di := some 57) (L := [(some 56, 29)]) (f := Jo.Fact.eq (.bool true)) rfl rfl rfl rfl (fun vs wj hJ hd K hK => ?_) ?_
    · have d29 : (Jo.Fact.eq (.bool true)).P (vs 29) wj := hd 29 (by decide)
      clear hd
      simp only [Jo.putl, List.foldl_cons, List.foldl_nil, Act.put, List.setIfInBounds_toArray, List.set_cons_zero, List.set_cons_succ] at hK ⊢
      generalize vs 29 = u29 at hK d29 ⊢
      replace d29 : u29 = _ := d29
      subst d29
      go_simp
      exact hK.out _ _ rfl (Below.refl _ _)
    refine Jo.jcons (i := 31) (o := ⟨some 58, _, _, _, _, _⟩) (di := some 58) (L := [(some 57, 30)]) (f := Jo.Fact.eq (.agg #[.int .i64 D0, .bool s0, .int .u64 M0, .int .i64 E0])) rfl rfl rfl rfl (fun vs wj hJ hd K hK => ?_) ?_
    · have d30 : (Jo.Fact.eq (.bool true)).P (vs 30) wj := hd 30 (by decide)
      clear hd
      simp only [Jo.putl, List.foldl_cons, List.foldl_nil, Act.put, List.setIfInBounds_toArray, List.set_cons_zero, List.set_cons_succ] at hK ⊢
      generalize vs 30 = u30 at hK d30 ⊢
      replace d30 : u30 = _ := d30
      subst d30
      have xX00 : World.cell? wj ⟨w.heap.size, 0, none⟩ = some (.int .i64 D0) := (X0.below hJ).cell 0
      have xX01 : World.cell? wj ⟨w.heap.size, 1, none⟩ = some (.bool s0) := (X0.below hJ).cell 1
      have xX02 : World.cell? wj ⟨w.heap.size, 2, none⟩ = some (.int .u64 M0) := (X0.below hJ).cell 2
      have xX03 : World.cell? wj ⟨w.heap.size, 3, none⟩ = some (.int .i64 E0) := (X0.below hJ).cell 3
      go_simp
      exact hK.out _ _ rfl (Below.refl _ _)
    refine Jo.jcons (i := 32) (o := ⟨some 59, _, _, _, _, _⟩) (di := some 59) (L := [(some 57, 30)]) (f := Jo.Fact.eq (.bool b2)) rfl rfl rfl rfl (fun vs wj hJ hd K hK => ?_) ?_
    · have d30 : (Jo.Fact.eq (.bool true)).P (vs 30) wj := hd 30 (by decide)
      clear hd
      simp only [Jo.putl, List.foldl_cons, List.foldl_nil, Act.put, List.setIfInBounds_toArray, List.set_cons_zero, List.set_cons_succ] at hK ⊢
      generalize vs 30 = u30 at hK d30 ⊢
      replace d30 : u30 = _ := d30
      subst d30
      go_simp
      exact hK.out _ _ rfl (Below.refl _ _)
    refine Jo.jcons (i := 33) (o := ⟨some 60, _, _, _, _, _⟩) (di := some 60) (L := [(some 57, 30), (some 58, 31), (some 59, 32)]) (f := Jo.Fact.num (nx b2 x)) rfl rfl rfl rfl (fun vs wj hJ hd K hK => ?_) ?_
    · have d30 : (Jo.Fact.eq (.bool true)).P (vs 30) wj := hd 30 (by decide)
      have d31 : (Jo.Fact.eq (.agg #[.int .i64 D0, .bool s0, .int .u64 M0, .int .i64 E0])).P (vs 31) wj := hd 31 (by decide)
      have d32 : (Jo.Fact.eq (.bool b2)).P (vs 32) wj := hd 32 (by decide)
      clear hd
      simp only [Jo.putl, List.foldl_cons, List.foldl_nil, Act.put, List.setIfInBounds_toArray, List.set_cons_zero, List.set_cons_succ] at hK ⊢
      generalize vs 30 = u30 at hK d30 ⊢
      generalize vs 31 = u31 at hK d31 ⊢
      generalize vs 32 = u32 at hK d32 ⊢
      replace d30 : u30 = _ := d30
      subst d30
      replace d31 : u31 = _ := d31
      subst d31
      replace d32 : u32 = _ := d32
      subst d32
      go_simp
      refine (nNext u0 (by rw [HX.out])).mono ?_
      rintro ee wk ⟨K6, s6, M6, E6, rfl, q6, B⟩
      exact hK.out _ _ ⟨K6, s6, M6, E6, rfl, q6⟩ B
    refine Jo.jcons (i := 34) (o := ⟨some 61, _, _, _, _, _⟩) (di := some 61) (L := [(some 57, 30)]) (f := Jo.Fact.eq (.agg #[.int .i64 D0, .bool s0, .int .u64 M0, .int .i64 E0])) rfl rfl rfl rfl (fun vs wj hJ hd K hK => ?_) ?_
    · have d30 : (Jo.Fact.eq (.bool true)).P (vs 30) wj := hd 30 (by decide)
      clear hd
      simp only [Jo.putl, List.foldl_cons, List.foldl_nil, Act.put, List.setIfInBounds_toArray, List.set_cons_zero, List.set_cons_succ] at hK ⊢
      generalize vs 30 = u30 at hK d30 ⊢
      replace d30 : u30 = _ := d30
      subst d30
      have xX00 : World.cell? wj ⟨w.heap.size, 0, none⟩ = some (.int .i64 D0) := (X0.below hJ).cell 0
      have xX01 : World.cell? wj ⟨w.heap.size, 1, none⟩ = some (.bool s0) := (X0.below hJ).cell 1
      have xX02 : World.cell? wj ⟨w.heap.size, 2, none⟩ = some (.int .u64 M0) := (X0.below hJ).cell 2
      have xX03 : World.cell? wj ⟨w.heap.size, 3, none⟩ = some (.int .i64 E0) := (X0.below hJ).cell 3
      go_simp
      exact hK.out _ _ rfl (Below.refl _ _)
    refine Jo.jcons (i := 35) (o := ⟨some 62, _, _, _, _, _⟩) (di := some 62) (L := [(some 57, 30)]) (f := Jo.Fact.eq (.bool b2)) rfl rfl rfl rfl (fun vs wj hJ hd K hK => ?_) ?_
    · have d30 : (Jo.Fact.eq (.bool true)).P (vs 30) wj := hd 30 (by decide)
      clear hd
      simp only [Jo.putl, List.foldl_cons, List.foldl_nil, Act.put, List.setIfInBounds_toArray, List.set_cons_zero, List.set_cons_succ] at hK ⊢
      generalize vs 30 = u30 at hK d30 ⊢
      replace d30 : u30 = _ := d30
      subst d30
      go_simp
      exact hK.out _ _ rfl (Below.refl _ _)
    refine Jo.jcons (i := 36) (o := ⟨some 63, _, _, _, _, _⟩) (di := some 63) (L := [(some 57, 30), (some 61, 34), (some 62, 35)]) (f := Jo.Fact.num (nx b2 x)) rfl rfl rfl rfl (fun vs wj hJ hd K hK => ?_) ?_
    · have d30 : (Jo.Fact.eq (.bool true)).P (vs 30) wj := hd 30 (by decide)
      have d34 : (Jo.Fact.eq (.agg #[.int .i64 D0, .bool s0, .int .u64 M0, .int .i64 E0])).P (vs 34) wj := hd 34 (by decide)
      have d35 : (Jo.Fact.eq (.bool b2)).P (vs 35) wj := hd 35 (by decide)
      clear hd
      simp only [Jo.putl, List.foldl_cons, List.foldl_nil, Act.put, List.setIfInBounds_toArray, List.set_cons_zero, List.set_cons_succ] at hK ⊢
      generalize vs 30 = u30 at hK d30 ⊢
      generalize vs 34 = u34 at hK d34 ⊢
      generalize vs 35 = u35 at hK d35 ⊢
      replace d30 : u30 = _ := d30
      subst d30
      replace d34 : u34 = _ := d34
      subst d34
      replace d35 : u35 = _ := d35
      subst d35
      go_simp
      refine (yNext u0 (by rw [HX.out])).mono ?_
      rintro ee wk ⟨K7, s7, M7, E7, rfl, q7, B⟩
      exact hK.out _ _ ⟨K7, s7, M7, E7, rfl, q7⟩ B
    refine Jo.jcons (i := 37) (o := ⟨some 64, _, _, _, _, _⟩) (di := some 64) (L := [(some 57, 30), (some 60, 33), (some 63, 36)]) (f := Jo.Fact.eq (.bool true)) rfl rfl rfl rfl (fun vs wj hJ hd K hK => ?_) ?_
    · have d30 : (Jo.Fact.eq (.bool true)).P (vs 30) wj := hd 30 (by decide)
      have d33 : (Jo.Fact.num (nx b2 x)).P (vs 33) wj := hd 33 (by decide)
      have d36 : (Jo.Fact.num (nx b2 x)).P (vs 36) wj := hd 36 (by decide)
      clear hd
      simp only [Jo.putl, List.foldl_cons, List.foldl_nil, Act.put, List.setIfInBounds_toArray, List.set_cons_zero, List.set_cons_succ] at hK ⊢
      generalize vs 30 = u30 at hK d30 ⊢
      generalize vs 33 = u33 at hK d33 ⊢
      generalize vs 36 = u36 at hK d36 ⊢
      replace d30 : u30 = _ := d30
      subst d30
      obtain ⟨K6, s6, M6, E6, rfl, q6⟩ := d33
      obtain ⟨K7, s7, M7, E7, rfl, q7⟩ := d36
      obtain ⟨rfl, rfl, rfl, rfl⟩ := q6.uniq q7
      go_simp
      exact hK.out _ _ (by first | rfl | (show Value.bool _ = Value.bool _; simp)) (Below.refl _ _)
    refine Jo.jcons (i := 38) (o := ⟨some 65, _, _, _, _, _⟩) (di := some 65) (L := [(some 57, 30), (some 64, 37)]) (f := Jo.Fact.eq (.bool true)) rfl rfl rfl rfl (fun vs wj hJ hd K hK => ?_) ?_
    · have d30 : (Jo.Fact.eq (.bool true)).P (vs 30) wj := hd 30 (by decide)
      have d37 : (Jo.Fact.eq (.bool true)).P (vs 37) wj := hd 37 (by decide)
      clear hd
      simp only [Jo.putl, List.foldl_cons, List.foldl_nil, Act.put, List.setIfInBounds_toArray, List.set_cons_zero, List.set_cons_succ] at hK ⊢
      generalize vs 30 = u30 at hK d30 ⊢
      generalize vs 37 = u37 at hK d37 ⊢
      replace d30 : u30 = _ := d30
      subst d30
      replace d37 : u37 = _ := d37
      subst d37
      go_simp
      exact hK.out _ _ rfl (Below.refl _ _)
    refine Jo.jcons (i := 39) (o := ⟨some 66, _, _, _, _, _⟩) (di := some 66) (L := [(some 65, 38)]) (f := Jo.Fact.eq (.bool true)) rfl rfl rfl rfl (fun vs wj hJ hd K hK => ?_) ?_
    · have d38 : (Jo.Fact.eq (.bool true)).P (vs 38) wj := hd 38 (by decide)
      clear hd
      simp only [Jo.putl, List.foldl_cons, List.foldl_nil, Act.put, List.setIfInBounds_toArray, List.set_cons_zero, List.set_cons_succ] at hK ⊢
      generalize vs 38 = u38 at hK d38 ⊢
      replace d38 : u38 = _ := d38
      subst d38
      go_simp
      exact hK.out _ _ rfl (Below.refl _ _)
    refine Jo.jcons (i := 40) (o := ⟨some 67, _, _, _, _, _⟩) (di := some 67) (L := [(some 66, 39)]) (f := Jo.Fact.eq (.agg #[.int .i64 D0, .bool s0, .int .u64 M0, .int .i64 E0])) rfl rfl rfl rfl (fun vs wj hJ hd K hK => ?_) ?_
    · have d39 : (Jo.Fact.eq (.bool true)).P (vs 39) wj := hd 39 (by decide)
      clear hd
      simp only [Jo.putl, List.foldl_cons, List.foldl_nil, Act.put, List.setIfInBounds_toArray, List.set_cons_zero, List.set_cons_succ] at hK ⊢
      generalize vs 39 = u39 at hK d39 ⊢
      replace d39 : u39 = _ := d39
      subst d39
      have xX00 : World.cell? wj ⟨w.heap.size, 0, none⟩ = some (.int .i64 D0) := (X0.below hJ).cell 0
      have xX01 : World.cell? wj ⟨w.heap.size, 1, none⟩ = some (.bool s0) := (X0.below hJ).cell 1
      have xX02 : World.cell? wj ⟨w.heap.size, 2, none⟩ = some (.int .u64 M0) := (X0.below hJ).cell 2
      have xX03 : World.cell? wj ⟨w.heap.size, 3, none⟩ = some (.int .i64 E0) := (X0.below hJ).cell 3
      go_simp
      exact hK.out _ _ rfl (Below.refl _ _)
    refine Jo.jcons (i := 41) (o := ⟨some 68, _, _, _, _, _⟩) (di := some 68) (L := [(some 66, 39)]) (f := Jo.Fact.eq (.agg #[.int .i64 D1, .bool s1, .int .u64 M1, .int .i64 E1])) rfl rfl rfl rfl (fun vs wj hJ hd K hK => ?_) ?_
    · have d39 : (Jo.Fact.eq (.bool true)).P (vs 39) wj := hd 39 (by decide)
      clear hd
      simp only [Jo.putl, List.foldl_cons, List.foldl_nil, Act.put, List.setIfInBounds_toArray, List.set_cons_zero, List.set_cons_succ] at hK ⊢
      generalize vs 39 = u39 at hK d39 ⊢
      replace d39 : u39 = _ := d39
      subst d39
      have xX10 : World.cell? wj ⟨w.heap.size + 1, 0, none⟩ = some (.int .i64 D1) := (X1.below hJ).cell 0
      have xX11 : World.cell? wj ⟨w.heap.size + 1, 1, none⟩ = some (.bool s1) := (X1.below hJ).cell 1
      have xX12 : World.cell? wj ⟨w.heap.size + 1, 2, none⟩ = some (.int .u64 M1) := (X1.below hJ).cell 2
      have xX13 : World.cell? wj ⟨w.heap.size + 1, 3, none⟩ = some (.int .i64 E1) := (X1.below hJ).cell 3
      go_simp
      exact hK.out _ _ rfl (Below.refl _ _)
    refine Jo.jcons (i := 42) (o := ⟨some 69, _, _, _, _, _⟩) (di := some 69) (L := [(some 66, 39), (some 67, 40), (some 68, 41)]) (f := Jo.Fact.eq (.int .i64 τ)) rfl rfl rfl rfl (fun vs wj hJ hd K hK => ?_) ?_
    · have d39 : (Jo.Fact.eq (.bool true)).P (vs 39) wj := hd 39 (by decide)
      have d40 : (Jo.Fact.eq (.agg #[.int .i64 D0, .bool s0, .int .u64 M0, .int .i64 E0])).P (vs 40) wj := hd 40 (by decide)
      have d41 : (Jo.Fact.eq (.agg #[.int .i64 D1, .bool s1, .int .u64 M1, .int .i64 E1])).P (vs 41) wj := hd 41 (by decide)
      clear hd
      simp only [Jo.putl, List.foldl_cons, List.foldl_nil, Act.put, List.setIfInBounds_toArray, List.set_cons_zero, List.set_cons_succ] at hK ⊢
      generalize vs 39 = u39 at hK d39 ⊢
      generalize vs 40 = u40 at hK d40 ⊢
      generalize vs 41 = u41 at hK d41 ⊢
      replace d39 : u39 = _ := d39
      subst d39
      replace d40 : u40 = _ := d40
      subst d40
      replace d41 : u41 = _ := d41
      subst d41
      go_simp
      refine (nCmp u0 u1 HC.out).mono ?_
      rintro ee wk ⟨rfl, B⟩
      exact hK.out _ _ rfl B
    refine Jo.jcons (i := 43) (o := ⟨some 70, _, _, _, _, _⟩) (di := some 70) (L := [(some 66, 39)]) (f := Jo.Fact.eq (.agg #[.int .i64 D0, .bool s0, .int .u64 M0, .int .i64 E0])) rfl rfl rfl rfl (fun vs wj hJ hd K hK => ?_) ?_
    · have d39 : (Jo.Fact.eq (.bool true)).P (vs 39) wj := hd 39 (by decide)
      clear hd
      simp only [Jo.putl, List.foldl_cons, List.foldl_nil, Act.put, List.setIfInBounds_toArray, List.set_cons_zero, List.set_cons_succ] at hK ⊢
      generalize vs 39 = u39 at hK d39 ⊢
      replace d39 : u39 = _ := d39
      subst d39
      have xX00 : World.cell? wj ⟨w.heap.size, 0, none⟩ = some (.int .i64 D0) := (X0.below hJ).cell 0
      have xX01 : World.cell? wj ⟨w.heap.size, 1, none⟩ = some (.bool s0) := (X0.below hJ).cell 1
      have xX02 : World.cell? wj ⟨w.heap.size, 2, none⟩ = some (.int .u64 M0) := (X0.below hJ).cell 2
      have xX03 : World.cell? wj ⟨w.heap.size, 3, none⟩ = some (.int .i64 E0) := (X0.below hJ).cell 3
      go_simp
      exact hK.out _ _ rfl (Below.refl _ _)
    refine Jo.jcons (i := 44) (o := ⟨some 71, _, _, _, _, _⟩) (di := some 71) (L := [(some 66, 39)]) (f := Jo.Fact.eq (.agg #[.int .i64 D1, .bool s1, .int .u64 M1, .int .i64 E1])) rfl rfl rfl rfl (fun vs wj hJ hd K hK => ?_) ?_
    · have d39 : (Jo.Fact.eq (.bool true)).P (vs 39) wj := hd 39 (by decide)
      clear hd
      simp only [Jo.putl, List.foldl_cons, List.foldl_nil, Act.put, List.setIfInBounds_toArray, List.set_cons_zero, List.set_cons_succ] at hK ⊢
      generalize vs 39 = u39 at hK d39 ⊢
      replace d39 : u39 = _ := d39
      subst d39
      have xX10 : World.cell? wj ⟨w.heap.size + 1, 0, none⟩ = some (.int .i64 D1) := (X1.below hJ).cell 0
      have xX11 : World.cell? wj ⟨w.heap.size + 1, 1, none⟩ = some (.bool s1) := (X1.below hJ).cell 1
      have xX12 : World.cell? wj ⟨w.heap.size + 1, 2, none⟩ = some (.int .u64 M1) := (X1.below hJ).cell 2
      have xX13 : World.cell? wj ⟨w.heap.size + 1, 3, none⟩ = some (.int .i64 E1) := (X1.below hJ).cell 3
      go_simp
      exact hK.out _ _ rfl (Below.refl _ _)
    refine Jo.jcons (i := 45) (o := ⟨some 72, _, _, _, _, _⟩) (di := some 72) (L := [(some 66, 39), (some 70, 43), (some 71, 44)]) (f := Jo.Fact.eq (.int .i64 τ)) rfl rfl rfl rfl (fun vs wj hJ hd K hK => ?_) ?_
    · have d39 : (Jo.Fact.eq (.bool true)).P (vs 39) wj := hd 39 (by decide)
      have d43 : (Jo.Fact.eq (.agg #[.int .i64 D0, .bool s0, .int .u64 M0, .int .i64 E0])).P (vs 43) wj := hd 43 (by decide)
      have d44 : (Jo.Fact.eq (.agg #[.int .i64 D1, .bool s1, .int .u64 M1, .int .i64 E1])).P (vs 44) wj := hd 44 (by decide)
      clear hd
      simp only [Jo.putl, List.foldl_cons, List.foldl_nil, Act.put, List.setIfInBounds_toArray, List.set_cons_zero, List.set_cons_succ] at hK ⊢
      generalize vs 39 = u39 at hK d39 ⊢
      generalize vs 43 = u43 at hK d43 ⊢
      generalize vs 44 = u44 at hK d44 ⊢
      replace d39 : u39 = _ := d39
      subst d39
      replace d43 : u43 = _ := d43
      subst d43
      replace d44 : u44 = _ := d44
      subst d44
      go_simp
      refine (yCmp u0 u1 HC.out).mono ?_
      rintro ee wk ⟨rfl, B⟩
      exact hK.out _ _ rfl B
    refine Jo.jcons (i := 46) (o := ⟨some 73, _, _, _, _, _⟩) (di := some 73) (L := [(some 66, 39), (some 69, 42), (some 72, 45)]) (f := Jo.Fact.eq (.bool true)) rfl rfl rfl rfl (fun vs wj hJ hd K hK => ?_) ?_
    · have d39 : (Jo.Fact.eq (.bool true)).P (vs 39) wj := hd 39 (by decide)
      have d42 : (Jo.Fact.eq (.int .i64 τ)).P (vs 42) wj := hd 42 (by decide)
      have d45 : (Jo.Fact.eq (.int .i64 τ)).P (vs 45) wj := hd 45 (by decide)
      clear hd
      simp only [Jo.putl, List.foldl_cons, List.foldl_nil, Act.put, List.setIfInBounds_toArray, List.set_cons_zero, List.set_cons_succ] at hK ⊢
      generalize vs 39 = u39 at hK d39 ⊢
      generalize vs 42 = u42 at hK d42 ⊢
      generalize vs 45 = u45 at hK d45 ⊢
      replace d39 : u39 = _ := d39
      subst d39
      replace d42 : u42 = _ := d42
      subst d42
      replace d45 : u45 = _ := d45
      subst d45
      go_simp
      exact hK.out _ _ (by first | rfl | simp) (Below.refl _ _)
    refine Jo.jcons (i := 47) (o := ⟨some 74, _, _, _, _, _⟩) (di := some 74) (L := [(some 66, 39), (some 73, 46)]) (f := Jo.Fact.eq (.bool true)) rfl rfl rfl rfl (fun vs wj hJ hd K hK => ?_) ?_
    · have d39 : (Jo.Fact.eq (.bool true)).P (vs 39) wj := hd 39 (by decide)
      have d46 : (Jo.Fact.eq (.bool true)).P (vs 46) wj := hd 46 (by decide)
      clear hd
      simp only [Jo.putl, List.foldl_cons, List.foldl_nil, Act.put, List.setIfInBounds_toArray, List.set_cons_zero, List.set_cons_succ] at hK ⊢
      generalize vs 39 = u39 at hK d39 ⊢
      generalize vs 46 = u46 at hK d46 ⊢
      replace d39 : u39 = _ := d39
      subst d39
      replace d46 : u46 = _ := d46
      subst d46
      go_simp
      exact hK.out _ _ rfl (Below.refl _ _)
    refine Jo.jcons (i := 48) (o := ⟨some 75, _, _, _, _, _⟩) (di := some 75) (L := [(some 74, 47)]) (f := Jo.Fact.eq (.bool true)) rfl rfl rfl rfl (fun vs wj hJ hd K hK => ?_) ?_
    · have d47 : (Jo.Fact.eq (.bool true)).P (vs 47) wj := hd 47 (by decide)
      clear hd
      simp only [Jo.putl, List.foldl_cons, List.foldl_nil, Act.put, List.setIfInBounds_toArray, List.set_cons_zero, List.set_cons_succ] at hK ⊢
      generalize vs 47 = u47 at hK d47 ⊢
      replace d47 : u47 = _ := d47
      subst d47
      go_simp
      exact hK.out _ _ rfl (Below.refl _ _)
    refine Jo.jcons (i := 49) (o := ⟨some 76, _, _, _, _, _⟩) (di := some 76) (L := [(some 75, 48)]) (f := Jo.Fact.eq (.bool b2)) rfl rfl rfl rfl (fun vs wj hJ hd K hK => ?_) ?_
    · have d48 : (Jo.Fact.eq (.bool true)).P (vs 48) wj := hd 48 (by decide)
      clear hd
      simp only [Jo.putl, List.foldl_cons, List.foldl_nil, Act.put, List.setIfInBounds_toArray, List.set_cons_zero, List.set_cons_succ] at hK ⊢
      generalize vs 48 = u48 at hK d48 ⊢
      replace d48 : u48 = _ := d48
      subst d48
      go_simp
      exact hK.out _ _ rfl (Below.refl _ _)
    refine Jo.jcons (i := 50) (o := ⟨some 77, _, _, _, _, _⟩) (di := some 77) (L := [(some 75, 48), (some 76, 49)]) (f := Jo.Fact.num (sgi b2 TP)) rfl rfl rfl rfl (fun vs wj hJ hd K hK => ?_) ?_
    · have d48 : (Jo.Fact.eq (.bool true)).P (vs 48) wj := hd 48 (by decide)
      have d49 : (Jo.Fact.eq (.bool b2)).P (vs 49) wj := hd 49 (by decide)
      clear hd
      simp only [Jo.putl, List.foldl_cons, List.foldl_nil, Act.put, List.setIfInBounds_toArray, List.set_cons_zero, List.set_cons_succ] at hK ⊢
      generalize vs 48 = u48 at hK d48 ⊢
      generalize vs 49 = u49 at hK d49 ⊢
      replace d48 : u48 = _ := d48
      subst d48
      replace d49 : u49 = _ := d49
      subst d49
      go_simp
      refine (nInf rfl).mono ?_
      rintro ee wk ⟨K8, s8, M8, E8, rfl, q8, B⟩
      exact hK.out _ _ ⟨K8, s8, M8, E8, rfl, q8⟩ B
    refine Jo.jcons (i := 51) (o := ⟨some 78, _, _, _, _, _⟩) (di := some 78) (L := [(some 75, 48)]) (f := Jo.Fact.eq (.bool b2)) rfl rfl rfl rfl (fun vs wj hJ hd K hK => ?_) ?_
    · have d48 : (Jo.Fact.eq (.bool true)).P (vs 48) wj := hd 48 (by decide)
      clear hd
      simp only [Jo.putl, List.foldl_cons, List.foldl_nil, Act.put, List.setIfInBounds_toArray, List.set_cons_zero, List.set_cons_succ] at hK ⊢
      generalize vs 48 = u48 at hK d48 ⊢
      replace d48 : u48 = _ := d48
      subst d48
      go_simp
      exact hK.out _ _ rfl (Below.refl _ _)
    refine Jo.jcons (i := 52) (o := ⟨some 79, _, _, _, _, _⟩) (di := some 79) (L := [(some 75, 48), (some 78, 51)]) (f := Jo.Fact.num (sgi b2 TP)) rfl rfl rfl rfl (fun vs wj hJ hd K hK => ?_) ?_
    · have d48 : (Jo.Fact.eq (.bool true)).P (vs 48) wj := hd 48 (by decide)
      have d51 : (Jo.Fact.eq (.bool b2)).P (vs 51) wj := hd 51 (by decide)
      clear hd
      simp only [Jo.putl, List.foldl_cons, List.foldl_nil, Act.put, List.setIfInBounds_toArray, List.set_cons_zero, List.set_cons_succ] at hK ⊢
      generalize vs 48 = u48 at hK d48 ⊢
      generalize vs 51 = u51 at hK d51 ⊢
      replace d48 : u48 = _ := d48
      subst d48
      replace d51 : u51 = _ := d51
      subst d51
      go_simp
      refine (yInf rfl).mono ?_
      rintro ee wk ⟨K9, s9, M9, E9, rfl, q9, B⟩
      exact hK.out _ _ ⟨K9, s9, M9, E9, rfl, q9⟩ B
    refine Jo.jcons (i := 53) (o := ⟨some 80, _, _, _, _, _⟩) (di := some 80) (L := [(some 75, 48), (some 77, 50), (some 79, 52)]) (f := Jo.Fact.eq (.bool true)) rfl rfl rfl rfl (fun vs wj hJ hd K hK => ?_) ?_
    · have d48 : (Jo.Fact.eq (.bool true)).P (vs 48) wj := hd 48 (by decide)
      have d50 : (Jo.Fact.num (sgi b2 TP)).P (vs 50) wj := hd 50 (by decide)
      have d52 : (Jo.Fact.num (sgi b2 TP)).P (vs 52) wj := hd 52 (by decide)
      clear hd
      simp only [Jo.putl, List.foldl_cons, List.foldl_nil, Act.put, List.setIfInBounds_toArray, List.set_cons_zero, List.set_cons_succ] at hK ⊢
      generalize vs 48 = u48 at hK d48 ⊢
      generalize vs 50 = u50 at hK d50 ⊢
      generalize vs 52 = u52 at hK d52 ⊢
      replace d48 : u48 = _ := d48
      subst d48
      obtain ⟨K8, s8, M8, E8, rfl, q8⟩ := d50
      obtain ⟨K9, s9, M9, E9, rfl, q9⟩ := d52
      obtain ⟨rfl, rfl, rfl, rfl⟩ := q8.uniq q9
      go_simp
      exact hK.out _ _ (by first | rfl | (show Value.bool _ = Value.bool _; simp)) (Below.refl _ _)
    refine Jo.jcons (i := 54) (o := ⟨some 81, _, _, _, _, _⟩) (di := some 81) (L := [(some 75, 48), (some 80, 53)]) (f := Jo.Fact.eq (.bool true)) rfl rfl rfl rfl (fun vs wj hJ hd K hK => ?_) ?_
    · have d48 : (Jo.Fact.eq (.bool true)).P (vs 48) wj := hd 48 (by decide)
      have d53 : (Jo.Fact.eq (.bool true)).P (vs 53) wj := hd 53 (by decide)
      clear hd
      simp only [Jo.putl, List.foldl_cons, List.foldl_nil, Act.put, List.setIfInBounds_toArray, List.set_cons_zero, List.set_cons_succ] at hK ⊢
      generalize vs 48 = u48 at hK d48 ⊢
      generalize vs 53 = u53 at hK d53 ⊢
      replace d48 : u48 = _ := d48
      subst d48
      replace d53 : u53 = _ := d53
      subst d53
      go_simp
      exact hK.out _ _ rfl (Below.refl _ _)
    refine Jo.jcons (i := 55) (o := ⟨some 6, _, _, _, _, _⟩) (di := some 6) (L := [(some 81, 54)]) (f := Jo.Fact.eq (.bool true)) rfl rfl rfl rfl (fun vs wj hJ hd K hK => ?_) ?_
    · have d54 : (Jo.Fact.eq (.bool true)).P (vs 54) wj := hd 54 (by decide)
      clear hd
      simp only [Jo.putl, List.foldl_cons, List.foldl_nil, Act.put, List.setIfInBounds_toArray, List.set_cons_zero, List.set_cons_succ] at hK ⊢
      generalize vs 54 = u54 at hK d54 ⊢
      replace d54 : u54 = _ := d54
      subst d54
      go_simp
      exact hK.out _ _ rfl (Below.refl _ _)
    exact Jo.Steps.nil
  have d0 : (Jo.Fact.eq (.bool true)).P (vs 0) w8 := hd 0 (by decide)
  have d1 : (Jo.Fact.eq (.bool true)).P (vs 1) w8 := hd 1 (by decide)
  have d2 : (Jo.Fact.eq (.bool true)).P (vs 2) w8 := hd 2 (by decide)
  have d3 : (Jo.Fact.eq (.bool true)).P (vs 3) w8 := hd 3 (by decide)
  have d4 : (Jo.Fact.eq (.bool true)).P (vs 4) w8 := hd 4 (by decide)
  have d5 : (Jo.Fact.eq (.bool t)).P (vs 5) w8 := hd 5 (by decide)
  have d6 : (Jo.Fact.eq (.bool t)).P (vs 6) w8 := hd 6 (by decide)
  have d7 : (Jo.Fact.eq (.bool true)).P (vs 7) w8 := hd 7 (by decide)
  have d8 : (Jo.Fact.eq (.bool true)).P (vs 8) w8 := hd 8 (by decide)
  have d9 : (Jo.Fact.eq (.bool true)).P (vs 9) w8 := hd 9 (by decide)
  have d10 : (Jo.Fact.eq (.agg #[.int .i64 D0, .bool s0, .int .u64 M0, .int .i64 E0])).P (vs 10) w8 := hd 10 (by decide)
  have d11 : (Jo.Fact.eq (.bool m)).P (vs 11) w8 := hd 11 (by decide)
  have d12 : (Jo.Fact.eq (.agg #[.int .i64 D0, .bool s0, .int .u64 M0, .int .i64 E0])).P (vs 12) w8 := hd 12 (by decide)
  have d13 : (Jo.Fact.eq (.bool m)).P (vs 13) w8 := hd 13 (by decide)
  have d14 : (Jo.Fact.eq (.bool true)).P (vs 14) w8 := hd 14 (by decide)
  have d15 : (Jo.Fact.eq (.bool true)).P (vs 15) w8 := hd 15 (by decide)
  have d16 : (Jo.Fact.eq (.bool true)).P (vs 16) w8 := hd 16 (by decide)
  have d17 : (Jo.Fact.eq (.agg #[.int .i64 D0, .bool s0, .int .u64 M0, .int .i64 E0])).P (vs 17) w8 := hd 17 (by decide)
  have d18 : (Jo.Fact.eq (.int .i64 σ)).P (vs 18) w8 := hd 18 (by decide)
  have d19 : (Jo.Fact.eq (.agg #[.int .i64 D0, .bool s0, .int .u64 M0, .int .i64 E0])).P (vs 19) w8 := hd 19 (by decide)
  have d20 : (Jo.Fact.eq (.int .i64 σ)).P (vs 20) w8 := hd 20 (by decide)
  have d21 : (Jo.Fact.eq (.bool true)).P (vs 21) w8 := hd 21 (by decide)
  have d22 : (Jo.Fact.eq (.bool true)).P (vs 22) w8 := hd 22 (by decide)
  have d23 : (Jo.Fact.eq (.bool true)).P (vs 23) w8 := hd 23 (by decide)
  have d24 : (Jo.Fact.eq (.agg #[.int .i64 D0, .bool s0, .int .u64 M0, .int .i64 E0])).P (vs 24) w8 := hd 24 (by decide)
  have d25 : (Jo.Fact.num (-x)).P (vs 25) w8 := hd 25 (by decide)
  have d26 : (Jo.Fact.eq (.agg #[.int .i64 D0, .bool s0, .int .u64 M0, .int .i64 E0])).P (vs 26) w8 := hd 26 (by decide)
  have d27 : (Jo.Fact.num (-x)).P (vs 27) w8 := hd 27 (by decide)
  have d28 : (Jo.Fact.eq (.bool true)).P (vs 28) w8 := hd 28 (by decide)
  have d29 : (Jo.Fact.eq (.bool true)).P (vs 29) w8 := hd 29 (by decide)
  have d30 : (Jo.Fact.eq (.bool true)).P (vs 30) w8 := hd 30 (by decide)
  have d31 : (Jo.Fact.eq (.agg #[.int .i64 D0, .bool s0, .int .u64 M0, .int .i64 E0])).P (vs 31) w8 := hd 31 (by decide)
  have d32 : (Jo.Fact.eq (.bool b2)).P (vs 32) w8 := hd 32 (by decide)
  have d33 : (Jo.Fact.num (nx b2 x)).P (vs 33) w8 := hd 33 (by decide)
  have d34 : (Jo.Fact.eq (.agg #[.int .i64 D0, .bool s0, .int .u64 M0, .int .i64 E0])).P (vs 34) w8 := hd 34 (by decide)
  have d35 : (Jo.Fact.eq (.bool b2)).P (vs 35) w8 := hd 35 (by decide)
  have d36 : (Jo.Fact.num (nx b2 x)).P (vs 36) w8 := hd 36 (by decide)
  have d37 : (Jo.Fact.eq (.bool true)).P (vs 37) w8 := hd 37 (by decide)
  have d38 : (Jo.Fact.eq (.bool true)).P (vs 38) w8 := hd 38 (by decide)
  have d39 : (Jo.Fact.eq (.bool true)).P (vs 39) w8 := hd 39 (by decide)
  have d40 : (Jo.Fact.eq (.agg #[.int .i64 D0, .bool s0, .int .u64 M0, .int .i64 E0])).P (vs 40) w8 := hd 40 (by decide)
  have d41 : (Jo.Fact.eq (.agg #[.int .i64 D1, .bool s1, .int .u64 M1, .int .i64 E1])).P (vs 41) w8 := hd 41 (by decide)
  have d42 : (Jo.Fact.eq (.int .i64 τ)).P (vs 42) w8 := hd 42 (by decide)
  have d43 : (Jo.Fact.eq (.agg #[.int .i64 D0, .bool s0, .int .u64 M0, .int .i64 E0])).P (vs 43) w8 := hd 43 (by decide)
  have d44 : (Jo.Fact.eq (.agg #[.int .i64 D1, .bool s1, .int .u64 M1, .int .i64 E1])).P (vs 44) w8 := hd 44 (by decide)
  have d45 : (Jo.Fact.eq (.int .i64 τ)).P (vs 45) w8 := hd 45 (by decide)
  have d46 : (Jo.Fact.eq (.bool true)).P (vs 46) w8 := hd 46 (by decide)
  have d47 : (Jo.Fact.eq (.bool true)).P (vs 47) w8 := hd 47 (by decide)
  have d48 : (Jo.Fact.eq (.bool true)).P (vs 48) w8 := hd 48 (by decide)
  have d49 : (Jo.Fact.eq (.bool b2)).P (vs 49) w8 := hd 49 (by decide)
  have d50 : (Jo.Fact.num (sgi b2 TP)).P (vs 50) w8 := hd 50 (by decide)
  have d51 : (Jo.Fact.eq (.bool b2)).P (vs 51) w8 := hd 51 (by decide)
  have d52 : (Jo.Fact.num (sgi b2 TP)).P (vs 52) w8 := hd 52 (by decide)
  have d53 : (Jo.Fact.eq (.bool true)).P (vs 53) w8 := hd 53 (by decide)
  have d54 : (Jo.Fact.eq (.bool true)).P (vs 54) w8 := hd 54 (by decide)
  have d55 : (Jo.Fact.eq (.bool true)).P (vs 55) w8 := hd 55 (by decide)
  clear hd
  simp only [Jo.putl, List.foldl_cons, List.foldl_nil, Act.put, List.setIfInBounds_toArray, List.set_cons_zero, List.set_cons_succ]
  generalize vs 0 = u0 at d0 ⊢
  generalize vs 1 = u1 at d1 ⊢
  generalize vs 2 = u2 at d2 ⊢
  generalize vs 3 = u3 at d3 ⊢
  generalize vs 4 = u4 at d4 ⊢
  generalize vs 5 = u5 at d5 ⊢
  generalize vs 6 = u6 at d6 ⊢
  generalize vs 7 = u7 at d7 ⊢
  generalize vs 8 = u8 at d8 ⊢
  generalize vs 9 = u9 at d9 ⊢
  generalize vs 10 = u10 at d10 ⊢
  generalize vs 11 = u11 at d11 ⊢
  generalize vs 12 = u12 at d12 ⊢
  generalize vs 13 = u13 at d13 ⊢
  generalize vs 14 = u14 at d14 ⊢
  generalize vs 15 = u15 at d15 ⊢
  generalize vs 16 = u16 at d16 ⊢
  generalize vs 17 = u17 at d17 ⊢
  generalize vs 18 = u18 at d18 ⊢
  generalize vs 19 = u19 at d19 ⊢
  generalize vs 20 = u20 at d20 ⊢
  generalize vs 21 = u21 at d21 ⊢
  generalize vs 22 = u22 at d22 ⊢
  generalize vs 23 = u23 at d23 ⊢
  generalize vs 24 = u24 at d24 ⊢
  generalize vs 25 = u25 at d25 ⊢
  generalize vs 26 = u26 at d26 ⊢
  generalize vs 27 = u27 at d27 ⊢
  generalize vs 28 = u28 at d28 ⊢
  generalize vs 29 = u29 at d29 ⊢
  generalize vs 30 = u30 at d30 ⊢
  generalize vs 31 = u31 at d31 ⊢
  generalize vs 32 = u32 at d32 ⊢
  generalize vs 33 = u33 at d33 ⊢
  generalize vs 34 = u34 at d34 ⊢
  generalize vs 35 = u35 at d35 ⊢
  generalize vs 36 = u36 at d36 ⊢
  generalize vs 37 = u37 at d37 ⊢
  generalize vs 38 = u38 at d38 ⊢
  generalize vs 39 = u39 at d39 ⊢
  generalize vs 40 = u40 at d40 ⊢
  generalize vs 41 = u41 at d41 ⊢
  generalize vs 42 = u42 at d42 ⊢
  generalize vs 43 = u43 at d43 ⊢
  generalize vs 44 = u44 at d44 ⊢
  generalize vs 45 = u45 at d45 ⊢
  generalize vs 46 = u46 at d46 ⊢
  generalize vs 47 = u47 at d47 ⊢
  generalize vs 48 = u48 at d48 ⊢
  generalize vs 49 = u49 at d49 ⊢
  generalize vs 50 = u50 at d50 ⊢
  generalize vs 51 = u51 at d51 ⊢
  generalize vs 52 = u52 at d52 ⊢
  generalize vs 53 = u53 at d53 ⊢
  generalize vs 54 = u54 at d54 ⊢
  generalize vs 55 = u55 at d55 ⊢
  clear vs
  replace d0 : u0 = _ := d0
  subst d0
  replace d1 : u1 = _ := d1
  subst d1
  replace d2 : u2 = _ := d2
  subst d2
  replace d3 : u3 = _ := d3
  subst d3
  replace d4 : u4 = _ := d4
  subst d4
  replace d5 : u5 = _ := d5
  subst d5
  replace d6 : u6 = _ := d6
  subst d6
  replace d7 : u7 = _ := d7
  subst d7
  replace d8 : u8 = _ := d8
  subst d8
  replace d9 : u9 = _ := d9
  subst d9
  replace d10 : u10 = _ := d10
  subst d10
  replace d11 : u11 = _ := d11
  subst d11
  replace d12 : u12 = _ := d12
  subst d12
  replace d13 : u13 = _ := d13
  subst d13
  replace d14 : u14 = _ := d14
  subst d14
  replace d15 : u15 = _ := d15
  subst d15
  replace d16 : u16 = _ := d16
  subst d16
  replace d17 : u17 = _ := d17
  subst d17
  replace d18 : u18 = _ := d18
  subst d18
  replace d19 : u19 = _ := d19
  subst d19
  replace d20 : u20 = _ := d20
  subst d20
  replace d21 : u21 = _ := d21
  subst d21
  replace d22 : u22 = _ := d22
  subst d22
  replace d23 : u23 = _ := d23
  subst d23
  replace d24 : u24 = _ := d24
  subst d24
  obtain ⟨K4, s4, M4, E4, rfl, _⟩ := d25
  replace d26 : u26 = _ := d26
  subst d26
  obtain ⟨K5, s5, M5, E5, rfl, _⟩ := d27
  replace d28 : u28 = _ := d28
  subst d28
  replace d29 : u29 = _ := d29
  subst d29
  replace d30 : u30 = _ := d30
  subst d30
  replace d31 : u31 = _ := d31
  subst d31
  replace d32 : u32 = _ := d32
  subst d32
  obtain ⟨K6, s6, M6, E6, rfl, _⟩ := d33
  replace d34 : u34 = _ := d34
  subst d34
  replace d35 : u35 = _ := d35
  subst d35
  obtain ⟨K7, s7, M7, E7, rfl, _⟩ := d36
  replace d37 : u37 = _ := d37
  subst d37
  replace d38 : u38 = _ := d38
  subst d38
  replace d39 : u39 = _ := d39
  subst d39
  replace d40 : u40 = _ := d40
  subst d40
  replace d41 : u41 = _ := d41
  subst d41
  replace d42 : u42 = _ := d42
  subst d42
  replace d43 : u43 = _ := d43
  subst d43
  replace d44 : u44 = _ := d44
  subst d44
  replace d45 : u45 = _ := d45
  subst d45
  replace d46 : u46 = _ := d46
  subst d46
  replace d47 : u47 = _ := d47
  subst d47
  replace d48 : u48 = _ := d48
  subst d48
  replace d49 : u49 = _ := d49
  subst d49
  obtain ⟨K8, s8, M8, E8, rfl, _⟩ := d50
  replace d51 : u51 = _ := d51
  subst d51
  obtain ⟨K9, s9, M9, E9, rfl, _⟩ := d52
  replace d53 : u53 = _ := d53
  subst d53
  replace d54 : u54 = _ := d54
  subst d54
  replace d55 : u55 = _ := d55
  subst d55
  replace X0 := X0.below hJ
  replace X1 := X1.below hJ
  replace HB := Lib.hid (bt HB.out hJ)
  refine Jo.jdone (by kernel_rfl) ?_
  go_wp2
  go_ret
  exact ⟨rfl, HB.out⟩
end Go.Proofs.YthibemmhgdbiiaaDoor

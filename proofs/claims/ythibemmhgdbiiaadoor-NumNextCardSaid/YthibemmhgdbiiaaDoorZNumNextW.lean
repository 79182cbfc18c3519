/-
  The walk of NumNext: for all arguments, where the table lies as it was laid, the call answers true, and nothing that was there has turned.
-/
import Derived.Test.YthibemmhgdbiiaaDoorZay
import Derived.Test.YthibemmhgdbiiaaDoorZba
namespace Go.Proofs.YthibemmhgdbiiaaDoor
open Go.RowKit
set_option linter.unusedVariables false
set_option linter.unusedSimpArgs false
set_option maxRecDepth 100000

set_option maxHeartbeats 8000000 in
theorem numNext_no (D0 : Int) (s0 : Bool) (M0 E0 : Int) (w : World) (hT : Tab w) (hm : decide (MayQ D0 s0 M0 E0) = false) :
    Calls Tryd.prog 8 #[.agg #[.int .i64 D0, .bool s0, .int .u64 M0, .int .i64 E0]] w (PB w true) := by
  have HM := Lib.hid hm
  clear hm
  go_enter Tryd.func8, Tryd.ntmps8
  go_upto_region 1 with (fail)
  have X0 := (Bo.newAt w (g := w.heap.size) (by simp) #[.int .i64 D0, .bool s0, .int .u64 M0, .int .i64 E0] 30)
  have HB := Lib.hid (bel1 w (.cells #[.int .i64 D0, .bool s0, .int .u64 M0, .int .i64 E0] 30))
  replace hT := hT.below HB.out
  generalize hW1 : (w.alloc (.cells #[.int .i64 D0, .bool s0, .int .u64 M0, .int .i64 E0] 30)) = w1 at *
  clear hW1
  go_wp2_with fail
  refine (awake5 _ hT).mono ?_
  rintro ee w2 ⟨rfl, B⟩
  replace X0 := X0.below B
  replace hT := hT.below B
  replace HB := Lib.hid (bt HB.out B)
  clear B
  have xX00 := X0.at (i := 0) (v := .int .i64 D0) rfl
  have xX01 := X0.at (i := 1) (v := .bool s0) rfl
  have xX02 := X0.at (i := 2) (v := .int .u64 M0) rfl
  have xX03 := X0.at (i := 3) (v := .int .i64 E0) rfl
  go_wp2_with fail
  refine (nMay HM.out).mono ?_
  rintro ee w3 ⟨rfl, B⟩
  clear xX00 xX01 xX02 xX03
  replace X0 := X0.below B
  replace hT := hT.below B
  replace HB := Lib.hid (bt HB.out B)
  clear B
  have xX00 := X0.at (i := 0) (v := .int .i64 D0) rfl
  have xX01 := X0.at (i := 1) (v := .bool s0) rfl
  have xX02 := X0.at (i := 2) (v := .int .u64 M0) rfl
  have xX03 := X0.at (i := 3) (v := .int .i64 E0) rfl
  go_wp2
  go_ret
  exact ⟨rfl, HB.out⟩
set_option maxHeartbeats 8000000 in
theorem numNext_inf (D0 : Int) (s0 : Bool) (M0 E0 : Int) (w : World) (hT : Tab w) (hm : decide (MayQ D0 s0 M0 E0) = true) (hd : D0 = 2) :
    Calls Tryd.prog 8 #[.agg #[.int .i64 D0, .bool s0, .int .u64 M0, .int .i64 E0]] w (PB w true) := by
  have HM := Lib.hid hm
  clear hm
  subst hd
  go_enter Tryd.func8, Tryd.ntmps8
  go_upto_region 1 with (fail)
  have X0 := (Bo.newAt w (g := w.heap.size) (by simp) #[.int .i64 2, .bool s0, .int .u64 M0, .int .i64 E0] 30)
  have HB := Lib.hid (bel1 w (.cells #[.int .i64 2, .bool s0, .int .u64 M0, .int .i64 E0] 30))
  replace hT := hT.below HB.out
  generalize hW1 : (w.alloc (.cells #[.int .i64 2, .bool s0, .int .u64 M0, .int .i64 E0] 30)) = w1 at *
  clear hW1
  go_wp2_with fail
  refine (awake5 _ hT).mono ?_
  rintro ee w2 ⟨rfl, B⟩
  replace X0 := X0.below B
  replace hT := hT.below B
  replace HB := Lib.hid (bt HB.out B)
  clear B
  have xX00 := X0.at (i := 0) (v := .int .i64 2) rfl
  have xX01 := X0.at (i := 1) (v := .bool s0) rfl
  have xX02 := X0.at (i := 2) (v := .int .u64 M0) rfl
  have xX03 := X0.at (i := 3) (v := .int .i64 E0) rfl
  go_wp2_with fail
  refine (nMay HM.out).mono ?_
  rintro ee w3 ⟨rfl, B⟩
  clear xX00 xX01 xX02 xX03
  replace X0 := X0.below B
  replace hT := hT.below B
  replace HB := Lib.hid (bt HB.out B)
  clear B
  have xX00 := X0.at (i := 0) (v := .int .i64 2) rfl
  have xX01 := X0.at (i := 1) (v := .bool s0) rfl
  have xX02 := X0.at (i := 2) (v := .int .u64 M0) rfl
  have xX03 := X0.at (i := 3) (v := .int .i64 E0) rfl
  go_wp2
  go_ret
  exact ⟨rfl, HB.out⟩
set_option maxHeartbeats 8000000 in
theorem numNext_main (D0 : Int) (s0 : Bool) (M0 E0 : Int) (w : World) (hT : Tab w) (hM : M0 < 18446744073709551616) (hm : decide (MayQ D0 s0 M0 E0) = true) (hd : D0 ≠ 2) :
    Calls Tryd.prog 8 #[.agg #[.int .i64 D0, .bool s0, .int .u64 M0, .int .i64 E0]] w (PB w true) := by
  have e2 : (D0 == 2) = false := by simpa using hd
  have q0 := rk_fq hM (of_decide_eq_true hm)
  obtain ⟨x, hx⟩ : ∃ x, rk D0 s0 M0 E0 = x := ⟨_, rfl⟩
  have hb : -19342822337206103650074625 < x ∧ x < 19342822337206103650074625 := by
    rw [hx] at q0
    have htp := TP_eq
    rcases q0.cases with ⟨rfl, rfl, rfl, rfl, h0⟩ | ⟨rfl, h1, h2, h3, h4, ⟨rfl, h5⟩ | ⟨rfl, h5⟩⟩ | ⟨rfl, _⟩
    · omega
    · omega
    · omega
    · exact absurd rfl hd
  have htp := TP_eq
  have n1 : nx true x = x + 1 := by
    unfold nx
    rw [if_pos rfl]
    omega
  have n2 : nx false x = x - 1 := by
    unfold nx
    rw [if_neg (by decide)]
    omega
  have n3 : nx false (x + 1) = x := by
    unfold nx
    rw [if_neg (by decide)]
    omega
  have n4 : nx true (x - 1) = x := by
    unfold nx
    rw [if_pos rfl]
    omega
  have n5 : nx false (-x) = -(x + 1) := by
    unfold nx
    rw [if_neg (by decide)]
    omega
  have HM := Lib.hid hm
  have HX := Lib.hid hx
  have HU := Lib.hid (show nx true (rk D0 s0 M0 E0) = x + 1 by rw [hx, n1])
  have HD := Lib.hid (show nx false (rk D0 s0 M0 E0) = x - 1 by rw [hx, n2])
  have HN := Lib.hid (show -rk D0 s0 M0 E0 = -x by rw [hx])
  have N3 := Lib.hid n3
  have N4 := Lib.hid n4
  have N5 := Lib.hid n5
  rw [hx] at q0
  clear hm hx n1 n2 n3 n4 n5 hb htp
  go_enter Tryd.func8, Tryd.ntmps8
  go_upto_region 1 with (fail)
  have X0 := (Bo.newAt w (g := w.heap.size) (by simp) #[.int .i64 D0, .bool s0, .int .u64 M0, .int .i64 E0] 30)
  have HB := Lib.hid (bel1 w (.cells #[.int .i64 D0, .bool s0, .int .u64 M0, .int .i64 E0] 30))
  replace hT := hT.below HB.out
  generalize hW1 : (w.alloc (.cells #[.int .i64 D0, .bool s0, .int .u64 M0, .int .i64 E0] 30)) = w1 at *
  clear hW1
  go_wp2_with fail
  refine (awake5 _ hT).mono ?_
  rintro ee w2 ⟨rfl, B⟩
  replace X0 := X0.below B
  replace hT := hT.below B
  replace HB := Lib.hid (bt HB.out B)
  clear B
  have xX00 := X0.at (i := 0) (v := .int .i64 D0) rfl
  have xX01 := X0.at (i := 1) (v := .bool s0) rfl
  have xX02 := X0.at (i := 2) (v := .int .u64 M0) rfl
  have xX03 := X0.at (i := 3) (v := .int .i64 E0) rfl
  go_wp2_with fail
  refine (nMay HM.out).mono ?_
  rintro ee w3 ⟨rfl, B⟩
  clear xX00 xX01 xX02 xX03
  replace X0 := X0.below B
  replace hT := hT.below B
  replace HB := Lib.hid (bt HB.out B)
  clear B
  have xX00 := X0.at (i := 0) (v := .int .i64 D0) rfl
  have xX01 := X0.at (i := 1) (v := .bool s0) rfl
  have xX02 := X0.at (i := 2) (v := .int .u64 M0) rfl
  have xX03 := X0.at (i := 3) (v := .int .i64 E0) rfl
  go_wp2_with fail
  refine (nNext (up := true) hM HU.out).mono ?_
  rintro ee w4 ⟨K1, s1, M1, E1, rfl, q1, B⟩
  clear xX00 xX01 xX02 xX03
  replace X0 := X0.below B
  replace hT := hT.below B
  replace HB := Lib.hid (bt HB.out B)
  clear B
  go_upto_region 5 with (fail)
  have lX4 := Nat.le_refl (World.heap w4).size
  have nX4X0 := X0.lt
  replace X0 := X0.below (bel1 _ (.cells #[.int .i64 K1, .bool s1, .int .u64 M1, .int .i64 E1] 30))
  replace hT := hT.below (bel1 _ (.cells #[.int .i64 K1, .bool s1, .int .u64 M1, .int .i64 E1] 30))
  replace HB := Lib.hid (bt HB.out (bel1 _ (.cells #[.int .i64 K1, .bool s1, .int .u64 M1, .int .i64 E1] 30)))
  have X4 := Bo.new w4 #[.int .i64 K1, .bool s1, .int .u64 M1, .int .i64 E1] 30
  generalize hWn : World.alloc w4 (.cells #[.int .i64 K1, .bool s1, .int .u64 M1, .int .i64 E1] 30) = w5 at *
  clear hWn
  clear lX4
  have xX00 := X0.at (i := 0) (v := .int .i64 D0) rfl
  have xX01 := X0.at (i := 1) (v := .bool s0) rfl
  have xX02 := X0.at (i := 2) (v := .int .u64 M0) rfl
  have xX03 := X0.at (i := 3) (v := .int .i64 E0) rfl
  go_wp2_with fail
  refine (nNext (up := false) hM HD.out).mono ?_
  rintro ee w6 ⟨K2, s2, M2, E2, rfl, q2, B⟩
  clear xX00 xX01 xX02 xX03
  replace X0 := X0.below B
  replace X4 := X4.below B
  replace hT := hT.below B
  replace HB := Lib.hid (bt HB.out B)
  clear B
  go_upto_region 6 with (fail)
  have lX5 := Nat.le_refl (World.heap w6).size
  have nX5X0 := X0.lt
  have nX5X4 := X4.lt
  replace X0 := X0.below (bel1 _ (.cells #[.int .i64 K2, .bool s2, .int .u64 M2, .int .i64 E2] 30))
  replace X4 := X4.below (bel1 _ (.cells #[.int .i64 K2, .bool s2, .int .u64 M2, .int .i64 E2] 30))
  replace hT := hT.below (bel1 _ (.cells #[.int .i64 K2, .bool s2, .int .u64 M2, .int .i64 E2] 30))
  replace HB := Lib.hid (bt HB.out (bel1 _ (.cells #[.int .i64 K2, .bool s2, .int .u64 M2, .int .i64 E2] 30)))
  have X5 := Bo.new w6 #[.int .i64 K2, .bool s2, .int .u64 M2, .int .i64 E2] 30
  generalize hWn : World.alloc w6 (.cells #[.int .i64 K2, .bool s2, .int .u64 M2, .int .i64 E2] 30) = w7 at *
  clear hWn
  clear lX5
  refine Jo.region_joint (T := [0, 1, 2, 3, 4, 5, 6, 7, 8, 9, 10, 11, 12, 13, 14, 15, 16, 17, 18, 19, 20, 21, 22, 23, 24, 25, 26, 27, 28, 29, 30, 31, 32, 33]) (ds := [some 20, some 21, some 22, some 23, some 24, some 25, some 26, some 27, some 28, some 29, some 30, some 31, some 32, some 33, some 34, some 35, some 36, some 37, some 38, some 39, some 40, some 41, some 42, some 43, some 44, some 45, some 46, some 47, some 48, some 49, some 50, some 51, some 52, some 2]) (ls := [[], [0], [1], [1], [1, 2, 3], [1, 4], [1, 5], [6], [7], [7], [7, 8, 9], [7, 10], [7, 11], [12], [13], [13, 14], [13], [13, 15, 16], [13, 17], [18], [19], [19, 20], [19], [19, 21, 22], [19, 23], [24], [25], [25, 26], [25], [25, 28], [25, 29], [25, 27, 30], [25, 31], [32]]) (k := 34) (L := [(some 20, 0), (some 21, 1), (some 22, 2), (some 23, 3), (some 24, 4), (some 25, 5), (some 26, 6), (some 27, 7), (some 28, 8), (some 29, 9), (some 30, 10), (some 31, 11), (some 32, 12), (some 33, 13), (some 34, 14), (some 35, 15), (some 36, 16), (some 37, 17), (some 38, 18), (some 39, 19), (some 40, 20), (some 41, 21), (some 42, 22), (some 43, 23), (some 44, 24), (some 45, 25), (some 46, 26), (some 47, 27), (some 48, 28), (some 49, 29), (some 50, 30), (some 51, 31), (some 52, 32), (some 2, 33)]) (fuel := 0) (J := fun wj => Below (World.heap w7).size w7 wj)
    (F := [Jo.Fact.eq (.bool true), Jo.Fact.eq (.bool true), Jo.Fact.eq (.agg #[.int .i64 K1, .bool s1, .int .u64 M1, .int .i64 E1]), Jo.Fact.eq (.agg #[.int .i64 D0, .bool s0, .int .u64 M0, .int .i64 E0]), Jo.Fact.eq (.int .i64 1), Jo.Fact.eq (.bool true), Jo.Fact.eq (.bool true), Jo.Fact.eq (.bool true), Jo.Fact.eq (.agg #[.int .i64 K2, .bool s2, .int .u64 M2, .int .i64 E2]), Jo.Fact.eq (.agg #[.int .i64 D0, .bool s0, .int .u64 M0, .int .i64 E0]), Jo.Fact.eq (.int .i64 (-1)), Jo.Fact.eq (.bool true), Jo.Fact.eq (.bool true), Jo.Fact.eq (.bool true), Jo.Fact.eq (.agg #[.int .i64 K1, .bool s1, .int .u64 M1, .int .i64 E1]), Jo.Fact.num x, Jo.Fact.eq (.agg #[.int .i64 D0, .bool s0, .int .u64 M0, .int .i64 E0]), Jo.Fact.eq (.bool true), Jo.Fact.eq (.bool true), Jo.Fact.eq (.bool true), Jo.Fact.eq (.agg #[.int .i64 K2, .bool s2, .int .u64 M2, .int .i64 E2]), Jo.Fact.num x, Jo.Fact.eq (.agg #[.int .i64 D0, .bool s0, .int .u64 M0, .int .i64 E0]), Jo.Fact.eq (.bool true), Jo.Fact.eq (.bool true), Jo.Fact.eq (.bool true), Jo.Fact.eq (.agg #[.int .i64 K1, .bool s1, .int .u64 M1, .int .i64 E1]), Jo.Fact.num (-(x + 1)), Jo.Fact.eq (.agg #[.int .i64 D0, .bool s0, .int .u64 M0, .int .i64 E0]), Jo.Fact.num (-x), Jo.Fact.num (-(x + 1)), Jo.Fact.eq (.bool true), Jo.Fact.eq (.bool true), Jo.Fact.eq (.bool true)])
    (by kernel_rfl) (by kernel_rfl) (by decide) rfl rfl (fun _ _ h b => bt h b) ((Below.refl _ _).drew) ?_ (fun vs w8 hJ hd => ?_)
  · refine Jo.jcons (i := 0) (o := ⟨some 20, _, _, _, _, _⟩) (di := some 20) (L := []) (f := Jo.Fact.eq (.bool true)) rfl rfl rfl rfl (fun vs wj hJ hd K hK => ?_) ?_
    · clear hd
      simp only [Jo.putl, List.foldl_nil, Act.put, List.setIfInBounds_toArray, List.set_cons_zero, List.set_cons_succ] at hK ⊢
      go_simp
      exact hK.out _ _ rfl (Below.refl _ _)
    refine Jo.jcons (i := 1) (o := ⟨some 21, _, _, _, _, _⟩) (di := some 21) (L := [(some 20, 0)]) (f := Jo.Fact.eq (.bool true)) rfl rfl rfl rfl (fun vs wj hJ hd K hK => ?_) ?_
    · have d0 : (Jo.Fact.eq (.bool true)).P (vs 0) wj := hd 0 (by decide)
      clear hd
      simp only [Jo.putl, List.foldl_cons, List.foldl_nil, Act.put, List.setIfInBounds_toArray, List.set_cons_zero, List.set_cons_succ] at hK ⊢
      generalize vs 0 = u0 at hK d0 ⊢
      replace d0 : u0 = _ := d0
      subst d0
      go_simp
      exact hK.out _ _ rfl (Below.refl _ _)
    refine Jo.jcons (i := 2) (o := ⟨some 22, _, _, _, _, _⟩) (di := some 22) (L := [(some 21, 1)]) (f := Jo.Fact.eq (.agg #[.int .i64 K1, .bool s1, .int .u64 M1, .int .i64 E1])) rfl rfl rfl rfl (fun vs wj hJ hd K hK => ?_) ?_
    · have d1 : (Jo.Fact.eq (.bool true)).P (vs 1) wj := hd 1 (by decide)
      clear hd
      simp only [Jo.putl, List.foldl_cons, List.foldl_nil, Act.put, List.setIfInBounds_toArray, List.set_cons_zero, List.set_cons_succ] at hK ⊢
      generalize vs 1 = u1 at hK d1 ⊢
      replace d1 : u1 = _ := d1
      subst d1
      have xX40 : World.cell? wj ⟨w4.heap.size, 0, none⟩ = some (.int .i64 K1) := (X4.below hJ).cell 0
      have xX41 : World.cell? wj ⟨w4.heap.size, 1, none⟩ = some (.bool s1) := (X4.below hJ).cell 1
      have xX42 : World.cell? wj ⟨w4.heap.size, 2, none⟩ = some (.int .u64 M1) := (X4.below hJ).cell 2
      have xX43 : World.cell? wj ⟨w4.heap.size, 3, none⟩ = some (.int .i64 E1) := (X4.below hJ).cell 3
      go_simp
      exact hK.out _ _ rfl (Below.refl _ _)
    refine Jo.jcons (i := 3) (o := ⟨some 23, _, _, _, _, _⟩) (di := some 23) (L := [(some 21, 1)]) (f := Jo.Fact.eq (.agg #[.int .i64 D0, .bool s0, .int .u64 M0, .int .i64 E0])) rfl rfl rfl rfl (fun vs wj hJ hd K hK => ?_) ?_
    · have d1 : (Jo.Fact.eq (.bool true)).P (vs 1) wj := hd 1 (by decide)
      clear hd
      simp only [Jo.putl, List.foldl_cons, List.foldl_nil, Act.put, List.setIfInBounds_toArray, List.set_cons_zero, List.set_cons_succ] at hK ⊢
      generalize vs 1 = u1 at hK d1 ⊢
      replace d1 : u1 = _ := d1
      subst d1
      have xX00 : World.cell? wj ⟨w.heap.size, 0, none⟩ = some (.int .i64 D0) := (X0.below hJ).cell 0
      have xX01 : World.cell? wj ⟨w.heap.size, 1, none⟩ = some (.bool s0) := (X0.below hJ).cell 1
      have xX02 : World.cell? wj ⟨w.heap.size, 2, none⟩ = some (.int .u64 M0) := (X0.below hJ).cell 2
      have xX03 : World.cell? wj ⟨w.heap.size, 3, none⟩ = some (.int .i64 E0) := (X0.below hJ).cell 3
      go_simp
      exact hK.out _ _ rfl (Below.refl _ _)
    refine Jo.jcons (i := 4) (o := ⟨some 24, _, _, _, _, _⟩) (di := some 24) (L := [(some 21, 1), (some 22, 2), (some 23, 3)]) (f := Jo.Fact.eq (.int .i64 1)) rfl rfl rfl rfl (fun vs wj hJ hd K hK => ?_) ?_
    · have d1 : (Jo.Fact.eq (.bool true)).P (vs 1) wj := hd 1 (by decide)
      have d2 : (Jo.Fact.eq (.agg #[.int .i64 K1, .bool s1, .int .u64 M1, .int .i64 E1])).P (vs 2) wj := hd 2 (by decide)
      have d3 : (Jo.Fact.eq (.agg #[.int .i64 D0, .bool s0, .int .u64 M0, .int .i64 E0])).P (vs 3) wj := hd 3 (by decide)
      clear hd
      simp only [Jo.putl, List.foldl_cons, List.foldl_nil, Act.put, List.setIfInBounds_toArray, List.set_cons_zero, List.set_cons_succ] at hK ⊢
      generalize vs 1 = u1 at hK d1 ⊢
      generalize vs 2 = u2 at hK d2 ⊢
      generalize vs 3 = u3 at hK d3 ⊢
      replace d1 : u1 = _ := d1
      subst d1
      replace d2 : u2 = _ := d2
      subst d2
      replace d3 : u3 = _ := d3
      subst d3
      go_simp
      refine (nCmp (z := 1) q1.top hM (by rw [q1.rk, HX.out]; exact cmpI_gt (by omega))).mono ?_
      rintro ee wk ⟨rfl, B⟩
      exact hK.out _ _ rfl B
    refine Jo.jcons (i := 5) (o := ⟨some 25, _, _, _, _, _⟩) (di := some 25) (L := [(some 21, 1), (some 24, 4)]) (f := Jo.Fact.eq (.bool true)) rfl rfl rfl rfl (fun vs wj hJ hd K hK => ?_) ?_
    · have d1 : (Jo.Fact.eq (.bool true)).P (vs 1) wj := hd 1 (by decide)
      have d4 : (Jo.Fact.eq (.int .i64 1)).P (vs 4) wj := hd 4 (by decide)
      clear hd
      simp only [Jo.putl, List.foldl_cons, List.foldl_nil, Act.put, List.setIfInBounds_toArray, List.set_cons_zero, List.set_cons_succ] at hK ⊢
      generalize vs 1 = u1 at hK d1 ⊢
      generalize vs 4 = u4 at hK d4 ⊢
      replace d1 : u1 = _ := d1
      subst d1
      replace d4 : u4 = _ := d4
      subst d4
      go_simp
      exact hK.out _ _ (by first | rfl | simp) (Below.refl _ _)
    refine Jo.jcons (i := 6) (o := ⟨some 26, _, _, _, _, _⟩) (di := some 26) (L := [(some 21, 1), (some 25, 5)]) (f := Jo.Fact.eq (.bool true)) rfl rfl rfl rfl (fun vs wj hJ hd K hK => ?_) ?_
    · have d1 : (Jo.Fact.eq (.bool true)).P (vs 1) wj := hd 1 (by decide)
      have d5 : (Jo.Fact.eq (.bool true)).P (vs 5) wj := hd 5 (by decide)
      clear hd
      simp only [Jo.putl, List.foldl_cons, List.foldl_nil, Act.put, List.setIfInBounds_toArray, List.set_cons_zero, List.set_cons_succ] at hK ⊢
      generalize vs 1 = u1 at hK d1 ⊢
      generalize vs 5 = u5 at hK d5 ⊢
      replace d1 : u1 = _ := d1
      subst d1
      replace d5 : u5 = _ := d5
      subst d5
      go_simp
      exact hK.out _ _ rfl (Below.refl _ _)
    refine Jo.jcons (i := 7) (o := ⟨some 27, _, _, _, _, _⟩) (di := some 27) (L := [(some 26, 6)]) (f := Jo.Fact.eq (.bool true)) rfl rfl rfl rfl (fun vs wj hJ hd K hK => ?_) ?_
    · have d6 : (Jo.Fact.eq (.bool true)).P (vs 6) wj := hd 6 (by decide)
      clear hd
      simp only [Jo.putl, List.foldl_cons, List.foldl_nil, Act.put, List.setIfInBounds_toArray, List.set_cons_zero, List.set_cons_succ] at hK ⊢
      generalize vs 6 = u6 at hK d6 ⊢
      replace d6 : u6 = _ := d6
      subst d6
      go_simp
      exact hK.out _ _ rfl (Below.refl _ _)
    refine Jo.jcons (i := 8) (o := ⟨some 28, _, _, _, _, _⟩) (di := some 28) (L := [(some 27, 7)]) (f := Jo.Fact.eq (.agg #[.int .i64 K2, .bool s2, .int .u64 M2, .int .i64 E2])) rfl rfl rfl rfl (fun vs wj hJ hd K hK => ?_) ?_
    · have d7 : (Jo.Fact.eq (.bool true)).P (vs 7) wj := hd 7 (by decide)
      clear hd
      simp only [Jo.putl, List.foldl_cons, List.foldl_nil, Act.put, List.setIfInBounds_toArray, List.set_cons_zero, List.set_cons_succ] at hK ⊢
      generalize vs 7 = u7 at hK d7 ⊢
      replace d7 : u7 = _ := d7
      subst d7
      have xX50 : World.cell? wj ⟨w6.heap.size, 0, none⟩ = some (.int .i64 K2) := (X5.below hJ).cell 0
      have xX51 : World.cell? wj ⟨w6.heap.size, 1, none⟩ = some (.bool s2) := (X5.below hJ).cell 1
      have xX52 : World.cell? wj ⟨w6.heap.size, 2, none⟩ = some (.int .u64 M2) := (X5.below hJ).cell 2
      have xX53 : World.cell? wj ⟨w6.heap.size, 3, none⟩ = some (.int .i64 E2) := (X5.below hJ).cell 3
      go_simp
      exact hK.out _ _ rfl (Below.refl _ _)
    refine Jo.jcons (i := 9) (o := ⟨some 29, _, _, _, _, _⟩) (di := some 29) (L := [(some 27, 7)]) (f := Jo.Fact.eq (.agg #[.int .i64 D0, .bool s0, .int .u64 M0, .int .i64 E0])) rfl rfl rfl rfl (fun vs wj hJ hd K hK => ?_) ?_
    · have d7 : (Jo.Fact.eq (.bool true)).P (vs 7) wj := hd 7 (by decide)
      clear hd
      simp only [Jo.putl, List.foldl_cons, List.foldl_nil, Act.put, List.setIfInBounds_toArray, List.set_cons_zero, List.set_cons_succ] at hK ⊢
      generalize vs 7 = u7 at hK d7 ⊢
      replace d7 : u7 = _ := d7
      subst d7
      have xX00 : World.cell? wj ⟨w.heap.size, 0, none⟩ = some (.int .i64 D0) := (X0.below hJ).cell 0
      have xX01 : World.cell? wj ⟨w.heap.size, 1, none⟩ = some (.bool s0) := (X0.below hJ).cell 1
      have xX02 : World.cell? wj ⟨w.heap.size, 2, none⟩ = some (.int .u64 M0) := (X0.below hJ).cell 2
      have xX03 : World.cell? wj ⟨w.heap.size, 3, none⟩ = some (.int .i64 E0) := (X0.below hJ).cell 3
      go_simp
      exact hK.out _ _ rfl (Below.refl _ _)
    refine Jo.jcons (i := 10) (o := ⟨some 30, _, _, _, _, _⟩) (di := some 30) (L := [(some 27, 7), (some 28, 8), (some 29, 9)]) (f := Jo.Fact.eq (.int .i64 (-1))) rfl rfl rfl rfl (fun vs wj hJ hd K hK => ?_) ?_
    · have d7 : (Jo.Fact.eq (.bool true)).P (vs 7) wj := hd 7 (by decide)
      have d8 : (Jo.Fact.eq (.agg #[.int .i64 K2, .bool s2, .int .u64 M2, .int .i64 E2])).P (vs 8) wj := hd 8 (by decide)
      have d9 : (Jo.Fact.eq (.agg #[.int .i64 D0, .bool s0, .int .u64 M0, .int .i64 E0])).P (vs 9) wj := hd 9 (by decide)
      clear hd
      simp only [Jo.putl, List.foldl_cons, List.foldl_nil, Act.put, List.setIfInBounds_toArray, List.set_cons_zero, List.set_cons_succ] at hK ⊢
      generalize vs 7 = u7 at hK d7 ⊢
      generalize vs 8 = u8 at hK d8 ⊢
      generalize vs 9 = u9 at hK d9 ⊢
      replace d7 : u7 = _ := d7
      subst d7
      replace d8 : u8 = _ := d8
      subst d8
      replace d9 : u9 = _ := d9
      subst d9
      go_simp
      refine (nCmp (z := -1) q2.top hM (by rw [q2.rk, HX.out]; exact cmpI_lt (by omega))).mono ?_
      rintro ee wk ⟨rfl, B⟩
      exact hK.out _ _ rfl B
    refine Jo.jcons (i := 11) (o := ⟨some 31, _, _, _, _, _⟩) (di := some 31) (L := [(some 27, 7), (some 30, 10)]) (f := Jo.Fact.eq (.bool true)) rfl rfl rfl rfl (fun vs wj hJ hd K hK => ?_) ?_
    · have d7 : (Jo.Fact.eq (.bool true)).P (vs 7) wj := hd 7 (by decide)
      have d10 : (Jo.Fact.eq (.int .i64 (-1))).P (vs 10) wj := hd 10 (by decide)
      clear hd
      simp only [Jo.putl, List.foldl_cons, List.foldl_nil, Act.put, List.setIfInBounds_toArray, List.set_cons_zero, List.set_cons_succ] at hK ⊢
      generalize vs 7 = u7 at hK d7 ⊢
      generalize vs 10 = u10 at hK d10 ⊢
      replace d7 : u7 = _ := d7
      subst d7
      replace d10 : u10 = _ := d10
      subst d10
      go_simp
      exact hK.out _ _ (by first | rfl | simp) (Below.refl _ _)
    refine Jo.jcons (i := 12) (o := ⟨some 32, _, _, _, _, _⟩) (di := some 32) (L := [(some 27, 7), (some 31, 11)]) (f := Jo.Fact.eq (.bool true)) rfl rfl rfl rfl (fun vs wj hJ hd K hK => ?_) ?_
    · have d7 : (Jo.Fact.eq (.bool true)).P (vs 7) wj := hd 7 (by decide)
      have d11 : (Jo.Fact.eq (.bool true)).P (vs 11) wj := hd 11 (by decide)
      clear hd
      simp only [Jo.putl, List.foldl_cons, List.foldl_nil, Act.put, List.setIfInBounds_toArray, List.set_cons_zero, List.set_cons_succ] at hK ⊢
      generalize vs 7 = u7 at hK d7 ⊢
      generalize vs 11 = u11 at hK d11 ⊢
      replace d7 : u7 = _ := d7
      subst d7
      replace d11 : u11 = _ := d11
      subst d11
      go_simp
      exact hK.out _ _ rfl (Below.refl _ _)
    refine Jo.jcons (i := 13) (o := ⟨some 33, _, _, _, _, _⟩) (di := some 33) (L := [(some 32, 12)]) (f := Jo.Fact.eq (.bool true)) rfl rfl rfl rfl (fun vs wj hJ hd K hK => ?_) ?_
    · have d12 : (Jo.Fact.eq (.bool true)).P (vs 12) wj := hd 12 (by decide)
      clear hd
      simp only [Jo.putl, List.foldl_cons, List.foldl_nil, Act.put, List.setIfInBounds_toArray, List.set_cons_zero, List.set_cons_succ] at hK ⊢
      generalize vs 12 = u12 at hK d12 ⊢
      replace d12 : u12 = _ := d12
      subst d12
      go_simp
      exact hK.out _ _ rfl (Below.refl _ _)
    refine Jo.jcons (i := 14) (o := ⟨some 34, _, _, _, _, _⟩) (di := some 34) (L := [(some 33, 13)]) (f := Jo.Fact.eq (.agg #[.int .i64 K1, .bool s1, .int .u64 M1, .int .i64 E1])) rfl rfl rfl rfl (fun vs wj hJ hd K hK => ?_) ?_
    · have d13 : (Jo.Fact.eq (.bool true)).P (vs 13) wj := hd 13 (by decide)
      clear hd
      simp only [Jo.putl, List.foldl_cons, List.foldl_nil, Act.put, List.setIfInBounds_toArray, List.set_cons_zero, List.set_cons_succ] at hK ⊢
      generalize vs 13 = u13 at hK d13 ⊢
      replace d13 : u13 = _ := d13
      subst d13
      have xX40 : World.cell? wj ⟨w4.heap.size, 0, none⟩ = some (.int .i64 K1) := (X4.below hJ).cell 0
      have xX41 : World.cell? wj ⟨w4.heap.size, 1, none⟩ = some (.bool s1) := (X4.below hJ).cell 1
      have xX42 : World.cell? wj ⟨w4.heap.size, 2, none⟩ = some (.int .u64 M1) := (X4.below hJ).cell 2
      have xX43 : World.cell? wj ⟨w4.heap.size, 3, none⟩ = some (.int .i64 E1) := (X4.below hJ).cell 3
      go_simp
      exact hK.out _ _ rfl (Below.refl _ _)
    refine Jo.jcons (i := 15) (o := ⟨some 35, _, _, _, _, _⟩) (di := some 35) (L := [(some 33, 13), (some 34, 14)]) (f := Jo.Fact.num x) rfl rfl rfl rfl (fun vs wj hJ hd K hK => ?_) ?_
    · have d13 : (Jo.Fact.eq (.bool true)).P (vs 13) wj := hd 13 (by decide)
      have d14 : (Jo.Fact.eq (.agg #[.int .i64 K1, .bool s1, .int .u64 M1, .int .i64 E1])).P (vs 14) wj := hd 14 (by decide)
      clear hd
      simp only [Jo.putl, List.foldl_cons, List.foldl_nil, Act.put, List.setIfInBounds_toArray, List.set_cons_zero, List.set_cons_succ] at hK ⊢
      generalize vs 13 = u13 at hK d13 ⊢
      generalize vs 14 = u14 at hK d14 ⊢
      replace d13 : u13 = _ := d13
      subst d13
      replace d14 : u14 = _ := d14
      subst d14
      go_simp
      refine (nNext (up := false) (r := x) q1.top (by rw [q1.rk]; exact N3.out)).mono ?_
      rintro ee wk ⟨K6, s6, M6, E6, rfl, q6, B⟩
      exact hK.out _ _ ⟨K6, s6, M6, E6, rfl, q6⟩ B
    refine Jo.jcons (i := 16) (o := ⟨some 36, _, _, _, _, _⟩) (di := some 36) (L := [(some 33, 13)]) (f := Jo.Fact.eq (.agg #[.int .i64 D0, .bool s0, .int .u64 M0, .int .i64 E0])) rfl rfl rfl rfl (fun vs wj hJ hd K hK => ?_) ?_
    · have d13 : (Jo.Fact.eq (.bool true)).P (vs 13) wj := hd 13 (by decide)
      clear hd
      simp only [Jo.putl, List.foldl_cons, List.foldl_nil, Act.put, List.setIfInBounds_toArray, List.set_cons_zero, List.set_cons_succ] at hK ⊢
      generalize vs 13 = u13 at hK d13 ⊢
      replace d13 : u13 = _ := d13
      subst d13
      have xX00 : World.cell? wj ⟨w.heap.size, 0, none⟩ = some (.int .i64 D0) := (X0.below hJ).cell 0
      have xX01 : World.cell? wj ⟨w.heap.size, 1, none⟩ = some (.bool s0) := (X0.below hJ).cell 1
      have xX02 : World.cell? wj ⟨w.heap.size, 2, none⟩ = some (.int .u64 M0) := (X0.below hJ).cell 2
      have xX03 : World.cell? wj ⟨w.heap.size, 3, none⟩ = some (.int .i64 E0) := (X0.below hJ).cell 3
      go_simp
      exact hK.out _ _ rfl (Below.refl _ _)
    refine Jo.jcons (i := 17) (o := ⟨some 37, _, _, _, _, _⟩) (di := some 37) (L := [(some 33, 13), (some 35, 15), (some 36, 16)]) (f := Jo.Fact.eq (.bool true)) rfl rfl rfl rfl (fun vs wj hJ hd K hK => ?_) ?_
    · have d13 : (Jo.Fact.eq (.bool true)).P (vs 13) wj := hd 13 (by decide)
      have d15 : (Jo.Fact.num x).P (vs 15) wj := hd 15 (by decide)
      have d16 : (Jo.Fact.eq (.agg #[.int .i64 D0, .bool s0, .int .u64 M0, .int .i64 E0])).P (vs 16) wj := hd 16 (by decide)
      clear hd
      simp only [Jo.putl, List.foldl_cons, List.foldl_nil, Act.put, List.setIfInBounds_toArray, List.set_cons_zero, List.set_cons_succ] at hK ⊢
      generalize vs 13 = u13 at hK d13 ⊢
      generalize vs 15 = u15 at hK d15 ⊢
      generalize vs 16 = u16 at hK d16 ⊢
      replace d13 : u13 = _ := d13
      subst d13
      obtain ⟨K6, s6, M6, E6, rfl, q6⟩ := d15
      replace d16 : u16 = _ := d16
      subst d16
      obtain ⟨rfl, rfl, rfl, rfl⟩ := q6.uniq q0
      go_simp
      exact hK.out _ _ (by first | rfl | (show Value.bool _ = Value.bool _; simp)) (Below.refl _ _)
    refine Jo.jcons (i := 18) (o := ⟨some 38, _, _, _, _, _⟩) (di := some 38) (L := [(some 33, 13), (some 37, 17)]) (f := Jo.Fact.eq (.bool true)) rfl rfl rfl rfl (fun vs wj hJ hd K hK => ?_) ?_
    · have d13 : (Jo.Fact.eq (.bool true)).P (vs 13) wj := hd 13 (by decide)
      have d17 : (Jo.Fact.eq (.bool true)).P (vs 17) wj := hd 17 (by decide)
      clear hd
      simp only [Jo.putl, List.foldl_cons, List.foldl_nil, Act.put, List.setIfInBounds_toArray, List.set_cons_zero, List.set_cons_succ] at hK ⊢
      generalize vs 13 = u13 at hK d13 ⊢
      generalize vs 17 = u17 at hK d17 ⊢
      replace d13 : u13 = _ := d13
      subst d13
      replace d17 : u17 = _ := d17
      subst d17
      go_simp
      exact hK.out _ _ rfl (Below.refl _ _)
    refine Jo.jcons (i := 19) (o := ⟨some 39, _, _, _, _, _⟩) (di := some 39) (L := [(some 38, 18)]) (f := Jo.Fact.eq (.bool true)) rfl rfl rfl rfl (fun vs wj hJ hd K hK => ?_) ?_
    · have d18 : (Jo.Fact.eq (.bool true)).P (vs 18) wj := hd 18 (by decide)
      clear hd
      simp only [Jo.putl, List.foldl_cons, List.foldl_nil, Act.put, List.setIfInBounds_toArray, List.set_cons_zero, List.set_cons_succ] at hK ⊢
      generalize vs 18 = u18 at hK d18 ⊢
      replace d18 : u18 = _ := d18
      subst d18
      go_simp
      exact hK.out _ _ rfl (Below.refl _ _)
    refine Jo.jcons (i := 20) (o := ⟨some 40, _, _, _, _, _⟩) (di := some 40) (L := [(some 39, 19)]) (f := Jo.Fact.eq (.agg #[.int .i64 K2, .bool s2, .int .u64 M2, .int .i64 E2])) rfl rfl rfl rfl (fun vs wj hJ hd K hK => ?_) ?_
    · have d19 : (Jo.Fact.eq (.bool true)).P (vs 19) wj := hd 19 (by decide)
      clear hd
      simp only [Jo.putl, List.foldl_cons, List.foldl_nil, Act.put, List.setIfInBounds_toArray, List.set_cons_zero, List.set_cons_succ] at hK ⊢
      generalize vs 19 = u19 at hK d19 ⊢
      replace d19 : u19 = _ := d19
      subst d19
      have xX50 : World.cell? wj ⟨w6.heap.size, 0, none⟩ = some (.int .i64 K2) := (X5.below hJ).cell 0
      have xX51 : World.cell? wj ⟨w6.heap.size, 1, none⟩ = some (.bool s2) := (X5.below hJ).cell 1
      have xX52 : World.cell? wj ⟨w6.heap.size, 2, none⟩ = some (.int .u64 M2) := (X5.below hJ).cell 2
      have xX53 : World.cell? wj ⟨w6.heap.size, 3, none⟩ = some (.int .i64 E2) := (X5.below hJ).cell 3
      go_simp
      exact hK.out _ _ rfl (Below.refl _ _)
    refine Jo.jcons (i := 21) (o := ⟨some 41, _, _, _, _, _⟩) (di := some 41) (L := [(some 39, 19), (some 40, 20)]) (f := Jo.Fact.num x) rfl rfl rfl rfl (fun vs wj hJ hd K hK => ?_) ?_
    · have d19 : (Jo.Fact.eq (.bool true)).P (vs 19) wj := hd 19 (by decide)
      have d20 : (Jo.Fact.eq (.agg #[.int .i64 K2, .bool s2, .int .u64 M2, .int .i64 E2])).P (vs 20) wj := hd 20 (by decide)
      clear hd
      simp only [Jo.putl, List.foldl_cons, List.foldl_nil, Act.put, List.setIfInBounds_toArray, List.set_cons_zero, List.set_cons_succ] at hK ⊢
      generalize vs 19 = u19 at hK d19 ⊢
      generalize vs 20 = u20 at hK d20 ⊢
      replace d19 : u19 = _ := d19
      subst d19
      replace d20 : u20 = _ := d20
      subst d20
      go_simp
      refine (nNext (up := true) (r := x) q2.top (by rw [q2.rk]; exact N4.out)).mono ?_
      rintro ee wk ⟨K7, s7, M7, E7, rfl, q7, B⟩
      exact hK.out _ _ ⟨K7, s7, M7, E7, rfl, q7⟩ B
    refine Jo.jcons (i := 22) (o := ⟨some 42, _, _, _, _, _⟩) (di := some 42) (L := [(some 39, 19)]) (f := Jo.Fact.eq (.agg #[.int .i64 D0, .bool s0, .int .u64 M0, .int .i64 E0])) rfl rfl rfl rfl (fun vs wj hJ hd K hK => ?_) ?_
    · have d19 : (Jo.Fact.eq (.bool true)).P (vs 19) wj := hd 19 (by decide)
      clear hd
      simp only [Jo.putl, List.foldl_cons, List.foldl_nil, Act.put, List.setIfInBounds_toArray, List.set_cons_zero, List.set_cons_succ] at hK ⊢
      generalize vs 19 = u19 at hK d19 ⊢
      replace d19 : u19 = _ := d19
      subst d19
      have xX00 : World.cell? wj ⟨w.heap.size, 0, none⟩ = some (.int .i64 D0) := (X0.below hJ).cell 0
      have xX01 : World.cell? wj ⟨w.heap.size, 1, none⟩ = some (.bool s0) := (X0.below hJ).cell 1
      have xX02 : World.cell? wj ⟨w.heap.size, 2, none⟩ = some (.int .u64 M0) := (X0.below hJ).cell 2
      have xX03 : World.cell? wj ⟨w.heap.size, 3, none⟩ = some (.int .i64 E0) := (X0.below hJ).cell 3
      go_simp
      exact hK.out _ _ rfl (Below.refl _ _)
    refine Jo.jcons (i := 23) (o := ⟨some 43, _, _, _, _, _⟩) (di := some 43) (L := [(some 39, 19), (some 41, 21), (some 42, 22)]) (f := Jo.Fact.eq (.bool true)) rfl rfl rfl rfl (fun vs wj hJ hd K hK => ?_) ?_
    · have d19 : (Jo.Fact.eq (.bool true)).P (vs 19) wj := hd 19 (by decide)
      have d21 : (Jo.Fact.num x).P (vs 21) wj := hd 21 (by decide)
      have d22 : (Jo.Fact.eq (.agg #[.int .i64 D0, .bool s0, .int .u64 M0, .int .i64 E0])).P (vs 22) wj := hd 22 (by decide)
      clear hd
      simp only [Jo.putl, List.foldl_cons, List.foldl_nil, Act.put, List.setIfInBounds_toArray, List.set_cons_zero, List.set_cons_succ] at hK ⊢
      generalize vs 19 = u19 at hK d19 ⊢
      generalize vs 21 = u21 at hK d21 ⊢
      generalize vs 22 = u22 at hK d22 ⊢
      replace d19 : u19 = _ := d19
      subst d19
      obtain ⟨K7, s7, M7, E7, rfl, q7⟩ := d21
      replace d22 : u22 = _ := d22
      subst d22
      obtain ⟨rfl, rfl, rfl, rfl⟩ := q7.uniq q0
      go_simp
      exact hK.out _ _ (by first | rfl | (show Value.bool _ = Value.bool _; simp)) (Below.refl _ _)
    refine Jo.jcons (i := 24) (o := ⟨some 44, _, _, _, _, _⟩) (di := some 44) (L := [(some 39, 19), (some 43, 23)]) (f := Jo.Fact.eq (.bool true)) rfl rfl rfl rfl (fun vs wj hJ hd K hK => ?_) ?_
    · have d19 : (Jo.Fact.eq (.bool true)).P (vs 19) wj := hd 19 (by decide)
      have d23 : (Jo.Fact.eq (.bool true)).P (vs 23) wj := hd 23 (by decide)
      clear hd
      simp only [Jo.putl, List.foldl_cons, List.foldl_nil, Act.put, List.setIfInBounds_toArray, List.set_cons_zero, List.set_cons_succ] at hK ⊢
      generalize vs 19 = u19 at hK d19 ⊢
      generalize vs 23 = u23 at hK d23 ⊢
      replace d19 : u19 = _ := d19
      subst d19
      replace d23 : u23 = _ := d23
      subst d23
      go_simp
      exact hK.out _ _ rfl (Below.refl _ _)
    refine Jo.jcons (i := 25) (o := ⟨some 45, _, _, _, _, _⟩) (di := some 45) (L := [(some 44, 24)]) (f := Jo.Fact.eq (.bool true)) rfl rfl rfl rfl (fun vs wj hJ hd K hK => ?_) ?_
    · have d24 : (Jo.Fact.eq (.bool true)).P (vs 24) wj := hd 24 (by decide)
      clear hd
      simp only [Jo.putl, List.foldl_cons, List.foldl_nil, Act.put, List.setIfInBounds_toArray, List.set_cons_zero, List.set_cons_succ] at hK ⊢
      generalize vs 24 = u24 at hK d24 ⊢
      replace d24 : u24 = _ := d24
      subst d24
      go_simp
      exact hK.out _ _ rfl (Below.refl _ _)
    refine Jo.jcons (i := 26) (o := ⟨some 46, _, _, _, _, _⟩) (di := some 46) (L := [(some 45, 25)]) (f := Jo.Fact.eq (.agg #[.int .i64 K1, .bool s1, .int .u64 M1, .int .i64 E1])) rfl rfl rfl rfl (fun vs wj hJ hd K hK => ?_) ?_
    · have d25 : (Jo.Fact.eq (.bool true)).P (vs 25) wj := hd 25 (by decide)
      clear hd
      simp only [Jo.putl, List.foldl_cons, List.foldl_nil, Act.put, List.setIfInBounds_toArray, List.set_cons_zero, List.set_cons_succ] at hK ⊢
      generalize vs 25 = u25 at hK d25 ⊢
      replace d25 : u25 = _ := d25
      subst d25
      have xX40 : World.cell? wj ⟨w4.heap.size, 0, none⟩ = some (.int .i64 K1) := (X4.below hJ).cell 0
      have xX41 : World.cell? wj ⟨w4.heap.size, 1, none⟩ = some (.bool s1) := (X4.below hJ).cell 1
      have xX42 : World.cell? wj ⟨w4.heap.size, 2, none⟩ = some (.int .u64 M1) := (X4.below hJ).cell 2
      have xX43 : World.cell? wj ⟨w4.heap.size, 3, none⟩ = some (.int .i64 E1) := (X4.below hJ).cell 3
      go_simp
      exact hK.out _ _ rfl (Below.refl _ _)
    refine Jo.jcons (i := 27) (o := ⟨some 47, _, _, _, _, _⟩) (di := some 47) (L := [(some 45, 25), (some 46, 26)]) (f := Jo.Fact.num (-(x + 1))) rfl rfl rfl rfl (fun vs wj hJ hd K hK => ?_) ?_
    · have d25 : (Jo.Fact.eq (.bool true)).P (vs 25) wj := hd 25 (by decide)
      have d26 : (Jo.Fact.eq (.agg #[.int .i64 K1, .bool s1, .int .u64 M1, .int .i64 E1])).P (vs 26) wj := hd 26 (by decide)
      clear hd
      simp only [Jo.putl, List.foldl_cons, List.foldl_nil, Act.put, List.setIfInBounds_toArray, List.set_cons_zero, List.set_cons_succ] at hK ⊢
      generalize vs 25 = u25 at hK d25 ⊢
      generalize vs 26 = u26 at hK d26 ⊢
      replace d25 : u25 = _ := d25
      subst d25
      replace d26 : u26 = _ := d26
      subst d26
      go_simp
      refine (nNeg q1.top (by rw [q1.rk])).mono ?_
      rintro ee wk ⟨K8, s8, M8, E8, rfl, q8, B⟩
      exact hK.out _ _ ⟨K8, s8, M8, E8, rfl, q8⟩ B
    refine Jo.jcons (i := 28) (o := ⟨some 48, _, _, _, _, _⟩) (di := some 48) (L := [(some 45, 25)]) (f := Jo.Fact.eq (.agg #[.int .i64 D0, .bool s0, .int .u64 M0, .int .i64 E0])) rfl rfl rfl rfl (fun vs wj hJ hd K hK => ?_) ?_
    · have d25 : (Jo.Fact.eq (.bool true)).P (vs 25) wj := hd 25 (by decide)
      clear hd
      simp only [Jo.putl, List.foldl_cons, List.foldl_nil, Act.put, List.setIfInBounds_toArray, List.set_cons_zero, List.set_cons_succ] at hK ⊢
      generalize vs 25 = u25 at hK d25 ⊢
      replace d25 : u25 = _ := d25
      subst d25
      have xX00 : World.cell? wj ⟨w.heap.size, 0, none⟩ = some (.int .i64 D0) := (X0.below hJ).cell 0
      have xX01 : World.cell? wj ⟨w.heap.size, 1, none⟩ = some (.bool s0) := (X0.below hJ).cell 1
      have xX02 : World.cell? wj ⟨w.heap.size, 2, none⟩ = some (.int .u64 M0) := (X0.below hJ).cell 2
      have xX03 : World.cell? wj ⟨w.heap.size, 3, none⟩ = some (.int .i64 E0) := (X0.below hJ).cell 3
      go_simp
      exact hK.out _ _ rfl (Below.refl _ _)
    refine Jo.jcons (i := 29) (o := ⟨some 49, _, _, _, _, _⟩) (di := some 49) (L := [(some 45, 25), (some 48, 28)]) (f := Jo.Fact.num (-x)) rfl rfl rfl rfl (fun vs wj hJ hd K hK => ?_) ?_
    · have d25 : (Jo.Fact.eq (.bool true)).P (vs 25) wj := hd 25 (by decide)
      have d28 : (Jo.Fact.eq (.agg #[.int .i64 D0, .bool s0, .int .u64 M0, .int .i64 E0])).P (vs 28) wj := hd 28 (by decide)
      clear hd
      simp only [Jo.putl, List.foldl_cons, List.foldl_nil, Act.put, List.setIfInBounds_toArray, List.set_cons_zero, List.set_cons_succ] at hK ⊢
      generalize vs 25 = u25 at hK d25 ⊢
      generalize vs 28 = u28 at hK d28 ⊢
      replace d25 : u25 = _ := d25
      subst d25
      replace d28 : u28 = _ := d28
      subst d28
      go_simp
      refine (nNeg hM HN.out).mono ?_
      rintro ee wk ⟨K9, s9, M9, E9, rfl, q9, B⟩
      exact hK.out _ _ ⟨K9, s9, M9, E9, rfl, q9⟩ B
    refine Jo.jcons (i := 30) (o := ⟨some 50, _, _, _, _, _⟩) (di := some 50) (L := [(some 45, 25), (some 49, 29)]) (f := Jo.Fact.num (-(x + 1))) rfl rfl rfl rfl (fun vs wj hJ hd K hK => ?_) ?_
    · have d25 : (Jo.Fact.eq (.bool true)).P (vs 25) wj := hd 25 (by decide)
      have d29 : (Jo.Fact.num (-x)).P (vs 29) wj := hd 29 (by decide)
      clear hd
      simp only [Jo.putl, List.foldl_cons, List.foldl_nil, Act.put, List.setIfInBounds_toArray, List.set_cons_zero, List.set_cons_succ] at hK ⊢
      generalize vs 25 = u25 at hK d25 ⊢
      generalize vs 29 = u29 at hK d29 ⊢
      replace d25 : u25 = _ := d25
      subst d25
      obtain ⟨K9, s9, M9, E9, rfl, q9⟩ := d29
      go_simp
      refine (nNext (up := false) (r := -(x + 1)) q9.top (by rw [q9.rk]; exact N5.out)).mono ?_
      rintro ee wk ⟨K10, s10, M10, E10, rfl, q10, B⟩
      exact hK.out _ _ ⟨K10, s10, M10, E10, rfl, q10⟩ B
    refine Jo.jcons (i := 31) (o := ⟨some 51, _, _, _, _, _⟩) (di := some 51) (L := [(some 45, 25), (some 47, 27), (some 50, 30)]) (f := Jo.Fact.eq (.bool true)) rfl rfl rfl rfl (fun vs wj hJ hd K hK => ?_) ?_
    · have d25 : (Jo.Fact.eq (.bool true)).P (vs 25) wj := hd 25 (by decide)
      have d27 : (Jo.Fact.num (-(x + 1))).P (vs 27) wj := hd 27 (by decide)
      have d30 : (Jo.Fact.num (-(x + 1))).P (vs 30) wj := hd 30 (by decide)
      clear hd
      simp only [Jo.putl, List.foldl_cons, List.foldl_nil, Act.put, List.setIfInBounds_toArray, List.set_cons_zero, List.set_cons_succ] at hK ⊢
      generalize vs 25 = u25 at hK d25 ⊢
      generalize vs 27 = u27 at hK d27 ⊢
      generalize vs 30 = u30 at hK d30 ⊢
      replace d25 : u25 = _ := d25
      subst d25
      obtain ⟨K8, s8, M8, E8, rfl, q8⟩ := d27
      obtain ⟨K10, s10, M10, E10, rfl, q10⟩ := d30
      obtain ⟨rfl, rfl, rfl, rfl⟩ := q8.uniq q10
      go_simp
      exact hK.out _ _ (by first | rfl | (show Value.bool _ = Value.bool _; simp)) (Below.refl _ _)
    refine Jo.jcons (i := 32) (o := ⟨some 52, _, _, _, _, _⟩) (di := some 52) (L := [(some 45, 25), (some 51, 31)]) (f := Jo.Fact.eq (.bool true)) rfl rfl rfl rfl (fun vs wj hJ hd K hK => ?_) ?_
    · have d25 : (Jo.Fact.eq (.bool true)).P (vs 25) wj := hd 25 (by decide)
      have d31 : (Jo.Fact.eq (.bool true)).P (vs 31) wj := hd 31 (by decide)
      clear hd
      simp only [Jo.putl, List.foldl_cons, List.foldl_nil, Act.put, List.setIfInBounds_toArray, List.set_cons_zero, List.set_cons_succ] at hK ⊢
      generalize vs 25 = u25 at hK d25 ⊢
      generalize vs 31 = u31 at hK d31 ⊢
      replace d25 : u25 = _ := d25
      subst d25
      replace d31 : u31 = _ := d31
      subst d31
      go_simp
      exact hK.out _ _ rfl (Below.refl _ _)
    refine Jo.jcons (i := 33) (o := ⟨some 2, _, _, _, _, _⟩) (di := some 2) (L := [(some 52, 32)]) (f := Jo.Fact.eq (.bool true)) rfl rfl rfl rfl (fun vs wj hJ hd K hK => ?_) ?_
    · have d32 : (Jo.Fact.eq (.bool true)).P (vs 32) wj := hd 32 (by decide)
      clear hd
      simp only [Jo.putl, List.foldl_cons, List.foldl_nil, Act.put, List.setIfInBounds_toArray, List.set_cons_zero, List.set_cons_succ] at hK ⊢
      generalize vs 32 = u32 at hK d32 ⊢
      replace d32 : u32 = _ := d32
      subst d32
      go_simp
      exact hK.out _ _ rfl (Below.refl _ _)
    exact Jo.Steps.nil
  have d0 : (Jo.Fact.eq (.bool true)).P (vs 0) w8 := hd 0 (by decide)
  have d1 : (Jo.Fact.eq (.bool true)).P (vs 1) w8 := hd 1 (by decide)
  have d2 : (Jo.Fact.eq (.agg #[.int .i64 K1, .bool s1, .int .u64 M1, .int .i64 E1])).P (vs 2) w8 := hd 2 (by decide)
  have d3 : (Jo.Fact.eq (.agg #[.int .i64 D0, .bool s0, .int .u64 M0, .int .i64 E0])).P (vs 3) w8 := hd 3 (by decide)
  have d4 : (Jo.Fact.eq (.int .i64 1)).P (vs 4) w8 := hd 4 (by decide)
  have d5 : (Jo.Fact.eq (.bool true)).P (vs 5) w8 := hd 5 (by decide)
  have d6 : (Jo.Fact.eq (.bool true)).P (vs 6) w8 := hd 6 (by decide)
  have d7 : (Jo.Fact.eq (.bool true)).P (vs 7) w8 := hd 7 (by decide)
  have d8 : (Jo.Fact.eq (.agg #[.int .i64 K2, .bool s2, .int .u64 M2, .int .i64 E2])).P (vs 8) w8 := hd 8 (by decide)
  have d9 : (Jo.Fact.eq (.agg #[.int .i64 D0, .bool s0, .int .u64 M0, .int .i64 E0])).P (vs 9) w8 := hd 9 (by decide)
  have d10 : (Jo.Fact.eq (.int .i64 (-1))).P (vs 10) w8 := hd 10 (by decide)
  have d11 : (Jo.Fact.eq (.bool true)).P (vs 11) w8 := hd 11 (by decide)
  have d12 : (Jo.Fact.eq (.bool true)).P (vs 12) w8 := hd 12 (by decide)
  have d13 : (Jo.Fact.eq (.bool true)).P (vs 13) w8 := hd 13 (by decide)
  have d14 : (Jo.Fact.eq (.agg #[.int .i64 K1, .bool s1, .int .u64 M1, .int .i64 E1])).P (vs 14) w8 := hd 14 (by decide)
  have d15 : (Jo.Fact.num x).P (vs 15) w8 := hd 15 (by decide)
  have d16 : (Jo.Fact.eq (.agg #[.int .i64 D0, .bool s0, .int .u64 M0, .int .i64 E0])).P (vs 16) w8 := hd 16 (by decide)
  have d17 : (Jo.Fact.eq (.bool true)).P (vs 17) w8 := hd 17 (by decide)
  have d18 : (Jo.Fact.eq (.bool true)).P (vs 18) w8 := hd 18 (by decide)
  have d19 : (Jo.Fact.eq (.bool true)).P (vs 19) w8 := hd 19 (by decide)
  have d20 : (Jo.Fact.eq (.agg #[.int .i64 K2, .bool s2, .int .u64 M2, .int .i64 E2])).P (vs 20) w8 := hd 20 (by decide)
  have d21 : (Jo.Fact.num x).P (vs 21) w8 := hd 21 (by decide)
  have d22 : (Jo.Fact.eq (.agg #[.int .i64 D0, .bool s0, .int .u64 M0, .int .i64 E0])).P (vs 22) w8 := hd 22 (by decide)
  have d23 : (Jo.Fact.eq (.bool true)).P (vs 23) w8 := hd 23 (by decide)
  have d24 : (Jo.Fact.eq (.bool true)).P (vs 24) w8 := hd 24 (by decide)
  have d25 : (Jo.Fact.eq (.bool true)).P (vs 25) w8 := hd 25 (by decide)
  have d26 : (Jo.Fact.eq (.agg #[.int .i64 K1, .bool s1, .int .u64 M1, .int .i64 E1])).P (vs 26) w8 := hd 26 (by decide)
  have d27 : (Jo.Fact.num (-(x + 1))).P (vs 27) w8 := hd 27 (by decide)
  have d28 : (Jo.Fact.eq (.agg #[.int .i64 D0, .bool s0, .int .u64 M0, .int .i64 E0])).P (vs 28) w8 := hd 28 (by decide)
  have d29 : (Jo.Fact.num (-x)).P (vs 29) w8 := hd 29 (by decide)
  have d30 : (Jo.Fact.num (-(x + 1))).P (vs 30) w8 := hd 30 (by decide)
  have d31 : (Jo.Fact.eq (.bool true)).P (vs 31) w8 := hd 31 (by decide)
  have d32 : (Jo.Fact.eq (.bool true)).P (vs 32) w8 := hd 32 (by decide)
  have d33 : (Jo.Fact.eq (.bool true)).P (vs 33) w8 := hd 33 (by decide)
  clear hd
  simp only [Jo.putl, List.foldl_cons, List.foldl_nil, Act.put, List.setIfInBounds_toArray, List.set_cons_zero, List.set_cons_succ]
  generalize vs 0 = u0 at d0 ⊢
  generalize vs 1 = u1 at d1 ⊢
  generalize vs 2 = u2 at d2 ⊢
  generalize vs 3 = u3 at d3 ⊢
  generalize vs 4 = u4 at d4 ⊢
  generalize vs 5 = u5 at d5 ⊢
  generalize vs 6 = u6 at d6 ⊢
  generalize vs 7 = u7 at d7 ⊢
  generalize vs 8 = u8 at d8 ⊢
  generalize vs 9 = u9 at d9 ⊢
  generalize vs 10 = u10 at d10 ⊢
  generalize vs 11 = u11 at d11 ⊢
  generalize vs 12 = u12 at d12 ⊢
  generalize vs 13 = u13 at d13 ⊢
  generalize vs 14 = u14 at d14 ⊢
  generalize vs 15 = u15 at d15 ⊢
  generalize vs 16 = u16 at d16 ⊢
  generalize vs 17 = u17 at d17 ⊢
  generalize vs 18 = u18 at d18 ⊢
  generalize vs 19 = u19 at d19 ⊢
  generalize vs 20 = u20 at d20 ⊢
  generalize vs 21 = u21 at d21 ⊢
  generalize vs 22 = u22 at d22 ⊢
  generalize vs 23 = u23 at d23 ⊢
  generalize vs 24 = u24 at d24 ⊢
  generalize vs 25 = u25 at d25 ⊢
  generalize vs 26 = u26 at d26 ⊢
  generalize vs 27 = u27 at d27 ⊢
  generalize vs 28 = u28 at d28 ⊢
  generalize vs 29 = u29 at d29 ⊢
  generalize vs 30 = u30 at d30 ⊢
  generalize vs 31 = u31 at d31 ⊢
  generalize vs 32 = u32 at d32 ⊢
  generalize vs 33 = u33 at d33 ⊢
  clear vs
  replace d0 : u0 = _ := d0
  subst d0
  replace d1 : u1 = _ := d1
  subst d1
  replace d2 : u2 = _ := d2
  subst d2
  replace d3 : u3 = _ := d3
  subst d3
  replace d4 : u4 = _ := d4
  subst d4
  replace d5 : u5 = _ := d5
  subst d5
  replace d6 : u6 = _ := d6
  subst d6
  replace d7 : u7 = _ := d7
  subst d7
  replace d8 : u8 = _ := d8
  subst d8
  replace d9 : u9 = _ := d9
  subst d9
  replace d10 : u10 = _ := d10
  subst d10
  replace d11 : u11 = _ := d11
  subst d11
  replace d12 : u12 = _ := d12
  subst d12
  replace d13 : u13 = _ := d13
  subst d13
  replace d14 : u14 = _ := d14
  subst d14
  obtain ⟨K6, s6, M6, E6, rfl, _⟩ := d15
  replace d16 : u16 = _ := d16
  subst d16
  replace d17 : u17 = _ := d17
  subst d17
  replace d18 : u18 = _ := d18
  subst d18
  replace d19 : u19 = _ := d19
  subst d19
  replace d20 : u20 = _ := d20
  subst d20
  obtain ⟨K7, s7, M7, E7, rfl, _⟩ := d21
  replace d22 : u22 = _ := d22
  subst d22
  replace d23 : u23 = _ := d23
  subst d23
  replace d24 : u24 = _ := d24
  subst d24
  replace d25 : u25 = _ := d25
  subst d25
  replace d26 : u26 = _ := d26
  subst d26
  obtain ⟨K8, s8, M8, E8, rfl, _⟩ := d27
  replace d28 : u28 = _ := d28
  subst d28
  obtain ⟨K9, s9, M9, E9, rfl, _⟩ := d29
  obtain ⟨K10, s10, M10, E10, rfl, _⟩ := d30
  replace d31 : u31 = _ := d31
  subst d31
  replace d32 : u32 = _ := d32
  subst d32
  replace d33 : u33 = _ := d33
  subst d33
  replace X0 := X0.below hJ
  replace X4 := X4.below hJ
  replace X5 := X5.below hJ
  replace hT := hT.below hJ
  replace HB := Lib.hid (bt HB.out hJ)
  refine Jo.jdone (by kernel_rfl) ?_
  go_wp2
  go_ret
  exact ⟨rfl, HB.out⟩

theorem numNext_walk (D0 : Int) (s0 : Bool) (M0 E0 : Int) (w : World) (hT : Tab w) (w0 : 0 ≤ M0) (u0 : M0 < 18446744073709551616) :
    Calls Tryd.prog 8 #[.agg #[.int .i64 D0, .bool s0, .int .u64 M0, .int .i64 E0]] w fun e w' => e = .returned (.bool true) ∧ Below w.heap.size w w' := by
  cases hm : decide (MayQ D0 s0 M0 E0)
  · exact numNext_no D0 s0 M0 E0 w hT hm
  · by_cases hd : D0 = 2
    · exact numNext_inf D0 s0 M0 E0 w hT hm hd
    · exact numNext_main D0 s0 M0 E0 w hT u0 hm hd
end Go.Proofs.YthibemmhgdbiiaaDoor

/-
  The walk of QuotTurns: for all arguments, where the table lies as it was laid, the call answers true, and nothing that was there has turned.
-/
import Derived.Test.YtpmakljahhhnfaaDoorYAba
import Derived.Test.YtpmakljahhhnfaaDoorYAbh
namespace Go.Proofs.YtpmakljahhhnfaaDoor
open Go.RowKit
set_option linter.unusedVariables false
set_option linter.unusedSimpArgs false
set_option maxRecDepth 100000

set_option maxHeartbeats 8000000 in
theorem quotTurns_none (D0 : Int) (s0 : Bool) (M0 E0 : Int) (D1 : Int) (s1 : Bool) (M1 E1 : Int) (b2 : Bool) (w : World) (hT : Tab w) (u1 : M1 < 18446744073709551616) (h : cmpI (rk D1 s1 M1 E1) 0 = 0) :
    Calls Tryd.prog 7 #[.agg #[.int .i64 D0, .bool s0, .int .u64 M0, .int .i64 E0], .agg #[.int .i64 D1, .bool s1, .int .u64 M1, .int .i64 E1], .bool b2] w (PB w true) := by
  have HS := Lib.hid h
  clear h
  go_enter Tryd.func7, Tryd.ntmps7
  go_upto_region 1 with (fail)
  have X0 := (Bo.newAt w (g := w.heap.size) (by simp) #[.int .i64 D0, .bool s0, .int .u64 M0, .int .i64 E0] 24).below (bel1 _ (.cells #[.int .i64 D1, .bool s1, .int .u64 M1, .int .i64 E1] 24))
  have X1 := (Bo.newAt (w.alloc (.cells #[.int .i64 D0, .bool s0, .int .u64 M0, .int .i64 E0] 24)) (g := w.heap.size + 1) (by simp) #[.int .i64 D1, .bool s1, .int .u64 M1, .int .i64 E1] 24)
  have HB := Lib.hid (bel2 w (.cells #[.int .i64 D0, .bool s0, .int .u64 M0, .int .i64 E0] 24) (.cells #[.int .i64 D1, .bool s1, .int .u64 M1, .int .i64 E1] 24))
  replace hT := hT.below HB.out
  generalize hW1 : ((w.alloc (.cells #[.int .i64 D0, .bool s0, .int .u64 M0, .int .i64 E0] 24)).alloc (.cells #[.int .i64 D1, .bool s1, .int .u64 M1, .int .i64 E1] 24)) = w1 at *
  clear hW1
  go_wp2_with fail
  refine (awake7 hT).mono ?_
  rintro ee w2 ⟨rfl, B⟩
  replace X0 := X0.below B
  replace X1 := X1.below B
  replace hT := hT.below B
  replace HB := Lib.hid (bt HB.out B)
  clear B
  clear hT
  have xX10 := X1.at (i := 0) (v := .int .i64 D1) rfl
  have xX11 := X1.at (i := 1) (v := .bool s1) rfl
  have xX12 := X1.at (i := 2) (v := .int .u64 M1) rfl
  have xX13 := X1.at (i := 3) (v := .int .i64 E1) rfl
  go_wp2_with fail
  refine (nSign u1 HS.out).mono ?_
  rintro ee w3 ⟨rfl, B⟩
  clear xX10 xX11 xX12 xX13
  replace X0 := X0.below B
  replace X1 := X1.below B
  replace HB := Lib.hid (bt HB.out B)
  clear B
  go_wp2
  go_ret
  exact ⟨rfl, HB.out⟩
set_option maxHeartbeats 8000000 in
theorem quotTurns_main (D0 : Int) (s0 : Bool) (M0 E0 : Int) (D1 : Int) (s1 : Bool) (M1 E1 : Int) (b2 : Bool) (w : World) (x y σ : Int) (hT : Tab w) (u0 : M0 < 18446744073709551616) (u1 : M1 < 18446744073709551616) (hx : rk D0 s0 M0 E0 = x) (hy : rk D1 s1 M1 E1 = y) (hσ : cmpI y 0 = σ) (z0 : ¬ σ = 0) (hy0 : y ≠ 0) :
    Calls Tryd.prog 7 #[.agg #[.int .i64 D0, .bool s0, .int .u64 M0, .int .i64 E0], .agg #[.int .i64 D1, .bool s1, .int .u64 M1, .int .i64 E1], .bool b2] w (PB w true) := by
  obtain ⟨r, hr⟩ := qt_ex b2 x y
  have HRN := Lib.hid (qt_neg hy0 hr)
  have HRC := Lib.hid (qt_negs hy0 hr)
  obtain ⟨τ, hτ⟩ : ∃ τ, cmpI r 0 = τ := ⟨_, rfl⟩
  have HNX : Hid (-rk D0 s0 M0 E0 = -x) := Lib.hid (by rw [hx])
  have HNY : Hid (-rk D1 s1 M1 E1 = -y) := Lib.hid (by rw [hy])
  have HS : Hid (cmpI (rk D1 s1 M1 E1) 0 = σ) := Lib.hid (by rw [hy, hσ])
  have HX := Lib.hid hx
  have HY := Lib.hid hy
  have HR := Lib.hid hr
  have HSR := Lib.hid hτ
  clear hx hy hr hτ hσ hy0
  go_enter Tryd.func7, Tryd.ntmps7
  go_upto_region 1 with (fail)
  have X0 := (Bo.newAt w (g := w.heap.size) (by simp) #[.int .i64 D0, .bool s0, .int .u64 M0, .int .i64 E0] 24).below (bel1 _ (.cells #[.int .i64 D1, .bool s1, .int .u64 M1, .int .i64 E1] 24))
  have X1 := (Bo.newAt (w.alloc (.cells #[.int .i64 D0, .bool s0, .int .u64 M0, .int .i64 E0] 24)) (g := w.heap.size + 1) (by simp) #[.int .i64 D1, .bool s1, .int .u64 M1, .int .i64 E1] 24)
  have HB := Lib.hid (bel2 w (.cells #[.int .i64 D0, .bool s0, .int .u64 M0, .int .i64 E0] 24) (.cells #[.int .i64 D1, .bool s1, .int .u64 M1, .int .i64 E1] 24))
  replace hT := hT.below HB.out
  generalize hW1 : ((w.alloc (.cells #[.int .i64 D0, .bool s0, .int .u64 M0, .int .i64 E0] 24)).alloc (.cells #[.int .i64 D1, .bool s1, .int .u64 M1, .int .i64 E1] 24)) = w1 at *
  clear hW1
  go_wp2_with fail
  refine (awake7 hT).mono ?_
  rintro ee w2 ⟨rfl, B⟩
  replace X0 := X0.below B
  replace X1 := X1.below B
  replace hT := hT.below B
  replace HB := Lib.hid (bt HB.out B)
  clear B
  have xX10 := X1.at (i := 0) (v := .int .i64 D1) rfl
  have xX11 := X1.at (i := 1) (v := .bool s1) rfl
  have xX12 := X1.at (i := 2) (v := .int .u64 M1) rfl
  have xX13 := X1.at (i := 3) (v := .int .i64 E1) rfl
  go_wp2_with fail
  refine (nSign u1 HS.out).mono ?_
  rintro ee w3 ⟨rfl, B⟩
  clear xX10 xX11 xX12 xX13
  replace X0 := X0.below B
  replace X1 := X1.below B
  replace hT := hT.below B
  replace HB := Lib.hid (bt HB.out B)
  clear B
  have xX00 := X0.at (i := 0) (v := .int .i64 D0) rfl
  have xX01 := X0.at (i := 1) (v := .bool s0) rfl
  have xX02 := X0.at (i := 2) (v := .int .u64 M0) rfl
  have xX03 := X0.at (i := 3) (v := .int .i64 E0) rfl
  have xX10 := X1.at (i := 0) (v := .int .i64 D1) rfl
  have xX11 := X1.at (i := 1) (v := .bool s1) rfl
  have xX12 := X1.at (i := 2) (v := .int .u64 M1) rfl
  have xX13 := X1.at (i := 3) (v := .int .i64 E1) rfl
  go_wp2_with fail
  refine (kDiv hT u0 u1 HX.out HY.out HR.out).mono ?_
  rintro ee w4 ⟨K3, s3, M3, E3, rfl, q3, B⟩
  clear xX00 xX01 xX02 xX03 xX10 xX11 xX12 xX13
  replace X0 := X0.below B
  replace X1 := X1.below B
  replace hT := hT.below B
  replace HB := Lib.hid (bt HB.out B)
  clear B
  go_upto_region 5 with (fail)
  have lX8 := Nat.le_refl (World.heap w4).size
  have nX8X0 := X0.lt
  have nX8X1 := X1.lt
  replace X0 := X0.below (bel1 _ (.cells #[.int .i64 K3, .bool s3, .int .u64 M3, .int .i64 E3] 24))
  replace X1 := X1.below (bel1 _ (.cells #[.int .i64 K3, .bool s3, .int .u64 M3, .int .i64 E3] 24))
  replace hT := hT.below (bel1 _ (.cells #[.int .i64 K3, .bool s3, .int .u64 M3, .int .i64 E3] 24))
  replace HB := Lib.hid (bt HB.out (bel1 _ (.cells #[.int .i64 K3, .bool s3, .int .u64 M3, .int .i64 E3] 24)))
  have X8 := Bo.new w4 #[.int .i64 K3, .bool s3, .int .u64 M3, .int .i64 E3] 24
  generalize hWn : World.alloc w4 (.cells #[.int .i64 K3, .bool s3, .int .u64 M3, .int .i64 E3] 24) = w5 at *
  clear hWn
  clear lX8
  refine Jo.region_joint (T := [0, 1, 2, 3, 4, 5, 6, 7, 8, 9, 10, 11, 12, 13, 14, 15, 16, 17, 18, 19, 20, 21, 22, 23, 24, 25, 26, 27, 28, 29, 30, 31, 32]) (ds := [some 18, some 19, some 20, some 21, some 22, some 23, some 24, some 25, some 26, some 27, some 28, some 29, some 30, some 31, some 32, some 33, some 34, some 35, some 36, some 37, some 38, some 39, some 40, some 41, some 42, some 43, some 44, some 45, some 46, some 47, some 48, some 49, some 6]) (ls := [[], [0], [1], [1], [1, 3], [1], [1], [1, 6], [1, 4, 5, 7], [1, 8], [1, 2, 9], [1, 10], [11], [12], [12], [12, 14], [12], [12, 16], [12], [12, 15, 17, 18], [12, 13, 19], [12, 20], [21], [22], [22, 23], [22], [22], [22], [22, 25, 26, 27], [22, 28], [22, 24, 29], [22, 30], [31]]) (k := 33) (L := [(some 18, 0), (some 19, 1), (some 20, 2), (some 21, 3), (some 22, 4), (some 23, 5), (some 24, 6), (some 25, 7), (some 26, 8), (some 27, 9), (some 28, 10), (some 29, 11), (some 30, 12), (some 31, 13), (some 32, 14), (some 33, 15), (some 34, 16), (some 35, 17), (some 36, 18), (some 37, 19), (some 38, 20), (some 39, 21), (some 40, 22), (some 41, 23), (some 42, 24), (some 43, 25), (some 44, 26), (some 45, 27), (some 46, 28), (some 47, 29), (some 48, 30), (some 49, 31), (some 6, 32)]) (fuel := 0) (J := fun wj => Below (World.heap w5).size w5 wj)
    (F := [Jo.Fact.eq (.bool true), Jo.Fact.eq (.bool true), Jo.Fact.eq (.agg #[.int .i64 K3, .bool s3, .int .u64 M3, .int .i64 E3]), Jo.Fact.eq (.agg #[.int .i64 D0, .bool s0, .int .u64 M0, .int .i64 E0]), Jo.Fact.num (-x), Jo.Fact.eq (.agg #[.int .i64 D1, .bool s1, .int .u64 M1, .int .i64 E1]), Jo.Fact.eq (.bool b2), Jo.Fact.eq (.bool (!b2)), Jo.Fact.num (-r), Jo.Fact.num r, Jo.Fact.eq (.bool true), Jo.Fact.eq (.bool true), Jo.Fact.eq (.bool true), Jo.Fact.eq (.agg #[.int .i64 K3, .bool s3, .int .u64 M3, .int .i64 E3]), Jo.Fact.eq (.agg #[.int .i64 D0, .bool s0, .int .u64 M0, .int .i64 E0]), Jo.Fact.num (-x), Jo.Fact.eq (.agg #[.int .i64 D1, .bool s1, .int .u64 M1, .int .i64 E1]), Jo.Fact.num (-y), Jo.Fact.eq (.bool b2), Jo.Fact.num r, Jo.Fact.eq (.bool true), Jo.Fact.eq (.bool true), Jo.Fact.eq (.bool true), Jo.Fact.eq (.agg #[.int .i64 K3, .bool s3, .int .u64 M3, .int .i64 E3]), Jo.Fact.eq (.int .i64 τ), Jo.Fact.eq (.agg #[.int .i64 D0, .bool s0, .int .u64 M0, .int .i64 E0]), Jo.Fact.eq (.agg #[.int .i64 D1, .bool s1, .int .u64 M1, .int .i64 E1]), Jo.Fact.eq (.bool b2), Jo.Fact.num r, Jo.Fact.eq (.int .i64 τ), Jo.Fact.eq (.bool true), Jo.Fact.eq (.bool true), Jo.Fact.eq (.bool true)])
    (by kernel_rfl) (by kernel_rfl) (by decide) rfl rfl (fun _ _ h b => bt h b) ((Below.refl _ _).drew) ?_ (fun vs w6 hJ hd => ?_)
  · refine Jo.jcons (i := 0) (o := ⟨some 18, _, _, _, _, _⟩) (di := some 18) (L := []) (f := Jo.Fact.eq (.bool true)) rfl rfl rfl rfl (fun vs wj hJ hd K hK => ?_) ?_
    · clear hd
      simp only [Jo.putl, Jo.ze, Act.put, Jo.za, Jo.zb, Jo.zc] at hK ⊢
      go_simp
      exact hK.out _ _ rfl (Below.refl _ _)
    refine Jo.jcons (i := 1) (o := ⟨some 19, _, _, _, _, _⟩) (di := some 19) (L := [(some 18, 0)]) (f := Jo.Fact.eq (.bool true)) rfl rfl rfl rfl (fun vs wj hJ hd K hK => ?_) ?_
    · have d0 : (Jo.Fact.eq (.bool true)).P (vs 0) wj := hd 0 (by decide)
      clear hd
      simp only [Jo.putl, Jo.zd, Jo.ze, Act.put, Jo.za, Jo.zb, Jo.zc] at hK ⊢
      generalize vs 0 = u0 at hK d0 ⊢
      replace d0 : u0 = _ := d0
      subst d0
      go_simp
      exact hK.out _ _ rfl (Below.refl _ _)
    refine Jo.jcons (i := 2) (o := ⟨some 20, _, _, _, _, _⟩) (di := some 20) (L := [(some 19, 1)]) (f := Jo.Fact.eq (.agg #[.int .i64 K3, .bool s3, .int .u64 M3, .int .i64 E3])) rfl rfl rfl rfl (fun vs wj hJ hd K hK => ?_) ?_
    · have d1 : (Jo.Fact.eq (.bool true)).P (vs 1) wj := hd 1 (by decide)
      clear hd
      simp only [Jo.putl, Jo.zd, Jo.ze, Act.put, Jo.za, Jo.zb, Jo.zc] at hK ⊢
      generalize vs 1 = u1 at hK d1 ⊢
      replace d1 : u1 = _ := d1
      subst d1
      have xX80 : World.cell? wj ⟨w4.heap.size, 0, none⟩ = some (.int .i64 K3) := (X8.below hJ).cell 0
      have xX81 : World.cell? wj ⟨w4.heap.size, 1, none⟩ = some (.bool s3) := (X8.below hJ).cell 1
      have xX82 : World.cell? wj ⟨w4.heap.size, 2, none⟩ = some (.int .u64 M3) := (X8.below hJ).cell 2
      have xX83 : World.cell? wj ⟨w4.heap.size, 3, none⟩ = some (.int .i64 E3) := (X8.below hJ).cell 3
      go_simp
      exact hK.out _ _ rfl (Below.refl _ _)
    refine Jo.jcons (i := 3) (o := ⟨some 21, _, _, _, _, _⟩) (di := some 21) (L := [(some 19, 1)]) (f := Jo.Fact.eq (.agg #[.int .i64 D0, .bool s0, .int .u64 M0, .int .i64 E0])) rfl rfl rfl rfl (fun vs wj hJ hd K hK => ?_) ?_
    · have d1 : (Jo.Fact.eq (.bool true)).P (vs 1) wj := hd 1 (by decide)
      clear hd
      simp only [Jo.putl, Jo.zd, Jo.ze, Act.put, Jo.za, Jo.zb, Jo.zc] at hK ⊢
      generalize vs 1 = u1 at hK d1 ⊢
      replace d1 : u1 = _ := d1
      subst d1
      have xX00 : World.cell? wj ⟨w.heap.size, 0, none⟩ = some (.int .i64 D0) := (X0.below hJ).cell 0
      have xX01 : World.cell? wj ⟨w.heap.size, 1, none⟩ = some (.bool s0) := (X0.below hJ).cell 1
      have xX02 : World.cell? wj ⟨w.heap.size, 2, none⟩ = some (.int .u64 M0) := (X0.below hJ).cell 2
      have xX03 : World.cell? wj ⟨w.heap.size, 3, none⟩ = some (.int .i64 E0) := (X0.below hJ).cell 3
      go_simp
      exact hK.out _ _ rfl (Below.refl _ _)
    refine Jo.jcons (i := 4) (o := ⟨some 22, _, _, _, _, _⟩) (di := some 22) (L := [(some 19, 1), (some 21, 3)]) (f := Jo.Fact.num (-x)) rfl rfl rfl rfl (fun vs wj hJ hd K hK => ?_) ?_
    · have d1 : (Jo.Fact.eq (.bool true)).P (vs 1) wj := hd 1 (by decide)
      have d3 : (Jo.Fact.eq (.agg #[.int .i64 D0, .bool s0, .int .u64 M0, .int .i64 E0])).P (vs 3) wj := hd 3 (by decide)
      clear hd
      simp only [Jo.putl, Jo.zd, Jo.ze, Act.put, Jo.za, Jo.zb, Jo.zc] at hK ⊢
      generalize vs 1 = u1 at hK d1 ⊢
      generalize vs 3 = u3 at hK d3 ⊢
      replace d1 : u1 = _ := d1
      subst d1
      replace d3 : u3 = _ := d3
      subst d3
      go_simp
      refine (nNeg u0 HNX.out).mono ?_
      rintro ee wk ⟨K4, s4, M4, E4, rfl, q4, B⟩
      exact hK.out _ _ ⟨K4, s4, M4, E4, rfl, q4⟩ B
    refine Jo.jcons (i := 5) (o := ⟨some 23, _, _, _, _, _⟩) (di := some 23) (L := [(some 19, 1)]) (f := Jo.Fact.eq (.agg #[.int .i64 D1, .bool s1, .int .u64 M1, .int .i64 E1])) rfl rfl rfl rfl (fun vs wj hJ hd K hK => ?_) ?_
    · have d1 : (Jo.Fact.eq (.bool true)).P (vs 1) wj := hd 1 (by decide)
      clear hd
      simp only [Jo.putl, Jo.zd, Jo.ze, Act.put, Jo.za, Jo.zb, Jo.zc] at hK ⊢
      generalize vs 1 = u1 at hK d1 ⊢
      replace d1 : u1 = _ := d1
      subst d1
      have xX10 : World.cell? wj ⟨w.heap.size + 1, 0, none⟩ = some (.int .i64 D1) := (X1.below hJ).cell 0
      have xX11 : World.cell? wj ⟨w.heap.size + 1, 1, none⟩ = some (.bool s1) := (X1.below hJ).cell 1
      have xX12 : World.cell? wj ⟨w.heap.size + 1, 2, none⟩ = some (.int .u64 M1) := (X1.below hJ).cell 2
      have xX13 : World.cell? wj ⟨w.heap.size + 1, 3, none⟩ = some (.int .i64 E1) := (X1.below hJ).cell 3
      go_simp
      exact hK.out _ _ rfl (Below.refl _ _)
    refine Jo.jcons (i := 6) (o := ⟨some 24, _, _, _, _, _⟩) (di := some 24) (L := [(some 19, 1)]) (f := Jo.Fact.eq (.bool b2)) rfl rfl rfl rfl (fun vs wj hJ hd K hK => ?_) ?_
    · have d1 : (Jo.Fact.eq (.bool true)).P (vs 1) wj := hd 1 (by decide)
      clear hd
      simp only [Jo.putl, Jo.zd, Jo.ze, Act.put, Jo.za, Jo.zb, Jo.zc] at hK ⊢
      generalize vs 1 = u1 at hK d1 ⊢
      replace d1 : u1 = _ := d1
      subst d1
      go_simp
      exact hK.out _ _ rfl (Below.refl _ _)
    refine Jo.jcons (i := 7) (o := ⟨some 25, _, _, _, _, _⟩) (di := some 25) (L := [(some 19, 1), (some 24, 6)]) (f := Jo.Fact.eq (.bool (!b2))) rfl rfl rfl rfl (fun vs wj hJ hd K hK => ?_) ?_
    · have d1 : (Jo.Fact.eq (.bool true)).P (vs 1) wj := hd 1 (by decide)
      have d6 : (Jo.Fact.eq (.bool b2)).P (vs 6) wj := hd 6 (by decide)
      clear hd
      simp only [Jo.putl, Jo.zd, Jo.ze, Act.put, Jo.za, Jo.zb, Jo.zc] at hK ⊢
      generalize vs 1 = u1 at hK d1 ⊢
      generalize vs 6 = u6 at hK d6 ⊢
      replace d1 : u1 = _ := d1
      subst d1
      replace d6 : u6 = _ := d6
      subst d6
      go_simp
      exact hK.out _ _ rfl (Below.refl _ _)
    refine Jo.jcons (i := 8) (o := ⟨some 26, _, _, _, _, _⟩) (di := some 26) (L := [(some 19, 1), (some 22, 4), (some 23, 5), (some 25, 7)]) (f := Jo.Fact.num (-r)) rfl rfl rfl rfl (fun vs wj hJ hd K hK => ?_) ?_
    · have d1 : (Jo.Fact.eq (.bool true)).P (vs 1) wj := hd 1 (by decide)
      have d4 : (Jo.Fact.num (-x)).P (vs 4) wj := hd 4 (by decide)
      have d5 : (Jo.Fact.eq (.agg #[.int .i64 D1, .bool s1, .int .u64 M1, .int .i64 E1])).P (vs 5) wj := hd 5 (by decide)
      have d7 : (Jo.Fact.eq (.bool (!b2))).P (vs 7) wj := hd 7 (by decide)
      clear hd
      simp only [Jo.putl, Jo.zd, Jo.ze, Act.put, Jo.za, Jo.zb, Jo.zc] at hK ⊢
      generalize vs 1 = u1 at hK d1 ⊢
      generalize vs 4 = u4 at hK d4 ⊢
      generalize vs 5 = u5 at hK d5 ⊢
      generalize vs 7 = u7 at hK d7 ⊢
      replace d1 : u1 = _ := d1
      subst d1
      obtain ⟨K4, s4, M4, E4, rfl, q4⟩ := d4
      replace d5 : u5 = _ := d5
      subst d5
      replace d7 : u7 = _ := d7
      subst d7
      go_simp
      refine (kDiv (hT.below hJ) q4.top u1 q4.rk HY.out HRN.out).mono ?_
      rintro ee wk ⟨K5, s5, M5, E5, rfl, q5, B⟩
      exact hK.out _ _ ⟨K5, s5, M5, E5, rfl, q5⟩ B
    refine Jo.jcons (i := 9) (o := ⟨some 27, _, _, _, _, _⟩) (di := some 27) (L := [(some 19, 1), (some 26, 8)]) (f := Jo.Fact.num r) rfl rfl rfl rfl (fun vs wj hJ hd K hK => ?_) ?_
    · have d1 : (Jo.Fact.eq (.bool true)).P (vs 1) wj := hd 1 (by decide)
      have d8 : (Jo.Fact.num (-r)).P (vs 8) wj := hd 8 (by decide)
      clear hd
      simp only [Jo.putl, Jo.zd, Jo.ze, Act.put, Jo.za, Jo.zb, Jo.zc] at hK ⊢
      generalize vs 1 = u1 at hK d1 ⊢
      generalize vs 8 = u8 at hK d8 ⊢
      replace d1 : u1 = _ := d1
      subst d1
      obtain ⟨K5, s5, M5, E5, rfl, q5⟩ := d8
      go_simp
      refine (nNeg (r := r) q5.top (by rw [q5.rk]; omega)).mono ?_
      rintro ee wk ⟨K6, s6, M6, E6, rfl, q6, B⟩
      exact hK.out _ _ ⟨K6, s6, M6, E6, rfl, q6⟩ B
    refine Jo.jcons (i := 10) (o := ⟨some 28, _, _, _, _, _⟩) (di := some 28) (L := [(some 19, 1), (some 20, 2), (some 27, 9)]) (f := Jo.Fact.eq (.bool true)) rfl rfl rfl rfl (fun vs wj hJ hd K hK => ?_) ?_
    · have d1 : (Jo.Fact.eq (.bool true)).P (vs 1) wj := hd 1 (by decide)
      have d2 : (Jo.Fact.eq (.agg #[.int .i64 K3, .bool s3, .int .u64 M3, .int .i64 E3])).P (vs 2) wj := hd 2 (by decide)
      have d9 : (Jo.Fact.num r).P (vs 9) wj := hd 9 (by decide)
      clear hd
      simp only [Jo.putl, Jo.zd, Jo.ze, Act.put, Jo.za, Jo.zb, Jo.zc] at hK ⊢
      generalize vs 1 = u1 at hK d1 ⊢
      generalize vs 2 = u2 at hK d2 ⊢
      generalize vs 9 = u9 at hK d9 ⊢
      replace d1 : u1 = _ := d1
      subst d1
      replace d2 : u2 = _ := d2
      subst d2
      obtain ⟨K6, s6, M6, E6, rfl, q6⟩ := d9
      obtain ⟨rfl, rfl, rfl, rfl⟩ := q3.uniq q6
      go_simp
      exact hK.out _ _ (by first | rfl | (show Value.bool _ = Value.bool _; simp)) (Below.refl _ _)
    refine Jo.jcons (i := 11) (o := ⟨some 29, _, _, _, _, _⟩) (di := some 29) (L := [(some 19, 1), (some 28, 10)]) (f := Jo.Fact.eq (.bool true)) rfl rfl rfl rfl (fun vs wj hJ hd K hK => ?_) ?_
    · have d1 : (Jo.Fact.eq (.bool true)).P (vs 1) wj := hd 1 (by decide)
      have d10 : (Jo.Fact.eq (.bool true)).P (vs 10) wj := hd 10 (by decide)
      clear hd
      simp only [Jo.putl, Jo.zd, Jo.ze, Act.put, Jo.za, Jo.zb, Jo.zc] at hK ⊢
      generalize vs 1 = u1 at hK d1 ⊢
      generalize vs 10 = u10 at hK d10 ⊢
      replace d1 : u1 = _ := d1
      subst d1
      replace d10 : u10 = _ := d10
      subst d10
      go_simp
      exact hK.out _ _ rfl (Below.refl _ _)
    refine Jo.jcons (i := 12) (o := ⟨some 30, _, _, _, _, _⟩) (di := some 30) (L := [(some 29, 11)]) (f := Jo.Fact.eq (.bool true)) rfl rfl rfl rfl (fun vs wj hJ hd K hK => ?_) ?_
    · have d11 : (Jo.Fact.eq (.bool true)).P (vs 11) wj := hd 11 (by decide)
      clear hd
      simp only [Jo.putl, Jo.zd, Jo.ze, Act.put, Jo.za, Jo.zb, Jo.zc] at hK ⊢
      generalize vs 11 = u11 at hK d11 ⊢
      replace d11 : u11 = _ := d11
      subst d11
      go_simp
      exact hK.out _ _ rfl (Below.refl _ _)
    refine Jo.jcons (i := 13) (o := ⟨some 31, _, _, _, _, _⟩) (di := some 31) (L := [(some 30, 12)]) (f := Jo.Fact.eq (.agg #[.int .i64 K3, .bool s3, .int .u64 M3, .int .i64 E3])) rfl rfl rfl rfl (fun vs wj hJ hd K hK => ?_) ?_
    · have d12 : (Jo.Fact.eq (.bool true)).P (vs 12) wj := hd 12 (by decide)
      clear hd
      simp only [Jo.putl, Jo.zd, Jo.ze, Act.put, Jo.za, Jo.zb, Jo.zc] at hK ⊢
      generalize vs 12 = u12 at hK d12 ⊢
      replace d12 : u12 = _ := d12
      subst d12
      have xX80 : World.cell? wj ⟨w4.heap.size, 0, none⟩ = some (.int .i64 K3) := (X8.below hJ).cell 0
      have xX81 : World.cell? wj ⟨w4.heap.size, 1, none⟩ = some (.bool s3) := (X8.below hJ).cell 1
      have xX82 : World.cell? wj ⟨w4.heap.size, 2, none⟩ = some (.int .u64 M3) := (X8.below hJ).cell 2
      have xX83 : World.cell? wj ⟨w4.heap.size, 3, none⟩ = some (.int .i64 E3) := (X8.below hJ).cell 3
      go_simp
      exact hK.out _ _ rfl (Below.refl _ _)
    refine Jo.jcons (i := 14) (o := ⟨some 32, _, _, _, _, _⟩) (di := some 32) (L := [(some 30, 12)]) (f := Jo.Fact.eq (.agg #[.int .i64 D0, .bool s0, .int .u64 M0, .int .i64 E0])) rfl rfl rfl rfl (fun vs wj hJ hd K hK => ?_) ?_
    · have d12 : (Jo.Fact.eq (.bool true)).P (vs 12) wj := hd 12 (by decide)
      clear hd
      simp only [Jo.putl, Jo.zd, Jo.ze, Act.put, Jo.za, Jo.zb, Jo.zc] at hK ⊢
      generalize vs 12 = u12 at hK d12 ⊢
      replace d12 : u12 = _ := d12
      subst d12
      have xX00 : World.cell? wj ⟨w.heap.size, 0, none⟩ = some (.int .i64 D0) := (X0.below hJ).cell 0
      have xX01 : World.cell? wj ⟨w.heap.size, 1, none⟩ = some (.bool s0) := (X0.below hJ).cell 1
      have xX02 : World.cell? wj ⟨w.heap.size, 2, none⟩ = some (.int .u64 M0) := (X0.below hJ).cell 2
      have xX03 : World.cell? wj ⟨w.heap.size, 3, none⟩ = some (.int .i64 E0) := (X0.below hJ).cell 3
      go_simp
      exact hK.out _ _ rfl (Below.refl _ _)
    refine Jo.jcons (i := 15) (o := ⟨some 33, _, _, _, _, _⟩) (di := some 33) (L := [(some 30, 12), (some 32, 14)]) (f := Jo.Fact.num (-x)) rfl rfl rfl rfl (fun vs wj hJ hd K hK => ?_) ?_
    · have d12 : (Jo.Fact.eq (.bool true)).P (vs 12) wj := hd 12 (by decide)
      have d14 : (Jo.Fact.eq (.agg #[.int .i64 D0, .bool s0, .int .u64 M0, .int .i64 E0])).P (vs 14) wj := hd 14 (by decide)
      clear hd
      simp only [Jo.putl, Jo.zd, Jo.ze, Act.put, Jo.za, Jo.zb, Jo.zc] at hK ⊢
      generalize vs 12 = u12 at hK d12 ⊢
      generalize vs 14 = u14 at hK d14 ⊢
      replace d12 : u12 = _ := d12
      subst d12
      replace d14 : u14 = _ := d14
      subst d14
      go_simp
      refine (nNeg u0 HNX.out).mono ?_
      rintro ee wk ⟨K7, s7, M7, E7, rfl, q7, B⟩
      exact hK.out _ _ ⟨K7, s7, M7, E7, rfl, q7⟩ B
    refine Jo.jcons (i := 16) (o := ⟨some 34, _, _, _, _, _⟩) (di := some 34) (L := [(some 30, 12)]) (f := Jo.Fact.eq (.agg #[.int .i64 D1, .bool s1, .int .u64 M1, .int .i64 E1])) rfl rfl rfl rfl (fun vs wj hJ hd K hK => ?_) ?_
    · have d12 : (Jo.Fact.eq (.bool true)).P (vs 12) wj := hd 12 (by decide)
      clear hd
      simp only [Jo.putl, Jo.zd, Jo.ze, Act.put, Jo.za, Jo.zb, Jo.zc] at hK ⊢
      generalize vs 12 = u12 at hK d12 ⊢
      replace d12 : u12 = _ := d12
      subst d12
      have xX10 : World.cell? wj ⟨w.heap.size + 1, 0, none⟩ = some (.int .i64 D1) := (X1.below hJ).cell 0
      have xX11 : World.cell? wj ⟨w.heap.size + 1, 1, none⟩ = some (.bool s1) := (X1.below hJ).cell 1
      have xX12 : World.cell? wj ⟨w.heap.size + 1, 2, none⟩ = some (.int .u64 M1) := (X1.below hJ).cell 2
      have xX13 : World.cell? wj ⟨w.heap.size + 1, 3, none⟩ = some (.int .i64 E1) := (X1.below hJ).cell 3
      go_simp
      exact hK.out _ _ rfl (Below.refl _ _)
    refine Jo.jcons (i := 17) (o := ⟨some 35, _, _, _, _, _⟩) (di := some 35) (L := [(some 30, 12), (some 34, 16)]) (f := Jo.Fact.num (-y)) rfl rfl rfl rfl (fun vs wj hJ hd K hK => ?_) ?_
    · have d12 : (Jo.Fact.eq (.bool true)).P (vs 12) wj := hd 12 (by decide)
      have d16 : (Jo.Fact.eq (.agg #[.int .i64 D1, .bool s1, .int .u64 M1, .int .i64 E1])).P (vs 16) wj := hd 16 (by decide)
      clear hd
      simp only [Jo.putl, Jo.zd, Jo.ze, Act.put, Jo.za, Jo.zb, Jo.zc] at hK ⊢
      generalize vs 12 = u12 at hK d12 ⊢
      generalize vs 16 = u16 at hK d16 ⊢
      replace d12 : u12 = _ := d12
      subst d12
      replace d16 : u16 = _ := d16
      subst d16
      go_simp
      refine (nNeg u1 HNY.out).mono ?_
      rintro ee wk ⟨K8, s8, M8, E8, rfl, q8, B⟩
      exact hK.out _ _ ⟨K8, s8, M8, E8, rfl, q8⟩ B
    refine Jo.jcons (i := 18) (o := ⟨some 36, _, _, _, _, _⟩) (di := some 36) (L := [(some 30, 12)]) (f := Jo.Fact.eq (.bool b2)) rfl rfl rfl rfl (fun vs wj hJ hd K hK => ?_) ?_
    · have d12 : (Jo.Fact.eq (.bool true)).P (vs 12) wj := hd 12 (by decide)
      clear hd
      simp only [Jo.putl, Jo.zd, Jo.ze, Act.put, Jo.za, Jo.zb, Jo.zc] at hK ⊢
      generalize vs 12 = u12 at hK d12 ⊢
      replace d12 : u12 = _ := d12
      subst d12
      go_simp
      exact hK.out _ _ rfl (Below.refl _ _)
    refine Jo.jcons (i := 19) (o := ⟨some 37, _, _, _, _, _⟩) (di := some 37) (L := [(some 30, 12), (some 33, 15), (some 35, 17), (some 36, 18)]) (f := Jo.Fact.num r) rfl rfl rfl rfl (fun vs wj hJ hd K hK => ?_) ?_
    · have d12 : (Jo.Fact.eq (.bool true)).P (vs 12) wj := hd 12 (by decide)
      have d15 : (Jo.Fact.num (-x)).P (vs 15) wj := hd 15 (by decide)
      have d17 : (Jo.Fact.num (-y)).P (vs 17) wj := hd 17 (by decide)
      have d18 : (Jo.Fact.eq (.bool b2)).P (vs 18) wj := hd 18 (by decide)
      clear hd
      simp only [Jo.putl, Jo.zd, Jo.ze, Act.put, Jo.za, Jo.zb, Jo.zc] at hK ⊢
      generalize vs 12 = u12 at hK d12 ⊢
      generalize vs 15 = u15 at hK d15 ⊢
      generalize vs 17 = u17 at hK d17 ⊢
      generalize vs 18 = u18 at hK d18 ⊢
      replace d12 : u12 = _ := d12
      subst d12
      obtain ⟨K7, s7, M7, E7, rfl, q7⟩ := d15
      obtain ⟨K8, s8, M8, E8, rfl, q8⟩ := d17
      replace d18 : u18 = _ := d18
      subst d18
      go_simp
      refine (kDiv (hT.below hJ) q7.top q8.top q7.rk q8.rk HRC.out).mono ?_
      rintro ee wk ⟨K9, s9, M9, E9, rfl, q9, B⟩
      exact hK.out _ _ ⟨K9, s9, M9, E9, rfl, q9⟩ B
    refine Jo.jcons (i := 20) (o := ⟨some 38, _, _, _, _, _⟩) (di := some 38) (L := [(some 30, 12), (some 31, 13), (some 37, 19)]) (f := Jo.Fact.eq (.bool true)) rfl rfl rfl rfl (fun vs wj hJ hd K hK => ?_) ?_
    · have d12 : (Jo.Fact.eq (.bool true)).P (vs 12) wj := hd 12 (by decide)
      have d13 : (Jo.Fact.eq (.agg #[.int .i64 K3, .bool s3, .int .u64 M3, .int .i64 E3])).P (vs 13) wj := hd 13 (by decide)
      have d19 : (Jo.Fact.num r).P (vs 19) wj := hd 19 (by decide)
      clear hd
      simp only [Jo.putl, Jo.zd, Jo.ze, Act.put, Jo.za, Jo.zb, Jo.zc] at hK ⊢
      generalize vs 12 = u12 at hK d12 ⊢
      generalize vs 13 = u13 at hK d13 ⊢
      generalize vs 19 = u19 at hK d19 ⊢
      replace d12 : u12 = _ := d12
      subst d12
      replace d13 : u13 = _ := d13
      subst d13
      obtain ⟨K9, s9, M9, E9, rfl, q9⟩ := d19
      obtain ⟨rfl, rfl, rfl, rfl⟩ := q3.uniq q9
      go_simp
      exact hK.out _ _ (by first | rfl | (show Value.bool _ = Value.bool _; simp)) (Below.refl _ _)
    refine Jo.jcons (i := 21) (o := ⟨some 39, _, _, _, _, _⟩) (di := some 39) (L := [(some 30, 12), (some 38, 20)]) (f := Jo.Fact.eq (.bool true)) rfl rfl rfl rfl (fun vs wj hJ hd K hK => ?_) ?_
    · have d12 : (Jo.Fact.eq (.bool true)).P (vs 12) wj := hd 12 (by decide)
      have d20 : (Jo.Fact.eq (.bool true)).P (vs 20) wj := hd 20 (by decide)
      clear hd
      simp only [Jo.putl, Jo.zd, Jo.ze, Act.put, Jo.za, Jo.zb, Jo.zc] at hK ⊢
      generalize vs 12 = u12 at hK d12 ⊢
      generalize vs 20 = u20 at hK d20 ⊢
      replace d12 : u12 = _ := d12
      subst d12
      replace d20 : u20 = _ := d20
      subst d20
      go_simp
      exact hK.out _ _ rfl (Below.refl _ _)
    refine Jo.jcons (i := 22) (o := ⟨some 40, _, _, _, _, _⟩) (di := some 40) (L := [(some 39, 21)]) (f := Jo.Fact.eq (.bool true)) rfl rfl rfl rfl (fun vs wj hJ hd K hK => ?_) ?_
    · have d21 : (Jo.Fact.eq (.bool true)).P (vs 21) wj := hd 21 (by decide)
      clear hd
      simp only [Jo.putl, Jo.zd, Jo.ze, Act.put, Jo.za, Jo.zb, Jo.zc] at hK ⊢
      generalize vs 21 = u21 at hK d21 ⊢
      replace d21 : u21 = _ := d21
      subst d21
      go_simp
      exact hK.out _ _ rfl (Below.refl _ _)
    refine Jo.jcons (i := 23) (o := ⟨some 41, _, _, _, _, _⟩) (di := some 41) (L := [(some 40, 22)]) (f := Jo.Fact.eq (.agg #[.int .i64 K3, .bool s3, .int .u64 M3, .int .i64 E3])) rfl rfl rfl rfl (fun vs wj hJ hd K hK => ?_) ?_
    · have d22 : (Jo.Fact.eq (.bool true)).P (vs 22) wj := hd 22 (by decide)
      clear hd
      simp only [Jo.putl, Jo.zd, Jo.ze, Act.put, Jo.za, Jo.zb, Jo.zc] at hK ⊢
      generalize vs 22 = u22 at hK d22 ⊢
      replace d22 : u22 = _ := d22
      subst d22
      have xX80 : World.cell? wj ⟨w4.heap.size, 0, none⟩ = some (.int .i64 K3) := (X8.below hJ).cell 0
      have xX81 : World.cell? wj ⟨w4.heap.size, 1, none⟩ = some (.bool s3) := (X8.below hJ).cell 1
      have xX82 : World.cell? wj ⟨w4.heap.size, 2, none⟩ = some (.int .u64 M3) := (X8.below hJ).cell 2
      have xX83 : World.cell? wj ⟨w4.heap.size, 3, none⟩ = some (.int .i64 E3) := (X8.below hJ).cell 3
      go_simp
      exact hK.out _ _ rfl (Below.refl _ _)
    refine Jo.jcons (i := 24) (o := ⟨some 42, _, _, _, _, _⟩) (di := some 42) (L := [(some 40, 22), (some 41, 23)]) (f := Jo.Fact.eq (.int .i64 τ)) rfl rfl rfl rfl (fun vs wj hJ hd K hK => ?_) ?_
    · have d22 : (Jo.Fact.eq (.bool true)).P (vs 22) wj := hd 22 (by decide)
      have d23 : (Jo.Fact.eq (.agg #[.int .i64 K3, .bool s3, .int .u64 M3, .int .i64 E3])).P (vs 23) wj := hd 23 (by decide)
      clear hd
      simp only [Jo.putl, Jo.zd, Jo.ze, Act.put, Jo.za, Jo.zb, Jo.zc] at hK ⊢
      generalize vs 22 = u22 at hK d22 ⊢
      generalize vs 23 = u23 at hK d23 ⊢
      replace d22 : u22 = _ := d22
      subst d22
      replace d23 : u23 = _ := d23
      subst d23
      go_simp
      refine (nSign (σ := τ) q3.top (by rw [q3.rk]; exact HSR.out)).mono ?_
      rintro ee wk ⟨rfl, B⟩
      exact hK.out _ _ rfl B
    refine Jo.jcons (i := 25) (o := ⟨some 43, _, _, _, _, _⟩) (di := some 43) (L := [(some 40, 22)]) (f := Jo.Fact.eq (.agg #[.int .i64 D0, .bool s0, .int .u64 M0, .int .i64 E0])) rfl rfl rfl rfl (fun vs wj hJ hd K hK => ?_) ?_
    · have d22 : (Jo.Fact.eq (.bool true)).P (vs 22) wj := hd 22 (by decide)
      clear hd
      simp only [Jo.putl, Jo.zd, Jo.ze, Act.put, Jo.za, Jo.zb, Jo.zc] at hK ⊢
      generalize vs 22 = u22 at hK d22 ⊢
      replace d22 : u22 = _ := d22
      subst d22
      have xX00 : World.cell? wj ⟨w.heap.size, 0, none⟩ = some (.int .i64 D0) := (X0.below hJ).cell 0
      have xX01 : World.cell? wj ⟨w.heap.size, 1, none⟩ = some (.bool s0) := (X0.below hJ).cell 1
      have xX02 : World.cell? wj ⟨w.heap.size, 2, none⟩ = some (.int .u64 M0) := (X0.below hJ).cell 2
      have xX03 : World.cell? wj ⟨w.heap.size, 3, none⟩ = some (.int .i64 E0) := (X0.below hJ).cell 3
      go_simp
      exact hK.out _ _ rfl (Below.refl _ _)
    refine Jo.jcons (i := 26) (o := ⟨some 44, _, _, _, _, _⟩) (di := some 44) (L := [(some 40, 22)]) (f := Jo.Fact.eq (.agg #[.int .i64 D1, .bool s1, .int .u64 M1, .int .i64 E1])) rfl rfl rfl rfl (fun vs wj hJ hd K hK => ?_) ?_
    · have d22 : (Jo.Fact.eq (.bool true)).P (vs 22) wj := hd 22 (by decide)
      clear hd
      simp only [Jo.putl, Jo.zd, Jo.ze, Act.put, Jo.za, Jo.zb, Jo.zc] at hK ⊢
      generalize vs 22 = u22 at hK d22 ⊢
      replace d22 : u22 = _ := d22
      subst d22
      have xX10 : World.cell? wj ⟨w.heap.size + 1, 0, none⟩ = some (.int .i64 D1) := (X1.below hJ).cell 0
      have xX11 : World.cell? wj ⟨w.heap.size + 1, 1, none⟩ = some (.bool s1) := (X1.below hJ).cell 1
      have xX12 : World.cell? wj ⟨w.heap.size + 1, 2, none⟩ = some (.int .u64 M1) := (X1.below hJ).cell 2
      have xX13 : World.cell? wj ⟨w.heap.size + 1, 3, none⟩ = some (.int .i64 E1) := (X1.below hJ).cell 3
      go_simp
      exact hK.out _ _ rfl (Below.refl _ _)
    refine Jo.jcons (i := 27) (o := ⟨some 45, _, _, _, _, _⟩) (di := some 45) (L := [(some 40, 22)]) (f := Jo.Fact.eq (.bool b2)) rfl rfl rfl rfl (fun vs wj hJ hd K hK => ?_) ?_
    · have d22 : (Jo.Fact.eq (.bool true)).P (vs 22) wj := hd 22 (by decide)
      clear hd
      simp only [Jo.putl, Jo.zd, Jo.ze, Act.put, Jo.za, Jo.zb, Jo.zc] at hK ⊢
      generalize vs 22 = u22 at hK d22 ⊢
      replace d22 : u22 = _ := d22
      subst d22
      go_simp
      exact hK.out _ _ rfl (Below.refl _ _)
    refine Jo.jcons (i := 28) (o := ⟨some 46, _, _, _, _, _⟩) (di := some 46) (L := [(some 40, 22), (some 43, 25), (some 44, 26), (some 45, 27)]) (f := Jo.Fact.num r) rfl rfl rfl rfl (fun vs wj hJ hd K hK => ?_) ?_
    · have d22 : (Jo.Fact.eq (.bool true)).P (vs 22) wj := hd 22 (by decide)
      have d25 : (Jo.Fact.eq (.agg #[.int .i64 D0, .bool s0, .int .u64 M0, .int .i64 E0])).P (vs 25) wj := hd 25 (by decide)
      have d26 : (Jo.Fact.eq (.agg #[.int .i64 D1, .bool s1, .int .u64 M1, .int .i64 E1])).P (vs 26) wj := hd 26 (by decide)
      have d27 : (Jo.Fact.eq (.bool b2)).P (vs 27) wj := hd 27 (by decide)
      clear hd
      simp only [Jo.putl, Jo.zd, Jo.ze, Act.put, Jo.za, Jo.zb, Jo.zc] at hK ⊢
      generalize vs 22 = u22 at hK d22 ⊢
      generalize vs 25 = u25 at hK d25 ⊢
      generalize vs 26 = u26 at hK d26 ⊢
      generalize vs 27 = u27 at hK d27 ⊢
      replace d22 : u22 = _ := d22
      subst d22
      replace d25 : u25 = _ := d25
      subst d25
      replace d26 : u26 = _ := d26
      subst d26
      replace d27 : u27 = _ := d27
      subst d27
      go_simp
      refine (kDiv (hT.below hJ) u0 u1 HX.out HY.out HR.out).mono ?_
      rintro ee wk ⟨K10, s10, M10, E10, rfl, q10, B⟩
      exact hK.out _ _ ⟨K10, s10, M10, E10, rfl, q10⟩ B
    refine Jo.jcons (i := 29) (o := ⟨some 47, _, _, _, _, _⟩) (di := some 47) (L := [(some 40, 22), (some 46, 28)]) (f := Jo.Fact.eq (.int .i64 τ)) rfl rfl rfl rfl (fun vs wj hJ hd K hK => ?_) ?_
    · have d22 : (Jo.Fact.eq (.bool true)).P (vs 22) wj := hd 22 (by decide)
      have d28 : (Jo.Fact.num r).P (vs 28) wj := hd 28 (by decide)
      clear hd
      simp only [Jo.putl, Jo.zd, Jo.ze, Act.put, Jo.za, Jo.zb, Jo.zc] at hK ⊢
      generalize vs 22 = u22 at hK d22 ⊢
      generalize vs 28 = u28 at hK d28 ⊢
      replace d22 : u22 = _ := d22
      subst d22
      obtain ⟨K10, s10, M10, E10, rfl, q10⟩ := d28
      go_simp
      refine (nSign (σ := τ) q10.top (by rw [q10.rk]; exact HSR.out)).mono ?_
      rintro ee wk ⟨rfl, B⟩
      exact hK.out _ _ rfl B
    refine Jo.jcons (i := 30) (o := ⟨some 48, _, _, _, _, _⟩) (di := some 48) (L := [(some 40, 22), (some 42, 24), (some 47, 29)]) (f := Jo.Fact.eq (.bool true)) rfl rfl rfl rfl (fun vs wj hJ hd K hK => ?_) ?_
    · have d22 : (Jo.Fact.eq (.bool true)).P (vs 22) wj := hd 22 (by decide)
      have d24 : (Jo.Fact.eq (.int .i64 τ)).P (vs 24) wj := hd 24 (by decide)
      have d29 : (Jo.Fact.eq (.int .i64 τ)).P (vs 29) wj := hd 29 (by decide)
      clear hd
      simp only [Jo.putl, Jo.zd, Jo.ze, Act.put, Jo.za, Jo.zb, Jo.zc] at hK ⊢
      generalize vs 22 = u22 at hK d22 ⊢
      generalize vs 24 = u24 at hK d24 ⊢
      generalize vs 29 = u29 at hK d29 ⊢
      replace d22 : u22 = _ := d22
      subst d22
      replace d24 : u24 = _ := d24
      subst d24
      replace d29 : u29 = _ := d29
      subst d29
      go_simp
      exact hK.out _ _ (by first | rfl | simp) (Below.refl _ _)
    refine Jo.jcons (i := 31) (o := ⟨some 49, _, _, _, _, _⟩) (di := some 49) (L := [(some 40, 22), (some 48, 30)]) (f := Jo.Fact.eq (.bool true)) rfl rfl rfl rfl (fun vs wj hJ hd K hK => ?_) ?_
    · have d22 : (Jo.Fact.eq (.bool true)).P (vs 22) wj := hd 22 (by decide)
      have d30 : (Jo.Fact.eq (.bool true)).P (vs 30) wj := hd 30 (by decide)
      clear hd
      simp only [Jo.putl, Jo.zd, Jo.ze, Act.put, Jo.za, Jo.zb, Jo.zc] at hK ⊢
      generalize vs 22 = u22 at hK d22 ⊢
      generalize vs 30 = u30 at hK d30 ⊢
      replace d22 : u22 = _ := d22
      subst d22
      replace d30 : u30 = _ := d30
      subst d30
      go_simp
      exact hK.out _ _ rfl (Below.refl _ _)
    refine Jo.jcons (i := 32) (o := ⟨some 6, _, _, _, _, _⟩) (di := some 6) (L := [(some 49, 31)]) (f := Jo.Fact.eq (.bool true)) rfl rfl rfl rfl (fun vs wj hJ hd K hK => ?_) ?_
    · have d31 : (Jo.Fact.eq (.bool true)).P (vs 31) wj := hd 31 (by decide)
      clear hd
      simp only [Jo.putl, Jo.zd, Jo.ze, Act.put, Jo.za, Jo.zb, Jo.zc] at hK ⊢
      generalize vs 31 = u31 at hK d31 ⊢
      replace d31 : u31 = _ := d31
      subst d31
      go_simp
      exact hK.out _ _ rfl (Below.refl _ _)
    exact Jo.Steps.nil
  have d0 : (Jo.Fact.eq (.bool true)).P (vs 0) w6 := hd 0 (by decide)
  have d1 : (Jo.Fact.eq (.bool true)).P (vs 1) w6 := hd 1 (by decide)
  have d2 : (Jo.Fact.eq (.agg #[.int .i64 K3, .bool s3, .int .u64 M3, .int .i64 E3])).P (vs 2) w6 := hd 2 (by decide)
  have d3 : (Jo.Fact.eq (.agg #[.int .i64 D0, .bool s0, .int .u64 M0, .int .i64 E0])).P (vs 3) w6 := hd 3 (by decide)
  have d4 : (Jo.Fact.num (-x)).P (vs 4) w6 := hd 4 (by decide)
  have d5 : (Jo.Fact.eq (.agg #[.int .i64 D1, .bool s1, .int .u64 M1, .int .i64 E1])).P (vs 5) w6 := hd 5 (by decide)
  have d6 : (Jo.Fact.eq (.bool b2)).P (vs 6) w6 := hd 6 (by decide)
  have d7 : (Jo.Fact.eq (.bool (!b2))).P (vs 7) w6 := hd 7 (by decide)
  have d8 : (Jo.Fact.num (-r)).P (vs 8) w6 := hd 8 (by decide)
  have d9 : (Jo.Fact.num r).P (vs 9) w6 := hd 9 (by decide)
  have d10 : (Jo.Fact.eq (.bool true)).P (vs 10) w6 := hd 10 (by decide)
  have d11 : (Jo.Fact.eq (.bool true)).P (vs 11) w6 := hd 11 (by decide)
  have d12 : (Jo.Fact.eq (.bool true)).P (vs 12) w6 := hd 12 (by decide)
  have d13 : (Jo.Fact.eq (.agg #[.int .i64 K3, .bool s3, .int .u64 M3, .int .i64 E3])).P (vs 13) w6 := hd 13 (by decide)
  have d14 : (Jo.Fact.eq (.agg #[.int .i64 D0, .bool s0, .int .u64 M0, .int .i64 E0])).P (vs 14) w6 := hd 14 (by decide)
  have d15 : (Jo.Fact.num (-x)).P (vs 15) w6 := hd 15 (by decide)
  have d16 : (Jo.Fact.eq (.agg #[.int .i64 D1, .bool s1, .int .u64 M1, .int .i64 E1])).P (vs 16) w6 := hd 16 (by decide)
  have d17 : (Jo.Fact.num (-y)).P (vs 17) w6 := hd 17 (by decide)
  have d18 : (Jo.Fact.eq (.bool b2)).P (vs 18) w6 := hd 18 (by decide)
  have d19 : (Jo.Fact.num r).P (vs 19) w6 := hd 19 (by decide)
  have d20 : (Jo.Fact.eq (.bool true)).P (vs 20) w6 := hd 20 (by decide)
  have d21 : (Jo.Fact.eq (.bool true)).P (vs 21) w6 := hd 21 (by decide)
  have d22 : (Jo.Fact.eq (.bool true)).P (vs 22) w6 := hd 22 (by decide)
  have d23 : (Jo.Fact.eq (.agg #[.int .i64 K3, .bool s3, .int .u64 M3, .int .i64 E3])).P (vs 23) w6 := hd 23 (by decide)
  have d24 : (Jo.Fact.eq (.int .i64 τ)).P (vs 24) w6 := hd 24 (by decide)
  have d25 : (Jo.Fact.eq (.agg #[.int .i64 D0, .bool s0, .int .u64 M0, .int .i64 E0])).P (vs 25) w6 := hd 25 (by decide)
  have d26 : (Jo.Fact.eq (.agg #[.int .i64 D1, .bool s1, .int .u64 M1, .int .i64 E1])).P (vs 26) w6 := hd 26 (by decide)
  have d27 : (Jo.Fact.eq (.bool b2)).P (vs 27) w6 := hd 27 (by decide)
  have d28 : (Jo.Fact.num r).P (vs 28) w6 := hd 28 (by decide)
  have d29 : (Jo.Fact.eq (.int .i64 τ)).P (vs 29) w6 := hd 29 (by decide)
  have d30 : (Jo.Fact.eq (.bool true)).P (vs 30) w6 := hd 30 (by decide)
  have d31 : (Jo.Fact.eq (.bool true)).P (vs 31) w6 := hd 31 (by decide)
  have d32 : (Jo.Fact.eq (.bool true)).P (vs 32) w6 := hd 32 (by decide)
  clear hd
  simp only [Jo.putl, Jo.zd, Jo.ze, Act.put, Jo.za, Jo.zb, Jo.zc]
  generalize vs 0 = u0 at d0 ⊢
  generalize vs 1 = u1 at d1 ⊢
  generalize vs 2 = u2 at d2 ⊢
  generalize vs 3 = u3 at d3 ⊢
  generalize vs 4 = u4 at d4 ⊢
  generalize vs 5 = u5 at d5 ⊢
  generalize vs 6 = u6 at d6 ⊢
  generalize vs 7 = u7 at d7 ⊢
  generalize vs 8 = u8 at d8 ⊢
  generalize vs 9 = u9 at d9 ⊢
  generalize vs 10 = u10 at d10 ⊢
  generalize vs 11 = u11 at d11 ⊢
  generalize vs 12 = u12 at d12 ⊢
  generalize vs 13 = u13 at d13 ⊢
  generalize vs 14 = u14 at d14 ⊢
  generalize vs 15 = u15 at d15 ⊢
  generalize vs 16 = u16 at d16 ⊢
  generalize vs 17 = u17 at d17 ⊢
  generalize vs 18 = u18 at d18 ⊢
  generalize vs 19 = u19 at d19 ⊢
  generalize vs 20 = u20 at d20 ⊢
  generalize vs 21 = u21 at d21 ⊢
  generalize vs 22 = u22 at d22 ⊢
  generalize vs 23 = u23 at d23 ⊢
  generalize vs 24 = u24 at d24 ⊢
  generalize vs 25 = u25 at d25 ⊢
  generalize vs 26 = u26 at d26 ⊢
  generalize vs 27 = u27 at d27 ⊢
  generalize vs 28 = u28 at d28 ⊢
  generalize vs 29 = u29 at d29 ⊢
  generalize vs 30 = u30 at d30 ⊢
  generalize vs 31 = u31 at d31 ⊢
  generalize vs 32 = u32 at d32 ⊢
  clear vs
  replace d0 : u0 = _ := d0
  subst d0
  replace d1 : u1 = _ := d1
  subst d1
  replace d2 : u2 = _ := d2
  subst d2
  replace d3 : u3 = _ := d3
  subst d3
  obtain ⟨K4, s4, M4, E4, rfl, _⟩ := d4
  replace d5 : u5 = _ := d5
  subst d5
  replace d6 : u6 = _ := d6
  subst d6
  replace d7 : u7 = _ := d7
  subst d7
  obtain ⟨K5, s5, M5, E5, rfl, _⟩ := d8
  obtain ⟨K6, s6, M6, E6, rfl, _⟩ := d9
  replace d10 : u10 = _ := d10
  subst d10
  replace d11 : u11 = _ := d11
  subst d11
  replace d12 : u12 = _ := d12
  subst d12
  replace d13 : u13 = _ := d13
  subst d13
  replace d14 : u14 = _ := d14
  subst d14
  obtain ⟨K7, s7, M7, E7, rfl, _⟩ := d15
  replace d16 : u16 = _ := d16
  subst d16
  obtain ⟨K8, s8, M8, E8, rfl, _⟩ := d17
  replace d18 : u18 = _ := d18
  subst d18
  obtain ⟨K9, s9, M9, E9, rfl, _⟩ := d19
  replace d20 : u20 = _ := d20
  subst d20
  replace d21 : u21 = _ := d21
  subst d21
  replace d22 : u22 = _ := d22
  subst d22
  replace d23 : u23 = _ := d23
  subst d23
  replace d24 : u24 = _ := d24
  subst d24
  replace d25 : u25 = _ := d25
  subst d25
  replace d26 : u26 = _ := d26
  subst d26
  replace d27 : u27 = _ := d27
  subst d27
  obtain ⟨K10, s10, M10, E10, rfl, _⟩ := d28
  replace d29 : u29 = _ := d29
  subst d29
  replace d30 : u30 = _ := d30
  subst d30
  replace d31 : u31 = _ := d31
  subst d31
  replace d32 : u32 = _ := d32
  subst d32
  replace X0 := X0.below hJ
  replace X1 := X1.below hJ
  replace X8 := X8.below hJ
  replace hT := hT.below hJ
  replace HB := Lib.hid (bt HB.out hJ)
  refine Jo.jdone (by kernel_rfl) ?_
  go_wp2
  go_ret
  exact ⟨rfl, HB.out⟩

theorem quotTurns_walk (D0 : Int) (s0 : Bool) (M0 E0 : Int) (D1 : Int) (s1 : Bool) (M1 E1 : Int) (b2 : Bool) (w : World) (hT : Tab w) (w0 : 0 ≤ M0) (u0 : M0 < 18446744073709551616) (w1 : 0 ≤ M1) (u1 : M1 < 18446744073709551616)  :
    Calls Tryd.prog 7 #[.agg #[.int .i64 D0, .bool s0, .int .u64 M0, .int .i64 E0], .agg #[.int .i64 D1, .bool s1, .int .u64 M1, .int .i64 E1], .bool b2] w fun e w' => e = .returned (.bool true) ∧ Below w.heap.size w w' := by
  rcases cmpI_tri (rk D1 s1 M1 E1) 0 with ⟨a, b⟩ | ⟨a, b⟩ | ⟨a, b⟩
  all_goals first
    | exact quotTurns_none D0 s0 M0 E0 D1 s1 M1 E1 b2 w hT u1 b
    | exact quotTurns_main D0 s0 M0 E0 D1 s1 M1 E1 b2 w _ _ _ hT u0 u1 rfl rfl b (by decide) (by omega)
end Go.Proofs.YtpmakljahhhnfaaDoor

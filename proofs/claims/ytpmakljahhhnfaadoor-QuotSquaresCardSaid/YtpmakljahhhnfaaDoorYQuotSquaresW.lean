/-
  The walk of QuotSquares: for all arguments, where the table lies as it was laid, the call answers true, and nothing that was there has turned.
-/
import Derived.Test.YtpmakljahhhnfaaDoorYAba
import Derived.Test.YtpmakljahhhnfaaDoorYAbh
namespace Go.Proofs.YtpmakljahhhnfaaDoor
open Go.RowKit
set_option linter.unusedVariables false
set_option linter.unusedSimpArgs false
set_option maxRecDepth 100000

set_option maxHeartbeats 8000000 in
theorem quotSquares_far0 (D0 : Int) (s0 : Bool) (M0 E0 : Int) (w : World) (hT : Tab w) (v0 : 0 ≤ M0) (u0 : M0 < 18446744073709551616) (ha : exb D0 s0 M0 E0 = false)  :
    Calls Tryd.prog 4 #[.agg #[.int .i64 D0, .bool s0, .int .u64 M0, .int .i64 E0]] w (PB w true) := by
  obtain ⟨N1, hN1⟩ : ∃ N, (exq D0 s0 M0 E0).1 = N := ⟨_, rfl⟩
  obtain ⟨F1, hF1⟩ : ∃ N, (exq D0 s0 M0 E0).2 = N := ⟨_, rfl⟩
  have HA := Lib.hid ha
  have HN1 := Lib.hid hN1
  have HF1 := Lib.hid hF1
  clear ha hN1 hF1
  go_enter Tryd.func4, Tryd.ntmps4
  go_upto_region 1 with (fail)
  have X0 := (Bo.newAt w (g := w.heap.size) (by simp) #[.int .i64 D0, .bool s0, .int .u64 M0, .int .i64 E0] 24)
  have HB := Lib.hid (bel1 w (.cells #[.int .i64 D0, .bool s0, .int .u64 M0, .int .i64 E0] 24))
  replace hT := hT.below HB.out
  generalize hW1 : (w.alloc (.cells #[.int .i64 D0, .bool s0, .int .u64 M0, .int .i64 E0] 24)) = w1 at *
  clear hW1
  go_wp2_with fail
  refine (awake7 hT).mono ?_
  rintro ee w2 ⟨rfl, B⟩
  replace X0 := X0.below B
  replace hT := hT.below B
  replace HB := Lib.hid (bt HB.out B)
  clear B
  have xX00 := X0.at (i := 0) (v := .int .i64 D0) rfl
  have xX01 := X0.at (i := 1) (v := .bool s0) rfl
  have xX02 := X0.at (i := 2) (v := .int .u64 M0) rfl
  have xX03 := X0.at (i := 3) (v := .int .i64 E0) rfl
  go_wp2_with fail
  refine (nExact (t := false) hT v0 u0 HA.out HN1.out HF1.out).mono ?_
  rintro ee w3 ⟨sa, Aa, na, ca, rfl, pa, ka, B⟩
  clear xX00 xX01 xX02 xX03
  replace X0 := X0.below B
  replace hT := hT.below B
  replace HB := Lib.hid (bt HB.out B)
  clear B
  go_upto_region 3 with (fail)
  have lX4 := Nat.le_refl (World.heap w3).size
  have nX4X0 := X0.lt
  replace X0 := X0.below (bel1 _ (.cells #[.bool sa, .slice Aa na ca, .int .i64 F1] 30))
  replace hT := hT.below (bel1 _ (.cells #[.bool sa, .slice Aa na ca, .int .i64 F1] 30))
  replace pa := pa.below (bel1 _ (.cells #[.bool sa, .slice Aa na ca, .int .i64 F1] 30))
  replace HB := Lib.hid (bt HB.out (bel1 _ (.cells #[.bool sa, .slice Aa na ca, .int .i64 F1] 30)))
  have X4 := Bo.new w3 #[.bool sa, .slice Aa na ca, .int .i64 F1] 30
  generalize hWn : World.alloc w3 (.cells #[.bool sa, .slice Aa na ca, .int .i64 F1] 30) = w4 at *
  clear hWn
  clear lX4
  have xX00 := X0.at (i := 0) (v := .int .i64 D0) rfl
  have xX01 := X0.at (i := 1) (v := .bool s0) rfl
  have xX02 := X0.at (i := 2) (v := .int .u64 M0) rfl
  have xX03 := X0.at (i := 3) (v := .int .i64 E0) rfl
  go_wp2
  go_ret
  exact ⟨rfl, HB.out⟩
set_option maxHeartbeats 8000000 in
theorem quotSquares_far1 (D0 : Int) (s0 : Bool) (M0 E0 : Int) (w : World) (hT : Tab w) (v0 : 0 ≤ M0) (u0 : M0 < 18446744073709551616) (ha : exb D0 s0 M0 E0 = true) (gf : 1500 < E0) :
    Calls Tryd.prog 4 #[.agg #[.int .i64 D0, .bool s0, .int .u64 M0, .int .i64 E0]] w (PB w true) := by
  obtain ⟨N1, hN1⟩ : ∃ N, (exq D0 s0 M0 E0).1 = N := ⟨_, rfl⟩
  obtain ⟨F1, hF1⟩ : ∃ N, (exq D0 s0 M0 E0).2 = N := ⟨_, rfl⟩
  have HA := Lib.hid ha
  have HN1 := Lib.hid hN1
  have HF1 := Lib.hid hF1
  clear ha hN1 hF1
  go_enter Tryd.func4, Tryd.ntmps4
  go_upto_region 1 with (fail)
  have X0 := (Bo.newAt w (g := w.heap.size) (by simp) #[.int .i64 D0, .bool s0, .int .u64 M0, .int .i64 E0] 24)
  have HB := Lib.hid (bel1 w (.cells #[.int .i64 D0, .bool s0, .int .u64 M0, .int .i64 E0] 24))
  replace hT := hT.below HB.out
  generalize hW1 : (w.alloc (.cells #[.int .i64 D0, .bool s0, .int .u64 M0, .int .i64 E0] 24)) = w1 at *
  clear hW1
  go_wp2_with fail
  refine (awake7 hT).mono ?_
  rintro ee w2 ⟨rfl, B⟩
  replace X0 := X0.below B
  replace hT := hT.below B
  replace HB := Lib.hid (bt HB.out B)
  clear B
  have xX00 := X0.at (i := 0) (v := .int .i64 D0) rfl
  have xX01 := X0.at (i := 1) (v := .bool s0) rfl
  have xX02 := X0.at (i := 2) (v := .int .u64 M0) rfl
  have xX03 := X0.at (i := 3) (v := .int .i64 E0) rfl
  go_wp2_with fail
  refine (nExact (t := true) hT v0 u0 HA.out HN1.out HF1.out).mono ?_
  rintro ee w3 ⟨sa, Aa, na, ca, rfl, pa, ka, B⟩
  clear xX00 xX01 xX02 xX03
  replace X0 := X0.below B
  replace hT := hT.below B
  replace HB := Lib.hid (bt HB.out B)
  clear B
  go_upto_region 3 with (fail)
  have lX4 := Nat.le_refl (World.heap w3).size
  have nX4X0 := X0.lt
  replace X0 := X0.below (bel1 _ (.cells #[.bool sa, .slice Aa na ca, .int .i64 F1] 30))
  replace hT := hT.below (bel1 _ (.cells #[.bool sa, .slice Aa na ca, .int .i64 F1] 30))
  replace pa := pa.below (bel1 _ (.cells #[.bool sa, .slice Aa na ca, .int .i64 F1] 30))
  replace HB := Lib.hid (bt HB.out (bel1 _ (.cells #[.bool sa, .slice Aa na ca, .int .i64 F1] 30)))
  have X4 := Bo.new w3 #[.bool sa, .slice Aa na ca, .int .i64 F1] 30
  generalize hWn : World.alloc w3 (.cells #[.bool sa, .slice Aa na ca, .int .i64 F1] 30) = w4 at *
  clear hWn
  clear lX4
  have xX00 := X0.at (i := 0) (v := .int .i64 D0) rfl
  have xX01 := X0.at (i := 1) (v := .bool s0) rfl
  have xX02 := X0.at (i := 2) (v := .int .u64 M0) rfl
  have xX03 := X0.at (i := 3) (v := .int .i64 E0) rfl
  go_wp2
  go_ret
  exact ⟨rfl, HB.out⟩
set_option maxHeartbeats 8000000 in
theorem quotSquares_far2 (D0 : Int) (s0 : Bool) (M0 E0 : Int) (w : World) (hT : Tab w) (v0 : 0 ≤ M0) (u0 : M0 < 18446744073709551616) (ha : exb D0 s0 M0 E0 = true) (g0 : ¬ 1500 < E0) (gf : E0 < -1500) :
    Calls Tryd.prog 4 #[.agg #[.int .i64 D0, .bool s0, .int .u64 M0, .int .i64 E0]] w (PB w true) := by
  obtain ⟨N1, hN1⟩ : ∃ N, (exq D0 s0 M0 E0).1 = N := ⟨_, rfl⟩
  obtain ⟨F1, hF1⟩ : ∃ N, (exq D0 s0 M0 E0).2 = N := ⟨_, rfl⟩
  have HA := Lib.hid ha
  have HN1 := Lib.hid hN1
  have HF1 := Lib.hid hF1
  clear ha hN1 hF1
  go_enter Tryd.func4, Tryd.ntmps4
  go_upto_region 1 with (fail)
  have X0 := (Bo.newAt w (g := w.heap.size) (by simp) #[.int .i64 D0, .bool s0, .int .u64 M0, .int .i64 E0] 24)
  have HB := Lib.hid (bel1 w (.cells #[.int .i64 D0, .bool s0, .int .u64 M0, .int .i64 E0] 24))
  replace hT := hT.below HB.out
  generalize hW1 : (w.alloc (.cells #[.int .i64 D0, .bool s0, .int .u64 M0, .int .i64 E0] 24)) = w1 at *
  clear hW1
  go_wp2_with fail
  refine (awake7 hT).mono ?_
  rintro ee w2 ⟨rfl, B⟩
  replace X0 := X0.below B
  replace hT := hT.below B
  replace HB := Lib.hid (bt HB.out B)
  clear B
  have xX00 := X0.at (i := 0) (v := .int .i64 D0) rfl
  have xX01 := X0.at (i := 1) (v := .bool s0) rfl
  have xX02 := X0.at (i := 2) (v := .int .u64 M0) rfl
  have xX03 := X0.at (i := 3) (v := .int .i64 E0) rfl
  go_wp2_with fail
  refine (nExact (t := true) hT v0 u0 HA.out HN1.out HF1.out).mono ?_
  rintro ee w3 ⟨sa, Aa, na, ca, rfl, pa, ka, B⟩
  clear xX00 xX01 xX02 xX03
  replace X0 := X0.below B
  replace hT := hT.below B
  replace HB := Lib.hid (bt HB.out B)
  clear B
  go_upto_region 3 with (fail)
  have lX4 := Nat.le_refl (World.heap w3).size
  have nX4X0 := X0.lt
  replace X0 := X0.below (bel1 _ (.cells #[.bool sa, .slice Aa na ca, .int .i64 F1] 30))
  replace hT := hT.below (bel1 _ (.cells #[.bool sa, .slice Aa na ca, .int .i64 F1] 30))
  replace pa := pa.below (bel1 _ (.cells #[.bool sa, .slice Aa na ca, .int .i64 F1] 30))
  replace HB := Lib.hid (bt HB.out (bel1 _ (.cells #[.bool sa, .slice Aa na ca, .int .i64 F1] 30)))
  have X4 := Bo.new w3 #[.bool sa, .slice Aa na ca, .int .i64 F1] 30
  generalize hWn : World.alloc w3 (.cells #[.bool sa, .slice Aa na ca, .int .i64 F1] 30) = w4 at *
  clear hWn
  clear lX4
  have xX00 := X0.at (i := 0) (v := .int .i64 D0) rfl
  have xX01 := X0.at (i := 1) (v := .bool s0) rfl
  have xX02 := X0.at (i := 2) (v := .int .u64 M0) rfl
  have xX03 := X0.at (i := 3) (v := .int .i64 E0) rfl
  go_wp2
  go_ret
  exact ⟨rfl, HB.out⟩
set_option maxHeartbeats 8000000 in
theorem quotSquares_neg (D0 : Int) (s0 : Bool) (M0 E0 : Int) (w : World) (x σ : Int) (hT : Tab w) (v0 : 0 ≤ M0) (u0 : M0 < 18446744073709551616) (ha : exb D0 s0 M0 E0 = true) (g0 : ¬ 1500 < E0) (g1 : ¬ E0 < -1500) (hx : rk D0 s0 M0 E0 = x) (hσ : cmpI x 0 = σ) (g2 : σ < 0) :
    Calls Tryd.prog 4 #[.agg #[.int .i64 D0, .bool s0, .int .u64 M0, .int .i64 E0]] w (PB w true) := by
  have x0 : x < 0 := neg_of_sign hσ g2
  have HL : Hid (Ro false x 0 false) := Lib.hid ((ro_neg x0).2 ⟨rfl, rfl⟩)
  have HH : Hid (Ro true x 0 false) := Lib.hid ((ro_neg x0).2 ⟨rfl, rfl⟩)
  have HS0 : Hid (cmpI (rk D0 s0 M0 E0) 0 = σ) := Lib.hid (by rw [hx, hσ])
  have HX := Lib.hid hx
  clear hx hσ x0
  obtain ⟨N1, hN1⟩ : ∃ N, (exq D0 s0 M0 E0).1 = N := ⟨_, rfl⟩
  obtain ⟨F1, hF1⟩ : ∃ N, (exq D0 s0 M0 E0).2 = N := ⟨_, rfl⟩
  have HA := Lib.hid ha
  have HN1 := Lib.hid hN1
  have HF1 := Lib.hid hF1
  clear ha hN1 hF1
  go_enter Tryd.func4, Tryd.ntmps4
  go_upto_region 1 with (fail)
  have X0 := (Bo.newAt w (g := w.heap.size) (by simp) #[.int .i64 D0, .bool s0, .int .u64 M0, .int .i64 E0] 24)
  have HB := Lib.hid (bel1 w (.cells #[.int .i64 D0, .bool s0, .int .u64 M0, .int .i64 E0] 24))
  replace hT := hT.below HB.out
  generalize hW1 : (w.alloc (.cells #[.int .i64 D0, .bool s0, .int .u64 M0, .int .i64 E0] 24)) = w1 at *
  clear hW1
  go_wp2_with fail
  refine (awake7 hT).mono ?_
  rintro ee w2 ⟨rfl, B⟩
  replace X0 := X0.below B
  replace hT := hT.below B
  replace HB := Lib.hid (bt HB.out B)
  clear B
  have xX00 := X0.at (i := 0) (v := .int .i64 D0) rfl
  have xX01 := X0.at (i := 1) (v := .bool s0) rfl
  have xX02 := X0.at (i := 2) (v := .int .u64 M0) rfl
  have xX03 := X0.at (i := 3) (v := .int .i64 E0) rfl
  go_wp2_with fail
  refine (nExact (t := true) hT v0 u0 HA.out HN1.out HF1.out).mono ?_
  rintro ee w3 ⟨sa, Aa, na, ca, rfl, pa, ka, B⟩
  clear xX00 xX01 xX02 xX03
  replace X0 := X0.below B
  replace hT := hT.below B
  replace HB := Lib.hid (bt HB.out B)
  clear B
  go_upto_region 3 with (fail)
  have lX4 := Nat.le_refl (World.heap w3).size
  have nX4X0 := X0.lt
  replace X0 := X0.below (bel1 _ (.cells #[.bool sa, .slice Aa na ca, .int .i64 F1] 30))
  replace hT := hT.below (bel1 _ (.cells #[.bool sa, .slice Aa na ca, .int .i64 F1] 30))
  replace pa := pa.below (bel1 _ (.cells #[.bool sa, .slice Aa na ca, .int .i64 F1] 30))
  replace HB := Lib.hid (bt HB.out (bel1 _ (.cells #[.bool sa, .slice Aa na ca, .int .i64 F1] 30)))
  have X4 := Bo.new w3 #[.bool sa, .slice Aa na ca, .int .i64 F1] 30
  generalize hWn : World.alloc w3 (.cells #[.bool sa, .slice Aa na ca, .int .i64 F1] 30) = w4 at *
  clear hWn
  clear lX4
  have xX00 := X0.at (i := 0) (v := .int .i64 D0) rfl
  have xX01 := X0.at (i := 1) (v := .bool s0) rfl
  have xX02 := X0.at (i := 2) (v := .int .u64 M0) rfl
  have xX03 := X0.at (i := 3) (v := .int .i64 E0) rfl
  go_upto_region 5 with (fail)
  clear g0 g1
  clear xX00 xX01 xX02 xX03
  have xX00 := X0.at (i := 0) (v := .int .i64 D0) rfl
  have xX01 := X0.at (i := 1) (v := .bool s0) rfl
  have xX02 := X0.at (i := 2) (v := .int .u64 M0) rfl
  have xX03 := X0.at (i := 3) (v := .int .i64 E0) rfl
  go_wp2_with fail
  refine (kRoot (up := false) hT u0 HX.out HL.out).mono ?_
  rintro ee w5 ⟨K3, s3, M3, E3, rfl, q3, B⟩
  clear xX00 xX01 xX02 xX03
  replace X0 := X0.below B
  replace X4 := X4.below B
  replace hT := hT.below B
  replace pa := pa.below B
  replace HB := Lib.hid (bt HB.out B)
  clear B
  go_upto_region 6 with (fail)
  have lX6 := Nat.le_refl (World.heap w5).size
  have nX6X0 := X0.lt
  have nX6X4 := X4.lt
  replace X0 := X0.below (bel1 _ (.cells #[.int .i64 K3, .bool s3, .int .u64 M3, .int .i64 E3] 24))
  replace X4 := X4.below (bel1 _ (.cells #[.int .i64 K3, .bool s3, .int .u64 M3, .int .i64 E3] 24))
  replace hT := hT.below (bel1 _ (.cells #[.int .i64 K3, .bool s3, .int .u64 M3, .int .i64 E3] 24))
  replace pa := pa.below (bel1 _ (.cells #[.int .i64 K3, .bool s3, .int .u64 M3, .int .i64 E3] 24))
  replace HB := Lib.hid (bt HB.out (bel1 _ (.cells #[.int .i64 K3, .bool s3, .int .u64 M3, .int .i64 E3] 24)))
  have X6 := Bo.new w5 #[.int .i64 K3, .bool s3, .int .u64 M3, .int .i64 E3] 24
  generalize hWn : World.alloc w5 (.cells #[.int .i64 K3, .bool s3, .int .u64 M3, .int .i64 E3] 24) = w6 at *
  clear hWn
  clear lX6
  have xX00 := X0.at (i := 0) (v := .int .i64 D0) rfl
  have xX01 := X0.at (i := 1) (v := .bool s0) rfl
  have xX02 := X0.at (i := 2) (v := .int .u64 M0) rfl
  have xX03 := X0.at (i := 3) (v := .int .i64 E0) rfl
  go_wp2_with fail
  refine (kRoot (up := true) hT u0 HX.out HH.out).mono ?_
  rintro ee w7 ⟨K4, s4, M4, E4, rfl, q4, B⟩
  clear xX00 xX01 xX02 xX03
  replace X0 := X0.below B
  replace X4 := X4.below B
  replace X6 := X6.below B
  replace hT := hT.below B
  replace pa := pa.below B
  replace HB := Lib.hid (bt HB.out B)
  clear B
  go_upto_region 7 with (fail)
  have lX8 := Nat.le_refl (World.heap w7).size
  have nX8X0 := X0.lt
  have nX8X4 := X4.lt
  have nX8X6 := X6.lt
  replace X0 := X0.below (bel1 _ (.cells #[.int .i64 K4, .bool s4, .int .u64 M4, .int .i64 E4] 24))
  replace X4 := X4.below (bel1 _ (.cells #[.int .i64 K4, .bool s4, .int .u64 M4, .int .i64 E4] 24))
  replace X6 := X6.below (bel1 _ (.cells #[.int .i64 K4, .bool s4, .int .u64 M4, .int .i64 E4] 24))
  replace hT := hT.below (bel1 _ (.cells #[.int .i64 K4, .bool s4, .int .u64 M4, .int .i64 E4] 24))
  replace pa := pa.below (bel1 _ (.cells #[.int .i64 K4, .bool s4, .int .u64 M4, .int .i64 E4] 24))
  replace HB := Lib.hid (bt HB.out (bel1 _ (.cells #[.int .i64 K4, .bool s4, .int .u64 M4, .int .i64 E4] 24)))
  have X8 := Bo.new w7 #[.int .i64 K4, .bool s4, .int .u64 M4, .int .i64 E4] 24
  generalize hWn : World.alloc w7 (.cells #[.int .i64 K4, .bool s4, .int .u64 M4, .int .i64 E4] 24) = w8 at *
  clear hWn
  clear lX8
  have xX00 := X0.at (i := 0) (v := .int .i64 D0) rfl
  have xX01 := X0.at (i := 1) (v := .bool s0) rfl
  have xX02 := X0.at (i := 2) (v := .int .u64 M0) rfl
  have xX03 := X0.at (i := 3) (v := .int .i64 E0) rfl
  go_wp2_with fail
  refine (nSign (σ := σ) u0 HS0.out).mono ?_
  rintro ee w9 ⟨rfl, B⟩
  clear xX00 xX01 xX02 xX03
  replace X0 := X0.below B
  replace X4 := X4.below B
  replace X6 := X6.below B
  replace X8 := X8.below B
  replace hT := hT.below B
  replace pa := pa.below B
  replace HB := Lib.hid (bt HB.out B)
  clear B
  go_wp2
  go_ret
  exact ⟨rfl, HB.out⟩
set_option maxHeartbeats 8000000 in
theorem quotSquares_same (D0 : Int) (s0 : Bool) (M0 E0 : Int) (w : World) (x l h σ : Int) (hT : Tab w) (v0 : 0 ≤ M0) (u0 : M0 < 18446744073709551616) (ha : exb D0 s0 M0 E0 = true) (g0 : ¬ 1500 < E0) (g1 : ¬ E0 < -1500)
    (hx : rk D0 s0 M0 E0 = x) (hσ : cmpI x 0 = σ) (g2 : ¬ σ < 0) (hl : Ro false x l true) (hh : Ro true x h true) (ht : h = l) :
    Calls Tryd.prog 4 #[.agg #[.int .i64 D0, .bool s0, .int .u64 M0, .int .i64 E0]] w (PB w true) := by
  obtain ⟨x1, x2, fx, ex⟩ := few_exact u0 hx ha g0 g1
  obtain ⟨l1, l2, h1, h2, el, eh, _⟩ := ro_holds (nn_of_sign hσ g2) x2 fx hl hh
  have l1' : -19342822337206103650074625 < l := by omega
  have h1' : -19342822337206103650074625 < h := by omega
  obtain ⟨Nx, hNx⟩ : ∃ N, (ep x).1 = N := ⟨_, rfl⟩
  obtain ⟨Fx, hFx⟩ : ∃ N, (ep x).2 = N := ⟨_, rfl⟩
  have kx : mk Nx Fx = ep x := by rw [← hNx, ← hFx]; exact ep_nf x
  obtain ⟨Nl, hNl⟩ : ∃ N, (ep l).1 = N := ⟨_, rfl⟩
  obtain ⟨Fl, hFl⟩ : ∃ N, (ep l).2 = N := ⟨_, rfl⟩
  have kl : mk Nl Fl = ep l := by rw [← hNl, ← hFl]; exact ep_nf l
  obtain ⟨Nh, hNh⟩ : ∃ N, (ep h).1 = N := ⟨_, rfl⟩
  obtain ⟨Fh, hFh⟩ : ∃ N, (ep h).2 = N := ⟨_, rfl⟩
  have kh : mk Nh Fh = ep h := by rw [← hNh, ← hFh]; exact ep_nf h
  obtain ⟨U5, hA5⟩ : ∃ N, (ml (ep l) (ep l)).1 = N := ⟨_, rfl⟩
  obtain ⟨V5, hB5⟩ : ∃ N, (ml (ep l) (ep l)).2 = N := ⟨_, rfl⟩
  obtain ⟨κ5, hc5⟩ : ∃ c, cmpI (vl (mk U5 V5)) (vl (mk Nx Fx)) = c := ⟨_, rfl⟩
  obtain ⟨U6, hA6⟩ : ∃ N, (ml (ep h) (ep h)).1 = N := ⟨_, rfl⟩
  obtain ⟨V6, hB6⟩ : ∃ N, (ml (ep h) (ep h)).2 = N := ⟨_, rfl⟩
  obtain ⟨κ6, hc6⟩ : ∃ c, cmpI (vl (mk U6 V6)) (vl (mk Nx Fx)) = c := ⟨_, rfl⟩
  have t5 := pair_le l1' l2 l1' l2 x1 x2 el hA5 hB5 kx
  have t6 := pair_ge h1' h2 h1' h2 x1 x2 eh hA6 hB6 kx
  rw [hc5] at t5
  rw [hc6] at t6
  have HLB := Lib.hid (show (-19342822337206103650074625 < l ∧ l < 19342822337206103650074625) ∧ -19342822337206103650074625 < h ∧ h < 19342822337206103650074625 from ⟨⟨l1', l2⟩, h1', h2⟩)
  have HN1 : Hid ((exq D0 s0 M0 E0).1 = Nx) := Lib.hid (by rw [ex, hNx])
  have HF1 : Hid ((exq D0 s0 M0 E0).2 = Fx) := Lib.hid (by rw [ex, hFx])
  have ht2 := ht.symm
  subst ht2
  have HPA : Hid ((ml (mk Nl Fl) (mk Nl Fl)).1 = U5) := Lib.hid (by rw [kl, hA5])
  have HPB : Hid ((ml (mk Nl Fl) (mk Nl Fl)).2 = V5) := Lib.hid (by rw [kl, hB5])
  have HQA : Hid ((ml (mk Nh Fh) (mk Nh Fh)).1 = U6) := Lib.hid (by rw [kh, hA6])
  have HQB : Hid ((ml (mk Nh Fh) (mk Nh Fh)).2 = V6) := Lib.hid (by rw [kh, hB6])
  have HS0 : Hid (cmpI (rk D0 s0 M0 E0) 0 = σ) := Lib.hid (by rw [hx, hσ])
  have HA := Lib.hid ha
  have HX := Lib.hid hx
  have HL := Lib.hid hl
  have HH := Lib.hid hh
  have HC5 := Lib.hid hc5
  have HC6 := Lib.hid hc6
  have HT5 := Lib.hid t5
  have HT6 := Lib.hid t6
  have HNL := Lib.hid hNl
  have HFL := Lib.hid hFl
  have HNH := Lib.hid hNh
  have HFH := Lib.hid hFh
  clear ha hx hl hh hc5 hc6 t5 t6 hσ x1 x2 fx ex l1 l2 h1 h2 el eh l1' h1' hNx hFx kx hNl hFl kl hNh hFh kh hA5 hB5 hA6 hB6
  go_enter Tryd.func4, Tryd.ntmps4
  go_upto_region 1 with (fail)
  have X0 := (Bo.newAt w (g := w.heap.size) (by simp) #[.int .i64 D0, .bool s0, .int .u64 M0, .int .i64 E0] 24)
  have HB := Lib.hid (bel1 w (.cells #[.int .i64 D0, .bool s0, .int .u64 M0, .int .i64 E0] 24))
  replace hT := hT.below HB.out
  generalize hW1 : (w.alloc (.cells #[.int .i64 D0, .bool s0, .int .u64 M0, .int .i64 E0] 24)) = w1 at *
  clear hW1
  go_wp2_with fail
  refine (awake7 hT).mono ?_
  rintro ee w2 ⟨rfl, B⟩
  replace X0 := X0.below B
  replace hT := hT.below B
  replace HB := Lib.hid (bt HB.out B)
  clear B
  have xX00 := X0.at (i := 0) (v := .int .i64 D0) rfl
  have xX01 := X0.at (i := 1) (v := .bool s0) rfl
  have xX02 := X0.at (i := 2) (v := .int .u64 M0) rfl
  have xX03 := X0.at (i := 3) (v := .int .i64 E0) rfl
  go_wp2_with fail
  refine (nExact (t := true) hT v0 u0 HA.out HN1.out HF1.out).mono ?_
  rintro ee w3 ⟨sa, Aa, na, ca, rfl, pa, ka, B⟩
  clear xX00 xX01 xX02 xX03
  replace X0 := X0.below B
  replace hT := hT.below B
  replace HB := Lib.hid (bt HB.out B)
  clear B
  go_upto_region 3 with (fail)
  have lX4 := Nat.le_refl (World.heap w3).size
  have nX4X0 := X0.lt
  replace X0 := X0.below (bel1 _ (.cells #[.bool sa, .slice Aa na ca, .int .i64 Fx] 30))
  replace hT := hT.below (bel1 _ (.cells #[.bool sa, .slice Aa na ca, .int .i64 Fx] 30))
  replace pa := pa.below (bel1 _ (.cells #[.bool sa, .slice Aa na ca, .int .i64 Fx] 30))
  replace HB := Lib.hid (bt HB.out (bel1 _ (.cells #[.bool sa, .slice Aa na ca, .int .i64 Fx] 30)))
  have X4 := Bo.new w3 #[.bool sa, .slice Aa na ca, .int .i64 Fx] 30
  generalize hWn : World.alloc w3 (.cells #[.bool sa, .slice Aa na ca, .int .i64 Fx] 30) = w4 at *
  clear hWn
  clear lX4
  have xX00 := X0.at (i := 0) (v := .int .i64 D0) rfl
  have xX01 := X0.at (i := 1) (v := .bool s0) rfl
  have xX02 := X0.at (i := 2) (v := .int .u64 M0) rfl
  have xX03 := X0.at (i := 3) (v := .int .i64 E0) rfl
  go_upto_region 5 with (fail)
  clear g0 g1
  clear xX00 xX01 xX02 xX03
  have xX00 := X0.at (i := 0) (v := .int .i64 D0) rfl
  have xX01 := X0.at (i := 1) (v := .bool s0) rfl
  have xX02 := X0.at (i := 2) (v := .int .u64 M0) rfl
  have xX03 := X0.at (i := 3) (v := .int .i64 E0) rfl
  go_wp2_with fail
  refine (kRoot (up := false) hT u0 HX.out HL.out).mono ?_
  rintro ee w5 ⟨K3, s3, M3, E3, rfl, q3, B⟩
  clear xX00 xX01 xX02 xX03
  replace X0 := X0.below B
  replace X4 := X4.below B
  replace hT := hT.below B
  replace pa := pa.below B
  replace HB := Lib.hid (bt HB.out B)
  clear B
  go_upto_region 6 with (fail)
  have lX6 := Nat.le_refl (World.heap w5).size
  have nX6X0 := X0.lt
  have nX6X4 := X4.lt
  replace X0 := X0.below (bel1 _ (.cells #[.int .i64 K3, .bool s3, .int .u64 M3, .int .i64 E3] 24))
  replace X4 := X4.below (bel1 _ (.cells #[.int .i64 K3, .bool s3, .int .u64 M3, .int .i64 E3] 24))
  replace hT := hT.below (bel1 _ (.cells #[.int .i64 K3, .bool s3, .int .u64 M3, .int .i64 E3] 24))
  replace pa := pa.below (bel1 _ (.cells #[.int .i64 K3, .bool s3, .int .u64 M3, .int .i64 E3] 24))
  replace HB := Lib.hid (bt HB.out (bel1 _ (.cells #[.int .i64 K3, .bool s3, .int .u64 M3, .int .i64 E3] 24)))
  have X6 := Bo.new w5 #[.int .i64 K3, .bool s3, .int .u64 M3, .int .i64 E3] 24
  generalize hWn : World.alloc w5 (.cells #[.int .i64 K3, .bool s3, .int .u64 M3, .int .i64 E3] 24) = w6 at *
  clear hWn
  clear lX6
  have xX00 := X0.at (i := 0) (v := .int .i64 D0) rfl
  have xX01 := X0.at (i := 1) (v := .bool s0) rfl
  have xX02 := X0.at (i := 2) (v := .int .u64 M0) rfl
  have xX03 := X0.at (i := 3) (v := .int .i64 E0) rfl
  go_wp2_with fail
  refine (kRoot (up := true) hT u0 HX.out HH.out).mono ?_
  rintro ee w7 ⟨K4, s4, M4, E4, rfl, q4, B⟩
  clear xX00 xX01 xX02 xX03
  replace X0 := X0.below B
  replace X4 := X4.below B
  replace X6 := X6.below B
  replace hT := hT.below B
  replace pa := pa.below B
  replace HB := Lib.hid (bt HB.out B)
  clear B
  obtain ⟨rfl, rfl, rfl, rfl⟩ := q3.uniq q4
  clear q4
  go_upto_region 7 with (fail)
  have lX8 := Nat.le_refl (World.heap w7).size
  have nX8X0 := X0.lt
  have nX8X4 := X4.lt
  have nX8X6 := X6.lt
  replace X0 := X0.below (bel1 _ (.cells #[.int .i64 K3, .bool s3, .int .u64 M3, .int .i64 E3] 24))
  replace X4 := X4.below (bel1 _ (.cells #[.int .i64 K3, .bool s3, .int .u64 M3, .int .i64 E3] 24))
  replace X6 := X6.below (bel1 _ (.cells #[.int .i64 K3, .bool s3, .int .u64 M3, .int .i64 E3] 24))
  replace hT := hT.below (bel1 _ (.cells #[.int .i64 K3, .bool s3, .int .u64 M3, .int .i64 E3] 24))
  replace pa := pa.below (bel1 _ (.cells #[.int .i64 K3, .bool s3, .int .u64 M3, .int .i64 E3] 24))
  replace HB := Lib.hid (bt HB.out (bel1 _ (.cells #[.int .i64 K3, .bool s3, .int .u64 M3, .int .i64 E3] 24)))
  have X8 := Bo.new w7 #[.int .i64 K3, .bool s3, .int .u64 M3, .int .i64 E3] 24
  generalize hWn : World.alloc w7 (.cells #[.int .i64 K3, .bool s3, .int .u64 M3, .int .i64 E3] 24) = w8 at *
  clear hWn
  clear lX8
  have xX00 := X0.at (i := 0) (v := .int .i64 D0) rfl
  have xX01 := X0.at (i := 1) (v := .bool s0) rfl
  have xX02 := X0.at (i := 2) (v := .int .u64 M0) rfl
  have xX03 := X0.at (i := 3) (v := .int .i64 E0) rfl
  go_wp2_with fail
  refine (nSign (σ := σ) u0 HS0.out).mono ?_
  rintro ee w9 ⟨rfl, B⟩
  clear xX00 xX01 xX02 xX03
  replace X0 := X0.below B
  replace X4 := X4.below B
  replace X6 := X6.below B
  replace X8 := X8.below B
  replace hT := hT.below B
  replace pa := pa.below B
  replace HB := Lib.hid (bt HB.out B)
  clear B
  obtain ⟨b3, m3, e3, v3⟩ := exq_two q3 HLB.out.1.1 HLB.out.1.2 HNL.out HFL.out
  have HB3 := Lib.hid b3
  have HM3 := Lib.hid m3
  have HE3 := Lib.hid e3
  clear b3 m3 e3
  obtain ⟨b4, m4, e4, v4⟩ := exq_two q3 HLB.out.2.1 HLB.out.2.2 HNH.out HFH.out
  have HB4 := Lib.hid b4
  have HM4 := Lib.hid m4
  have HE4 := Lib.hid e4
  clear b4 m4 e4
  have xX60 := X6.at (i := 0) (v := .int .i64 K3) rfl
  have xX61 := X6.at (i := 1) (v := .bool s3) rfl
  have xX62 := X6.at (i := 2) (v := .int .u64 M3) rfl
  have xX63 := X6.at (i := 3) (v := .int .i64 E3) rfl
  go_wp2_with fail
  refine (nExact hT v3 q3.top HB3.out HM3.out HE3.out).mono ?_
  rintro ee w13 ⟨sc, Ac, nc, cc, rfl, pc, kc, B⟩
  clear xX60 xX61 xX62 xX63
  replace X0 := X0.below B
  replace X4 := X4.below B
  replace X6 := X6.below B
  replace X8 := X8.below B
  replace hT := hT.below B
  replace pa := pa.below B
  replace HB := Lib.hid (bt HB.out B)
  clear B
  go_upto_region 10 with (fail)
  clear g2
  have lX10 := Nat.le_refl (World.heap w13).size
  have nX10X0 := X0.lt
  have nX10X4 := X4.lt
  have nX10X6 := X6.lt
  have nX10X8 := X8.lt
  replace X0 := X0.below (bel1 _ (.cells #[.bool sc, .slice Ac nc cc, .int .i64 Fl] 30))
  replace X4 := X4.below (bel1 _ (.cells #[.bool sc, .slice Ac nc cc, .int .i64 Fl] 30))
  replace X6 := X6.below (bel1 _ (.cells #[.bool sc, .slice Ac nc cc, .int .i64 Fl] 30))
  replace X8 := X8.below (bel1 _ (.cells #[.bool sc, .slice Ac nc cc, .int .i64 Fl] 30))
  replace hT := hT.below (bel1 _ (.cells #[.bool sc, .slice Ac nc cc, .int .i64 Fl] 30))
  replace pa := pa.below (bel1 _ (.cells #[.bool sc, .slice Ac nc cc, .int .i64 Fl] 30))
  replace pc := pc.below (bel1 _ (.cells #[.bool sc, .slice Ac nc cc, .int .i64 Fl] 30))
  replace HB := Lib.hid (bt HB.out (bel1 _ (.cells #[.bool sc, .slice Ac nc cc, .int .i64 Fl] 30)))
  have X10 := Bo.new w13 #[.bool sc, .slice Ac nc cc, .int .i64 Fl] 30
  generalize hWn : World.alloc w13 (.cells #[.bool sc, .slice Ac nc cc, .int .i64 Fl] 30) = w14 at *
  clear hWn
  clear lX10
  have xX80 := X8.at (i := 0) (v := .int .i64 K3) rfl
  have xX81 := X8.at (i := 1) (v := .bool s3) rfl
  have xX82 := X8.at (i := 2) (v := .int .u64 M3) rfl
  have xX83 := X8.at (i := 3) (v := .int .i64 E3) rfl
  go_wp2_with fail
  refine (nExact hT v4 q3.top HB4.out HM4.out HE4.out).mono ?_
  rintro ee w15 ⟨sd, Ad, nd, cd, rfl, pd, kd, B⟩
  clear xX80 xX81 xX82 xX83
  replace X0 := X0.below B
  replace X4 := X4.below B
  replace X6 := X6.below B
  replace X8 := X8.below B
  replace X10 := X10.below B
  replace hT := hT.below B
  replace pa := pa.below B
  replace pc := pc.below B
  replace HB := Lib.hid (bt HB.out B)
  clear B
  go_upto_region 11 with (fail)
  have lX12 := Nat.le_refl (World.heap w15).size
  have nX12X0 := X0.lt
  have nX12X4 := X4.lt
  have nX12X6 := X6.lt
  have nX12X8 := X8.lt
  have nX12X10 := X10.lt
  replace X0 := X0.below (bel1 _ (.cells #[.bool sd, .slice Ad nd cd, .int .i64 Fh] 30))
  replace X4 := X4.below (bel1 _ (.cells #[.bool sd, .slice Ad nd cd, .int .i64 Fh] 30))
  replace X6 := X6.below (bel1 _ (.cells #[.bool sd, .slice Ad nd cd, .int .i64 Fh] 30))
  replace X8 := X8.below (bel1 _ (.cells #[.bool sd, .slice Ad nd cd, .int .i64 Fh] 30))
  replace X10 := X10.below (bel1 _ (.cells #[.bool sd, .slice Ad nd cd, .int .i64 Fh] 30))
  replace hT := hT.below (bel1 _ (.cells #[.bool sd, .slice Ad nd cd, .int .i64 Fh] 30))
  replace pa := pa.below (bel1 _ (.cells #[.bool sd, .slice Ad nd cd, .int .i64 Fh] 30))
  replace pc := pc.below (bel1 _ (.cells #[.bool sd, .slice Ad nd cd, .int .i64 Fh] 30))
  replace pd := pd.below (bel1 _ (.cells #[.bool sd, .slice Ad nd cd, .int .i64 Fh] 30))
  replace HB := Lib.hid (bt HB.out (bel1 _ (.cells #[.bool sd, .slice Ad nd cd, .int .i64 Fh] 30)))
  have X12 := Bo.new w15 #[.bool sd, .slice Ad nd cd, .int .i64 Fh] 30
  generalize hWn : World.alloc w15 (.cells #[.bool sd, .slice Ad nd cd, .int .i64 Fh] 30) = w16 at *
  clear hWn
  clear lX12
  refine Jo.region_joint (T := [0, 1, 2, 3, 4, 5, 6, 7, 8, 9, 10, 11, 12, 13, 14, 15, 16, 17, 18, 19, 20, 21, 22, 23, 24, 25, 26, 27, 28, 29, 30, 31, 32, 33, 34, 35, 36, 37]) (ds := [some 66, some 67, some 68, some 69, some 70, some 71, some 72, some 73, some 74, some 75, some 76, some 77, some 78, some 79, some 80, some 81, some 82, some 83, some 84, some 85, some 86, some 87, some 88, some 89, some 90, some 91, some 92, some 93, some 94, some 95, some 96, some 97, some 98, some 99, some 100, some 101, some 102, some 2]) (ls := [[], [0], [1], [1, 2], [3], [4], [4, 5], [6], [7], [7, 8], [9], [10], [10], [10, 11, 12], [10], [10, 13, 14], [10, 15], [10, 16], [17], [18], [18], [18, 19, 20], [18], [18, 21, 22], [18, 23], [18, 24], [25], [26], [26], [26, 27, 28], [26, 29], [30], [30, 31], [30], [30, 32, 33], [26, 30, 34], [26, 35], [36]]) (k := 38) (L := [(some 66, 0), (some 67, 1), (some 68, 2), (some 69, 3), (some 70, 4), (some 71, 5), (some 72, 6), (some 73, 7), (some 74, 8), (some 75, 9), (some 76, 10), (some 77, 11), (some 78, 12), (some 79, 13), (some 80, 14), (some 81, 15), (some 82, 16), (some 83, 17), (some 84, 18), (some 85, 19), (some 86, 20), (some 87, 21), (some 88, 22), (some 89, 23), (some 90, 24), (some 91, 25), (some 92, 26), (some 93, 27), (some 94, 28), (some 95, 29), (some 96, 30), (some 97, 31), (some 98, 32), (some 99, 33), (some 100, 34), (some 101, 35), (some 102, 36), (some 2, 37)]) (fuel := 0) (J := fun wj => Below (World.heap w16).size w16 wj)
    (F := [Jo.Fact.eq (.bool true), Jo.Fact.eq (.bool true), Jo.Fact.eq (.bool true), Jo.Fact.eq (.bool true), Jo.Fact.eq (.bool true), Jo.Fact.eq (.bool true), Jo.Fact.eq (.bool true), Jo.Fact.eq (.bool true), Jo.Fact.eq (.bool true), Jo.Fact.eq (.bool true), Jo.Fact.eq (.bool true), Jo.Fact.eq (.agg #[.bool sc, .slice Ac nc cc, .int .i64 Fl]), Jo.Fact.eq (.agg #[.bool sc, .slice Ac nc cc, .int .i64 Fl]), Jo.Fact.dy U5 V5 (1 + 2 * 20000), Jo.Fact.eq (.agg #[.bool sa, .slice Aa na ca, .int .i64 Fx]), Jo.Fact.eq (.int .i64 κ5), Jo.Fact.eq (.bool true), Jo.Fact.eq (.bool true), Jo.Fact.eq (.bool true), Jo.Fact.eq (.agg #[.bool sd, .slice Ad nd cd, .int .i64 Fh]), Jo.Fact.eq (.agg #[.bool sd, .slice Ad nd cd, .int .i64 Fh]), Jo.Fact.dy U6 V6 (1 + 2 * 20000), Jo.Fact.eq (.agg #[.bool sa, .slice Aa na ca, .int .i64 Fx]), Jo.Fact.eq (.int .i64 κ6), Jo.Fact.eq (.bool true), Jo.Fact.eq (.bool true), Jo.Fact.eq (.bool true), Jo.Fact.eq (.agg #[.int .i64 K3, .bool s3, .int .u64 M3, .int .i64 E3]), Jo.Fact.eq (.agg #[.int .i64 K3, .bool s3, .int .u64 M3, .int .i64 E3]), Jo.Fact.eq (.bool true), Jo.Fact.eq (.bool true), Jo.Fact.eq undef, Jo.Fact.eq undef, Jo.Fact.eq undef, Jo.Fact.eq undef, Jo.Fact.eq (.bool true), Jo.Fact.eq (.bool true), Jo.Fact.eq (.bool true)])
    (by kernel_rfl) (by kernel_rfl) (by decide) rfl rfl (fun _ _ h b => bt h b) ((Below.refl _ _).drew) ?_ (fun vs w17 hJ hd => ?_)
  · refine Jo.jcons (i := 0) (o := ⟨some 66, _, _, _, _, _⟩) (di := some 66) (L := []) (f := Jo.Fact.eq (.bool true)) rfl rfl rfl rfl (fun vs wj hJ hd K hK => ?_) ?_
    · clear hd
      simp only [Jo.putl, Jo.ze, Act.put, Jo.za, Jo.zb, Jo.zc] at hK ⊢
      go_simp
      exact hK.out _ _ rfl (Below.refl _ _)
    refine Jo.jcons (i := 1) (o := ⟨some 67, _, _, _, _, _⟩) (di := some 67) (L := [(some 66, 0)]) (f := Jo.Fact.eq (.bool true)) rfl rfl rfl rfl (fun vs wj hJ hd K hK => ?_) ?_
    · have d0 : (Jo.Fact.eq (.bool true)).P (vs 0) wj := hd 0 (by decide)
      clear hd
      simp only [Jo.putl, Jo.zd, Jo.ze, Act.put, Jo.za, Jo.zb, Jo.zc] at hK ⊢
      generalize vs 0 = u0 at hK d0 ⊢
      replace d0 : u0 = _ := d0
      subst d0
      go_simp
      exact hK.out _ _ rfl (Below.refl _ _)
    refine Jo.jcons (i := 2) (o := ⟨some 68, _, _, _, _, _⟩) (di := some 68) (L := [(some 67, 1)]) (f := Jo.Fact.eq (.bool true)) rfl rfl rfl rfl (fun vs wj hJ hd K hK => ?_) ?_
    · have d1 : (Jo.Fact.eq (.bool true)).P (vs 1) wj := hd 1 (by decide)
      clear hd
      simp only [Jo.putl, Jo.zd, Jo.ze, Act.put, Jo.za, Jo.zb, Jo.zc] at hK ⊢
      generalize vs 1 = u1 at hK d1 ⊢
      replace d1 : u1 = _ := d1
      subst d1
      go_simp
      exact hK.out _ _ rfl (Below.refl _ _)
    refine Jo.jcons (i := 3) (o := ⟨some 69, _, _, _, _, _⟩) (di := some 69) (L := [(some 67, 1), (some 68, 2)]) (f := Jo.Fact.eq (.bool true)) rfl rfl rfl rfl (fun vs wj hJ hd K hK => ?_) ?_
    · have d1 : (Jo.Fact.eq (.bool true)).P (vs 1) wj := hd 1 (by decide)
      have d2 : (Jo.Fact.eq (.bool true)).P (vs 2) wj := hd 2 (by decide)
      clear hd
      simp only [Jo.putl, Jo.zd, Jo.ze, Act.put, Jo.za, Jo.zb, Jo.zc] at hK ⊢
      generalize vs 1 = u1 at hK d1 ⊢
      generalize vs 2 = u2 at hK d2 ⊢
      replace d1 : u1 = _ := d1
      subst d1
      replace d2 : u2 = _ := d2
      subst d2
      go_simp
      exact hK.out _ _ rfl (Below.refl _ _)
    refine Jo.jcons (i := 4) (o := ⟨some 70, _, _, _, _, _⟩) (di := some 70) (L := [(some 69, 3)]) (f := Jo.Fact.eq (.bool true)) rfl rfl rfl rfl (fun vs wj hJ hd K hK => ?_) ?_
    · have d3 : (Jo.Fact.eq (.bool true)).P (vs 3) wj := hd 3 (by decide)
      clear hd
      simp only [Jo.putl, Jo.zd, Jo.ze, Act.put, Jo.za, Jo.zb, Jo.zc] at hK ⊢
      generalize vs 3 = u3 at hK d3 ⊢
      replace d3 : u3 = _ := d3
      subst d3
      go_simp
      exact hK.out _ _ rfl (Below.refl _ _)
    refine Jo.jcons (i := 5) (o := ⟨some 71, _, _, _, _, _⟩) (di := some 71) (L := [(some 70, 4)]) (f := Jo.Fact.eq (.bool true)) rfl rfl rfl rfl (fun vs wj hJ hd K hK => ?_) ?_
    · have d4 : (Jo.Fact.eq (.bool true)).P (vs 4) wj := hd 4 (by decide)
      clear hd
      simp only [Jo.putl, Jo.zd, Jo.ze, Act.put, Jo.za, Jo.zb, Jo.zc] at hK ⊢
      generalize vs 4 = u4 at hK d4 ⊢
      replace d4 : u4 = _ := d4
      subst d4
      go_simp
      exact hK.out _ _ rfl (Below.refl _ _)
    refine Jo.jcons (i := 6) (o := ⟨some 72, _, _, _, _, _⟩) (di := some 72) (L := [(some 70, 4), (some 71, 5)]) (f := Jo.Fact.eq (.bool true)) rfl rfl rfl rfl (fun vs wj hJ hd K hK => ?_) ?_
    · have d4 : (Jo.Fact.eq (.bool true)).P (vs 4) wj := hd 4 (by decide)
      have d5 : (Jo.Fact.eq (.bool true)).P (vs 5) wj := hd 5 (by decide)
      clear hd
      simp only [Jo.putl, Jo.zd, Jo.ze, Act.put, Jo.za, Jo.zb, Jo.zc] at hK ⊢
      generalize vs 4 = u4 at hK d4 ⊢
      generalize vs 5 = u5 at hK d5 ⊢
      replace d4 : u4 = _ := d4
      subst d4
      replace d5 : u5 = _ := d5
      subst d5
      go_simp
      exact hK.out _ _ rfl (Below.refl _ _)
    refine Jo.jcons (i := 7) (o := ⟨some 73, _, _, _, _, _⟩) (di := some 73) (L := [(some 72, 6)]) (f := Jo.Fact.eq (.bool true)) rfl rfl rfl rfl (fun vs wj hJ hd K hK => ?_) ?_
    · have d6 : (Jo.Fact.eq (.bool true)).P (vs 6) wj := hd 6 (by decide)
      clear hd
      simp only [Jo.putl, Jo.zd, Jo.ze, Act.put, Jo.za, Jo.zb, Jo.zc] at hK ⊢
      generalize vs 6 = u6 at hK d6 ⊢
      replace d6 : u6 = _ := d6
      subst d6
      go_simp
      exact hK.out _ _ rfl (Below.refl _ _)
    refine Jo.jcons (i := 8) (o := ⟨some 74, _, _, _, _, _⟩) (di := some 74) (L := [(some 73, 7)]) (f := Jo.Fact.eq (.bool true)) rfl rfl rfl rfl (fun vs wj hJ hd K hK => ?_) ?_
    · have d7 : (Jo.Fact.eq (.bool true)).P (vs 7) wj := hd 7 (by decide)
      clear hd
      simp only [Jo.putl, Jo.zd, Jo.ze, Act.put, Jo.za, Jo.zb, Jo.zc] at hK ⊢
      generalize vs 7 = u7 at hK d7 ⊢
      replace d7 : u7 = _ := d7
      subst d7
      go_simp
      exact hK.out _ _ rfl (Below.refl _ _)
    refine Jo.jcons (i := 9) (o := ⟨some 75, _, _, _, _, _⟩) (di := some 75) (L := [(some 73, 7), (some 74, 8)]) (f := Jo.Fact.eq (.bool true)) rfl rfl rfl rfl (fun vs wj hJ hd K hK => ?_) ?_
    · have d7 : (Jo.Fact.eq (.bool true)).P (vs 7) wj := hd 7 (by decide)
      have d8 : (Jo.Fact.eq (.bool true)).P (vs 8) wj := hd 8 (by decide)
      clear hd
      simp only [Jo.putl, Jo.zd, Jo.ze, Act.put, Jo.za, Jo.zb, Jo.zc] at hK ⊢
      generalize vs 7 = u7 at hK d7 ⊢
      generalize vs 8 = u8 at hK d8 ⊢
      replace d7 : u7 = _ := d7
      subst d7
      replace d8 : u8 = _ := d8
      subst d8
      go_simp
      exact hK.out _ _ rfl (Below.refl _ _)
    refine Jo.jcons (i := 10) (o := ⟨some 76, _, _, _, _, _⟩) (di := some 76) (L := [(some 75, 9)]) (f := Jo.Fact.eq (.bool true)) rfl rfl rfl rfl (fun vs wj hJ hd K hK => ?_) ?_
    · have d9 : (Jo.Fact.eq (.bool true)).P (vs 9) wj := hd 9 (by decide)
      clear hd
      simp only [Jo.putl, Jo.zd, Jo.ze, Act.put, Jo.za, Jo.zb, Jo.zc] at hK ⊢
      generalize vs 9 = u9 at hK d9 ⊢
      replace d9 : u9 = _ := d9
      subst d9
      go_simp
      exact hK.out _ _ rfl (Below.refl _ _)
    refine Jo.jcons (i := 11) (o := ⟨some 77, _, _, _, _, _⟩) (di := some 77) (L := [(some 76, 10)]) (f := Jo.Fact.eq (.agg #[.bool sc, .slice Ac nc cc, .int .i64 Fl])) rfl rfl rfl rfl (fun vs wj hJ hd K hK => ?_) ?_
    · have d10 : (Jo.Fact.eq (.bool true)).P (vs 10) wj := hd 10 (by decide)
      clear hd
      simp only [Jo.putl, Jo.zd, Jo.ze, Act.put, Jo.za, Jo.zb, Jo.zc] at hK ⊢
      generalize vs 10 = u10 at hK d10 ⊢
      replace d10 : u10 = _ := d10
      subst d10
      have xX100 : World.cell? wj ⟨w13.heap.size, 0, none⟩ = some (.bool sc) := (X10.below hJ).cell 0
      have xX101 : World.cell? wj ⟨w13.heap.size, 1, none⟩ = some (.slice Ac nc cc) := (X10.below hJ).cell 1
      have xX102 : World.cell? wj ⟨w13.heap.size, 2, none⟩ = some (.int .i64 Fl) := (X10.below hJ).cell 2
      go_simp
      exact hK.out _ _ rfl (Below.refl _ _)
    refine Jo.jcons (i := 12) (o := ⟨some 78, _, _, _, _, _⟩) (di := some 78) (L := [(some 76, 10)]) (f := Jo.Fact.eq (.agg #[.bool sc, .slice Ac nc cc, .int .i64 Fl])) rfl rfl rfl rfl (fun vs wj hJ hd K hK => ?_) ?_
    · have d10 : (Jo.Fact.eq (.bool true)).P (vs 10) wj := hd 10 (by decide)
      clear hd
      simp only [Jo.putl, Jo.zd, Jo.ze, Act.put, Jo.za, Jo.zb, Jo.zc] at hK ⊢
      generalize vs 10 = u10 at hK d10 ⊢
      replace d10 : u10 = _ := d10
      subst d10
      have xX100 : World.cell? wj ⟨w13.heap.size, 0, none⟩ = some (.bool sc) := (X10.below hJ).cell 0
      have xX101 : World.cell? wj ⟨w13.heap.size, 1, none⟩ = some (.slice Ac nc cc) := (X10.below hJ).cell 1
      have xX102 : World.cell? wj ⟨w13.heap.size, 2, none⟩ = some (.int .i64 Fl) := (X10.below hJ).cell 2
      go_simp
      exact hK.out _ _ rfl (Below.refl _ _)
    refine Jo.jcons (i := 13) (o := ⟨some 79, _, _, _, _, _⟩) (di := some 79) (L := [(some 76, 10), (some 77, 11), (some 78, 12)]) (f := Jo.Fact.dy U5 V5 (1 + 2 * 20000)) rfl rfl rfl rfl (fun vs wj hJ hd K hK => ?_) ?_
    · have d10 : (Jo.Fact.eq (.bool true)).P (vs 10) wj := hd 10 (by decide)
      have d11 : (Jo.Fact.eq (.agg #[.bool sc, .slice Ac nc cc, .int .i64 Fl])).P (vs 11) wj := hd 11 (by decide)
      have d12 : (Jo.Fact.eq (.agg #[.bool sc, .slice Ac nc cc, .int .i64 Fl])).P (vs 12) wj := hd 12 (by decide)
      clear hd
      simp only [Jo.putl, Jo.zd, Jo.ze, Act.put, Jo.za, Jo.zb, Jo.zc] at hK ⊢
      generalize vs 10 = u10 at hK d10 ⊢
      generalize vs 11 = u11 at hK d11 ⊢
      generalize vs 12 = u12 at hK d12 ⊢
      replace d10 : u10 = _ := d10
      subst d10
      replace d11 : u11 = _ := d11
      subst d11
      replace d12 : u12 = _ := d12
      subst d12
      go_simp
      refine (dMul (hT.below hJ) (pc.wr.below hJ) (pc.wr.below hJ) (by omega) (by omega) HPA.out HPB.out).mono ?_
      rintro ee wk ⟨s5, A5, n5, c5, rfl, p5, k5, B⟩
      exact hK.out _ _ ⟨s5, A5, n5, c5, rfl, p5, k5⟩ B
    refine Jo.jcons (i := 14) (o := ⟨some 80, _, _, _, _, _⟩) (di := some 80) (L := [(some 76, 10)]) (f := Jo.Fact.eq (.agg #[.bool sa, .slice Aa na ca, .int .i64 Fx])) rfl rfl rfl rfl (fun vs wj hJ hd K hK => ?_) ?_
    · have d10 : (Jo.Fact.eq (.bool true)).P (vs 10) wj := hd 10 (by decide)
      clear hd
      simp only [Jo.putl, Jo.zd, Jo.ze, Act.put, Jo.za, Jo.zb, Jo.zc] at hK ⊢
      generalize vs 10 = u10 at hK d10 ⊢
      replace d10 : u10 = _ := d10
      subst d10
      have xX40 : World.cell? wj ⟨w3.heap.size, 0, none⟩ = some (.bool sa) := (X4.below hJ).cell 0
      have xX41 : World.cell? wj ⟨w3.heap.size, 1, none⟩ = some (.slice Aa na ca) := (X4.below hJ).cell 1
      have xX42 : World.cell? wj ⟨w3.heap.size, 2, none⟩ = some (.int .i64 Fx) := (X4.below hJ).cell 2
      go_simp
      exact hK.out _ _ rfl (Below.refl _ _)
    refine Jo.jcons (i := 15) (o := ⟨some 81, _, _, _, _, _⟩) (di := some 81) (L := [(some 76, 10), (some 79, 13), (some 80, 14)]) (f := Jo.Fact.eq (.int .i64 κ5)) rfl rfl rfl rfl (fun vs wj hJ hd K hK => ?_) ?_
    · have d10 : (Jo.Fact.eq (.bool true)).P (vs 10) wj := hd 10 (by decide)
      have d13 : (Jo.Fact.dy U5 V5 (1 + 2 * 20000)).P (vs 13) wj := hd 13 (by decide)
      have d14 : (Jo.Fact.eq (.agg #[.bool sa, .slice Aa na ca, .int .i64 Fx])).P (vs 14) wj := hd 14 (by decide)
      clear hd
      simp only [Jo.putl, Jo.zd, Jo.ze, Act.put, Jo.za, Jo.zb, Jo.zc] at hK ⊢
      generalize vs 10 = u10 at hK d10 ⊢
      generalize vs 13 = u13 at hK d13 ⊢
      generalize vs 14 = u14 at hK d14 ⊢
      replace d10 : u10 = _ := d10
      subst d10
      obtain ⟨s5, A5, n5, c5, rfl, p5, k5⟩ := d13
      replace d14 : u14 = _ := d14
      subst d14
      go_simp
      refine (dCmp (r := κ5) (hT.below hJ) p5.wr (pa.wr.below hJ) (by omega) (by omega) HC5.out).mono ?_
      rintro ee wk ⟨rfl, B⟩
      exact hK.out _ _ rfl B
    refine Jo.jcons (i := 16) (o := ⟨some 82, _, _, _, _, _⟩) (di := some 82) (L := [(some 76, 10), (some 81, 15)]) (f := Jo.Fact.eq (.bool true)) rfl rfl rfl rfl (fun vs wj hJ hd K hK => ?_) ?_
    · have d10 : (Jo.Fact.eq (.bool true)).P (vs 10) wj := hd 10 (by decide)
      have d15 : (Jo.Fact.eq (.int .i64 κ5)).P (vs 15) wj := hd 15 (by decide)
      clear hd
      simp only [Jo.putl, Jo.zd, Jo.ze, Act.put, Jo.za, Jo.zb, Jo.zc] at hK ⊢
      generalize vs 10 = u10 at hK d10 ⊢
      generalize vs 15 = u15 at hK d15 ⊢
      replace d10 : u10 = _ := d10
      subst d10
      replace d15 : u15 = _ := d15
      subst d15
      have ht := HT5.out
      go_simp
      exact hK.out _ _ (by first | rfl | (show Value.bool _ = Value.bool _; simp only [ht])) (Below.refl _ _)
    refine Jo.jcons (i := 17) (o := ⟨some 83, _, _, _, _, _⟩) (di := some 83) (L := [(some 76, 10), (some 82, 16)]) (f := Jo.Fact.eq (.bool true)) rfl rfl rfl rfl (fun vs wj hJ hd K hK => ?_) ?_
    · have d10 : (Jo.Fact.eq (.bool true)).P (vs 10) wj := hd 10 (by decide)
      have d16 : (Jo.Fact.eq (.bool true)).P (vs 16) wj := hd 16 (by decide)
      clear hd
      simp only [Jo.putl, Jo.zd, Jo.ze, Act.put, Jo.za, Jo.zb, Jo.zc] at hK ⊢
      generalize vs 10 = u10 at hK d10 ⊢
      generalize vs 16 = u16 at hK d16 ⊢
      replace d10 : u10 = _ := d10
      subst d10
      replace d16 : u16 = _ := d16
      subst d16
      go_simp
      exact hK.out _ _ rfl (Below.refl _ _)
    refine Jo.jcons (i := 18) (o := ⟨some 84, _, _, _, _, _⟩) (di := some 84) (L := [(some 83, 17)]) (f := Jo.Fact.eq (.bool true)) rfl rfl rfl rfl (fun vs wj hJ hd K hK => ?_) ?_
    · have d17 : (Jo.Fact.eq (.bool true)).P (vs 17) wj := hd 17 (by decide)
      clear hd
      simp only [Jo.putl, Jo.zd, Jo.ze, Act.put, Jo.za, Jo.zb, Jo.zc] at hK ⊢
      generalize vs 17 = u17 at hK d17 ⊢
      replace d17 : u17 = _ := d17
      subst d17
      go_simp
      exact hK.out _ _ rfl (Below.refl _ _)
    refine Jo.jcons (i := 19) (o := ⟨some 85, _, _, _, _, _⟩) (di := some 85) (L := [(some 84, 18)]) (f := Jo.Fact.eq (.agg #[.bool sd, .slice Ad nd cd, .int .i64 Fh])) rfl rfl rfl rfl (fun vs wj hJ hd K hK => ?_) ?_
    · have d18 : (Jo.Fact.eq (.bool true)).P (vs 18) wj := hd 18 (by decide)
      clear hd
      simp only [Jo.putl, Jo.zd, Jo.ze, Act.put, Jo.za, Jo.zb, Jo.zc] at hK ⊢
      generalize vs 18 = u18 at hK d18 ⊢
      replace d18 : u18 = _ := d18
      subst d18
      have xX120 : World.cell? wj ⟨w15.heap.size, 0, none⟩ = some (.bool sd) := (X12.below hJ).cell 0
      have xX121 : World.cell? wj ⟨w15.heap.size, 1, none⟩ = some (.slice Ad nd cd) := (X12.below hJ).cell 1
      have xX122 : World.cell? wj ⟨w15.heap.size, 2, none⟩ = some (.int .i64 Fh) := (X12.below hJ).cell 2
      go_simp
      exact hK.out _ _ rfl (Below.refl _ _)
    refine Jo.jcons (i := 20) (o := ⟨some 86, _, _, _, _, _⟩) (di := some 86) (L := [(some 84, 18)]) (f := Jo.Fact.eq (.agg #[.bool sd, .slice Ad nd cd, .int .i64 Fh])) rfl rfl rfl rfl (fun vs wj hJ hd K hK => ?_) ?_
    · have d18 : (Jo.Fact.eq (.bool true)).P (vs 18) wj := hd 18 (by decide)
      clear hd
      simp only [Jo.putl, Jo.zd, Jo.ze, Act.put, Jo.za, Jo.zb, Jo.zc] at hK ⊢
      generalize vs 18 = u18 at hK d18 ⊢
      replace d18 : u18 = _ := d18
      subst d18
      have xX120 : World.cell? wj ⟨w15.heap.size, 0, none⟩ = some (.bool sd) := (X12.below hJ).cell 0
      have xX121 : World.cell? wj ⟨w15.heap.size, 1, none⟩ = some (.slice Ad nd cd) := (X12.below hJ).cell 1
      have xX122 : World.cell? wj ⟨w15.heap.size, 2, none⟩ = some (.int .i64 Fh) := (X12.below hJ).cell 2
      go_simp
      exact hK.out _ _ rfl (Below.refl _ _)
    refine Jo.jcons (i := 21) (o := ⟨some 87, _, _, _, _, _⟩) (di := some 87) (L := [(some 84, 18), (some 85, 19), (some 86, 20)]) (f := Jo.Fact.dy U6 V6 (1 + 2 * 20000)) rfl rfl rfl rfl (fun vs wj hJ hd K hK => ?_) ?_
    · have d18 : (Jo.Fact.eq (.bool true)).P (vs 18) wj := hd 18 (by decide)
      have d19 : (Jo.Fact.eq (.agg #[.bool sd, .slice Ad nd cd, .int .i64 Fh])).P (vs 19) wj := hd 19 (by decide)
      have d20 : (Jo.Fact.eq (.agg #[.bool sd, .slice Ad nd cd, .int .i64 Fh])).P (vs 20) wj := hd 20 (by decide)
      clear hd
      simp only [Jo.putl, Jo.zd, Jo.ze, Act.put, Jo.za, Jo.zb, Jo.zc] at hK ⊢
      generalize vs 18 = u18 at hK d18 ⊢
      generalize vs 19 = u19 at hK d19 ⊢
      generalize vs 20 = u20 at hK d20 ⊢
      replace d18 : u18 = _ := d18
      subst d18
      replace d19 : u19 = _ := d19
      subst d19
      replace d20 : u20 = _ := d20
      subst d20
      go_simp
      refine (dMul (hT.below hJ) (pd.wr.below hJ) (pd.wr.below hJ) (by omega) (by omega) HQA.out HQB.out).mono ?_
      rintro ee wk ⟨s6, A6, n6, c6, rfl, p6, k6, B⟩
      exact hK.out _ _ ⟨s6, A6, n6, c6, rfl, p6, k6⟩ B
    refine Jo.jcons (i := 22) (o := ⟨some 88, _, _, _, _, _⟩) (di := some 88) (L := [(some 84, 18)]) (f := Jo.Fact.eq (.agg #[.bool sa, .slice Aa na ca, .int .i64 Fx])) rfl rfl rfl rfl (fun vs wj hJ hd K hK => ?_) ?_
    · have d18 : (Jo.Fact.eq (.bool true)).P (vs 18) wj := hd 18 (by decide)
      clear hd
      simp only [Jo.putl, Jo.zd, Jo.ze, Act.put, Jo.za, Jo.zb, Jo.zc] at hK ⊢
      generalize vs 18 = u18 at hK d18 ⊢
      replace d18 : u18 = _ := d18
      subst d18
      have xX40 : World.cell? wj ⟨w3.heap.size, 0, none⟩ = some (.bool sa) := (X4.below hJ).cell 0
      have xX41 : World.cell? wj ⟨w3.heap.size, 1, none⟩ = some (.slice Aa na ca) := (X4.below hJ).cell 1
      have xX42 : World.cell? wj ⟨w3.heap.size, 2, none⟩ = some (.int .i64 Fx) := (X4.below hJ).cell 2
      go_simp
      exact hK.out _ _ rfl (Below.refl _ _)
    refine Jo.jcons (i := 23) (o := ⟨some 89, _, _, _, _, _⟩) (di := some 89) (L := [(some 84, 18), (some 87, 21), (some 88, 22)]) (f := Jo.Fact.eq (.int .i64 κ6)) rfl rfl rfl rfl (fun vs wj hJ hd K hK => ?_) ?_
    · have d18 : (Jo.Fact.eq (.bool true)).P (vs 18) wj := hd 18 (by decide)
      have d21 : (Jo.Fact.dy U6 V6 (1 + 2 * 20000)).P (vs 21) wj := hd 21 (by decide)
      have d22 : (Jo.Fact.eq (.agg #[.bool sa, .slice Aa na ca, .int .i64 Fx])).P (vs 22) wj := hd 22 (by decide)
      clear hd
      simp only [Jo.putl, Jo.zd, Jo.ze, Act.put, Jo.za, Jo.zb, Jo.zc] at hK ⊢
      generalize vs 18 = u18 at hK d18 ⊢
      generalize vs 21 = u21 at hK d21 ⊢
      generalize vs 22 = u22 at hK d22 ⊢
      replace d18 : u18 = _ := d18
      subst d18
      obtain ⟨s6, A6, n6, c6, rfl, p6, k6⟩ := d21
      replace d22 : u22 = _ := d22
      subst d22
      go_simp
      refine (dCmp (r := κ6) (hT.below hJ) p6.wr (pa.wr.below hJ) (by omega) (by omega) HC6.out).mono ?_
      rintro ee wk ⟨rfl, B⟩
      exact hK.out _ _ rfl B
    refine Jo.jcons (i := 24) (o := ⟨some 90, _, _, _, _, _⟩) (di := some 90) (L := [(some 84, 18), (some 89, 23)]) (f := Jo.Fact.eq (.bool true)) rfl rfl rfl rfl (fun vs wj hJ hd K hK => ?_) ?_
    · have d18 : (Jo.Fact.eq (.bool true)).P (vs 18) wj := hd 18 (by decide)
      have d23 : (Jo.Fact.eq (.int .i64 κ6)).P (vs 23) wj := hd 23 (by decide)
      clear hd
      simp only [Jo.putl, Jo.zd, Jo.ze, Act.put, Jo.za, Jo.zb, Jo.zc] at hK ⊢
      generalize vs 18 = u18 at hK d18 ⊢
      generalize vs 23 = u23 at hK d23 ⊢
      replace d18 : u18 = _ := d18
      subst d18
      replace d23 : u23 = _ := d23
      subst d23
      have ht := HT6.out
      go_simp
      exact hK.out _ _ (by first | rfl | (show Value.bool _ = Value.bool _; simp only [ht])) (Below.refl _ _)
    refine Jo.jcons (i := 25) (o := ⟨some 91, _, _, _, _, _⟩) (di := some 91) (L := [(some 84, 18), (some 90, 24)]) (f := Jo.Fact.eq (.bool true)) rfl rfl rfl rfl (fun vs wj hJ hd K hK => ?_) ?_
    · have d18 : (Jo.Fact.eq (.bool true)).P (vs 18) wj := hd 18 (by decide)
      have d24 : (Jo.Fact.eq (.bool true)).P (vs 24) wj := hd 24 (by decide)
      clear hd
      simp only [Jo.putl, Jo.zd, Jo.ze, Act.put, Jo.za, Jo.zb, Jo.zc] at hK ⊢
      generalize vs 18 = u18 at hK d18 ⊢
      generalize vs 24 = u24 at hK d24 ⊢
      replace d18 : u18 = _ := d18
      subst d18
      replace d24 : u24 = _ := d24
      subst d24
      go_simp
      exact hK.out _ _ rfl (Below.refl _ _)
    refine Jo.jcons (i := 26) (o := ⟨some 92, _, _, _, _, _⟩) (di := some 92) (L := [(some 91, 25)]) (f := Jo.Fact.eq (.bool true)) rfl rfl rfl rfl (fun vs wj hJ hd K hK => ?_) ?_
    · have d25 : (Jo.Fact.eq (.bool true)).P (vs 25) wj := hd 25 (by decide)
      clear hd
      simp only [Jo.putl, Jo.zd, Jo.ze, Act.put, Jo.za, Jo.zb, Jo.zc] at hK ⊢
      generalize vs 25 = u25 at hK d25 ⊢
      replace d25 : u25 = _ := d25
      subst d25
      go_simp
      exact hK.out _ _ rfl (Below.refl _ _)
    refine Jo.jcons (i := 27) (o := ⟨some 93, _, _, _, _, _⟩) (di := some 93) (L := [(some 92, 26)]) (f := Jo.Fact.eq (.agg #[.int .i64 K3, .bool s3, .int .u64 M3, .int .i64 E3])) rfl rfl rfl rfl (fun vs wj hJ hd K hK => ?_) ?_
    · have d26 : (Jo.Fact.eq (.bool true)).P (vs 26) wj := hd 26 (by decide)
      clear hd
      simp only [Jo.putl, Jo.zd, Jo.ze, Act.put, Jo.za, Jo.zb, Jo.zc] at hK ⊢
      generalize vs 26 = u26 at hK d26 ⊢
      replace d26 : u26 = _ := d26
      subst d26
      have xX60 : World.cell? wj ⟨w5.heap.size, 0, none⟩ = some (.int .i64 K3) := (X6.below hJ).cell 0
      have xX61 : World.cell? wj ⟨w5.heap.size, 1, none⟩ = some (.bool s3) := (X6.below hJ).cell 1
      have xX62 : World.cell? wj ⟨w5.heap.size, 2, none⟩ = some (.int .u64 M3) := (X6.below hJ).cell 2
      have xX63 : World.cell? wj ⟨w5.heap.size, 3, none⟩ = some (.int .i64 E3) := (X6.below hJ).cell 3
      go_simp
      exact hK.out _ _ rfl (Below.refl _ _)
    refine Jo.jcons (i := 28) (o := ⟨some 94, _, _, _, _, _⟩) (di := some 94) (L := [(some 92, 26)]) (f := Jo.Fact.eq (.agg #[.int .i64 K3, .bool s3, .int .u64 M3, .int .i64 E3])) rfl rfl rfl rfl (fun vs wj hJ hd K hK => ?_) ?_
    · have d26 : (Jo.Fact.eq (.bool true)).P (vs 26) wj := hd 26 (by decide)
      clear hd
      simp only [Jo.putl, Jo.zd, Jo.ze, Act.put, Jo.za, Jo.zb, Jo.zc] at hK ⊢
      generalize vs 26 = u26 at hK d26 ⊢
      replace d26 : u26 = _ := d26
      subst d26
      have xX80 : World.cell? wj ⟨w7.heap.size, 0, none⟩ = some (.int .i64 K3) := (X8.below hJ).cell 0
      have xX81 : World.cell? wj ⟨w7.heap.size, 1, none⟩ = some (.bool s3) := (X8.below hJ).cell 1
      have xX82 : World.cell? wj ⟨w7.heap.size, 2, none⟩ = some (.int .u64 M3) := (X8.below hJ).cell 2
      have xX83 : World.cell? wj ⟨w7.heap.size, 3, none⟩ = some (.int .i64 E3) := (X8.below hJ).cell 3
      go_simp
      exact hK.out _ _ rfl (Below.refl _ _)
    refine Jo.jcons (i := 29) (o := ⟨some 95, _, _, _, _, _⟩) (di := some 95) (L := [(some 92, 26), (some 93, 27), (some 94, 28)]) (f := Jo.Fact.eq (.bool true)) rfl rfl rfl rfl (fun vs wj hJ hd K hK => ?_) ?_
    · have d26 : (Jo.Fact.eq (.bool true)).P (vs 26) wj := hd 26 (by decide)
      have d27 : (Jo.Fact.eq (.agg #[.int .i64 K3, .bool s3, .int .u64 M3, .int .i64 E3])).P (vs 27) wj := hd 27 (by decide)
      have d28 : (Jo.Fact.eq (.agg #[.int .i64 K3, .bool s3, .int .u64 M3, .int .i64 E3])).P (vs 28) wj := hd 28 (by decide)
      clear hd
      simp only [Jo.putl, Jo.zd, Jo.ze, Act.put, Jo.za, Jo.zb, Jo.zc] at hK ⊢
      generalize vs 26 = u26 at hK d26 ⊢
      generalize vs 27 = u27 at hK d27 ⊢
      generalize vs 28 = u28 at hK d28 ⊢
      replace d26 : u26 = _ := d26
      subst d26
      replace d27 : u27 = _ := d27
      subst d27
      replace d28 : u28 = _ := d28
      subst d28
      go_simp
      exact hK.out _ _ (by first | rfl | (show Value.bool _ = Value.bool _; simp)) (Below.refl _ _)
    refine Jo.jcons (i := 30) (o := ⟨some 96, _, _, _, _, _⟩) (di := some 96) (L := [(some 92, 26), (some 95, 29)]) (f := Jo.Fact.eq (.bool true)) rfl rfl rfl rfl (fun vs wj hJ hd K hK => ?_) ?_
    · have d26 : (Jo.Fact.eq (.bool true)).P (vs 26) wj := hd 26 (by decide)
      have d29 : (Jo.Fact.eq (.bool true)).P (vs 29) wj := hd 29 (by decide)
      clear hd
      simp only [Jo.putl, Jo.zd, Jo.ze, Act.put, Jo.za, Jo.zb, Jo.zc] at hK ⊢
      generalize vs 26 = u26 at hK d26 ⊢
      generalize vs 29 = u29 at hK d29 ⊢
      replace d26 : u26 = _ := d26
      subst d26
      replace d29 : u29 = _ := d29
      subst d29
      go_simp
      exact hK.out _ _ rfl (Below.refl _ _)
    refine Jo.jcons (i := 31) (o := ⟨some 97, _, _, _, _, _⟩) (di := some 97) (L := [(some 96, 30)]) (f := Jo.Fact.eq undef) rfl rfl rfl rfl (fun vs wj hJ hd K hK => ?_) ?_
    · have d30 : (Jo.Fact.eq (.bool true)).P (vs 30) wj := hd 30 (by decide)
      clear hd
      simp only [Jo.putl, Jo.zd, Jo.ze, Act.put, Jo.za, Jo.zb, Jo.zc] at hK ⊢
      generalize vs 30 = u30 at hK d30 ⊢
      replace d30 : u30 = _ := d30
      subst d30
      go_simp
      exact hK.out _ _ rfl (Below.refl _ _)
    refine Jo.jcons (i := 32) (o := ⟨some 98, _, _, _, _, _⟩) (di := some 98) (L := [(some 96, 30), (some 97, 31)]) (f := Jo.Fact.eq undef) rfl rfl rfl rfl (fun vs wj hJ hd K hK => ?_) ?_
    · have d30 : (Jo.Fact.eq (.bool true)).P (vs 30) wj := hd 30 (by decide)
      have d31 : (Jo.Fact.eq undef).P (vs 31) wj := hd 31 (by decide)
      clear hd
      simp only [Jo.putl, Jo.zd, Jo.ze, Act.put, Jo.za, Jo.zb, Jo.zc] at hK ⊢
      generalize vs 30 = u30 at hK d30 ⊢
      generalize vs 31 = u31 at hK d31 ⊢
      replace d30 : u30 = _ := d30
      subst d30
      replace d31 : u31 = _ := d31
      subst d31
      go_simp
      exact hK.out _ _ rfl (Below.refl _ _)
    refine Jo.jcons (i := 33) (o := ⟨some 99, _, _, _, _, _⟩) (di := some 99) (L := [(some 96, 30)]) (f := Jo.Fact.eq undef) rfl rfl rfl rfl (fun vs wj hJ hd K hK => ?_) ?_
    · have d30 : (Jo.Fact.eq (.bool true)).P (vs 30) wj := hd 30 (by decide)
      clear hd
      simp only [Jo.putl, Jo.zd, Jo.ze, Act.put, Jo.za, Jo.zb, Jo.zc] at hK ⊢
      generalize vs 30 = u30 at hK d30 ⊢
      replace d30 : u30 = _ := d30
      subst d30
      go_simp
      exact hK.out _ _ rfl (Below.refl _ _)
    refine Jo.jcons (i := 34) (o := ⟨some 100, _, _, _, _, _⟩) (di := some 100) (L := [(some 96, 30), (some 98, 32), (some 99, 33)]) (f := Jo.Fact.eq undef) rfl rfl rfl rfl (fun vs wj hJ hd K hK => ?_) ?_
    · have d30 : (Jo.Fact.eq (.bool true)).P (vs 30) wj := hd 30 (by decide)
      have d32 : (Jo.Fact.eq undef).P (vs 32) wj := hd 32 (by decide)
      have d33 : (Jo.Fact.eq undef).P (vs 33) wj := hd 33 (by decide)
      clear hd
      simp only [Jo.putl, Jo.zd, Jo.ze, Act.put, Jo.za, Jo.zb, Jo.zc] at hK ⊢
      generalize vs 30 = u30 at hK d30 ⊢
      generalize vs 32 = u32 at hK d32 ⊢
      generalize vs 33 = u33 at hK d33 ⊢
      replace d30 : u30 = _ := d30
      subst d30
      replace d32 : u32 = _ := d32
      subst d32
      replace d33 : u33 = _ := d33
      subst d33
      go_simp
      exact hK.out _ _ rfl (Below.refl _ _)
    refine Jo.jcons (i := 35) (o := ⟨some 101, _, _, _, _, _⟩) (di := some 101) (L := [(some 92, 26), (some 96, 30), (some 100, 34)]) (f := Jo.Fact.eq (.bool true)) rfl rfl rfl rfl (fun vs wj hJ hd K hK => ?_) ?_
    · have d26 : (Jo.Fact.eq (.bool true)).P (vs 26) wj := hd 26 (by decide)
      have d30 : (Jo.Fact.eq (.bool true)).P (vs 30) wj := hd 30 (by decide)
      have d34 : (Jo.Fact.eq undef).P (vs 34) wj := hd 34 (by decide)
      clear hd
      simp only [Jo.putl, Jo.zd, Jo.ze, Act.put, Jo.za, Jo.zb, Jo.zc] at hK ⊢
      generalize vs 26 = u26 at hK d26 ⊢
      generalize vs 30 = u30 at hK d30 ⊢
      generalize vs 34 = u34 at hK d34 ⊢
      replace d26 : u26 = _ := d26
      subst d26
      replace d30 : u30 = _ := d30
      subst d30
      replace d34 : u34 = _ := d34
      subst d34
      go_simp
      exact hK.out _ _ rfl (Below.refl _ _)
    refine Jo.jcons (i := 36) (o := ⟨some 102, _, _, _, _, _⟩) (di := some 102) (L := [(some 92, 26), (some 101, 35)]) (f := Jo.Fact.eq (.bool true)) rfl rfl rfl rfl (fun vs wj hJ hd K hK => ?_) ?_
    · have d26 : (Jo.Fact.eq (.bool true)).P (vs 26) wj := hd 26 (by decide)
      have d35 : (Jo.Fact.eq (.bool true)).P (vs 35) wj := hd 35 (by decide)
      clear hd
      simp only [Jo.putl, Jo.zd, Jo.ze, Act.put, Jo.za, Jo.zb, Jo.zc] at hK ⊢
      generalize vs 26 = u26 at hK d26 ⊢
      generalize vs 35 = u35 at hK d35 ⊢
      replace d26 : u26 = _ := d26
      subst d26
      replace d35 : u35 = _ := d35
      subst d35
      go_simp
      exact hK.out _ _ rfl (Below.refl _ _)
    refine Jo.jcons (i := 37) (o := ⟨some 2, _, _, _, _, _⟩) (di := some 2) (L := [(some 102, 36)]) (f := Jo.Fact.eq (.bool true)) rfl rfl rfl rfl (fun vs wj hJ hd K hK => ?_) ?_
    · have d36 : (Jo.Fact.eq (.bool true)).P (vs 36) wj := hd 36 (by decide)
      clear hd
      simp only [Jo.putl, Jo.zd, Jo.ze, Act.put, Jo.za, Jo.zb, Jo.zc] at hK ⊢
      generalize vs 36 = u36 at hK d36 ⊢
      replace d36 : u36 = _ := d36
      subst d36
      go_simp
      exact hK.out _ _ rfl (Below.refl _ _)
    exact Jo.Steps.nil
  have d0 : (Jo.Fact.eq (.bool true)).P (vs 0) w17 := hd 0 (by decide)
  have d1 : (Jo.Fact.eq (.bool true)).P (vs 1) w17 := hd 1 (by decide)
  have d2 : (Jo.Fact.eq (.bool true)).P (vs 2) w17 := hd 2 (by decide)
  have d3 : (Jo.Fact.eq (.bool true)).P (vs 3) w17 := hd 3 (by decide)
  have d4 : (Jo.Fact.eq (.bool true)).P (vs 4) w17 := hd 4 (by decide)
  have d5 : (Jo.Fact.eq (.bool true)).P (vs 5) w17 := hd 5 (by decide)
  have d6 : (Jo.Fact.eq (.bool true)).P (vs 6) w17 := hd 6 (by decide)
  have d7 : (Jo.Fact.eq (.bool true)).P (vs 7) w17 := hd 7 (by decide)
  have d8 : (Jo.Fact.eq (.bool true)).P (vs 8) w17 := hd 8 (by decide)
  have d9 : (Jo.Fact.eq (.bool true)).P (vs 9) w17 := hd 9 (by decide)
  have d10 : (Jo.Fact.eq (.bool true)).P (vs 10) w17 := hd 10 (by decide)
  have d11 : (Jo.Fact.eq (.agg #[.bool sc, .slice Ac nc cc, .int .i64 Fl])).P (vs 11) w17 := hd 11 (by decide)
  have d12 : (Jo.Fact.eq (.agg #[.bool sc, .slice Ac nc cc, .int .i64 Fl])).P (vs 12) w17 := hd 12 (by decide)
  have d13 : (Jo.Fact.dy U5 V5 (1 + 2 * 20000)).P (vs 13) w17 := hd 13 (by decide)
  have d14 : (Jo.Fact.eq (.agg #[.bool sa, .slice Aa na ca, .int .i64 Fx])).P (vs 14) w17 := hd 14 (by decide)
  have d15 : (Jo.Fact.eq (.int .i64 κ5)).P (vs 15) w17 := hd 15 (by decide)
  have d16 : (Jo.Fact.eq (.bool true)).P (vs 16) w17 := hd 16 (by decide)
  have d17 : (Jo.Fact.eq (.bool true)).P (vs 17) w17 := hd 17 (by decide)
  have d18 : (Jo.Fact.eq (.bool true)).P (vs 18) w17 := hd 18 (by decide)
  have d19 : (Jo.Fact.eq (.agg #[.bool sd, .slice Ad nd cd, .int .i64 Fh])).P (vs 19) w17 := hd 19 (by decide)
  have d20 : (Jo.Fact.eq (.agg #[.bool sd, .slice Ad nd cd, .int .i64 Fh])).P (vs 20) w17 := hd 20 (by decide)
  have d21 : (Jo.Fact.dy U6 V6 (1 + 2 * 20000)).P (vs 21) w17 := hd 21 (by decide)
  have d22 : (Jo.Fact.eq (.agg #[.bool sa, .slice Aa na ca, .int .i64 Fx])).P (vs 22) w17 := hd 22 (by decide)
  have d23 : (Jo.Fact.eq (.int .i64 κ6)).P (vs 23) w17 := hd 23 (by decide)
  have d24 : (Jo.Fact.eq (.bool true)).P (vs 24) w17 := hd 24 (by decide)
  have d25 : (Jo.Fact.eq (.bool true)).P (vs 25) w17 := hd 25 (by decide)
  have d26 : (Jo.Fact.eq (.bool true)).P (vs 26) w17 := hd 26 (by decide)
  have d27 : (Jo.Fact.eq (.agg #[.int .i64 K3, .bool s3, .int .u64 M3, .int .i64 E3])).P (vs 27) w17 := hd 27 (by decide)
  have d28 : (Jo.Fact.eq (.agg #[.int .i64 K3, .bool s3, .int .u64 M3, .int .i64 E3])).P (vs 28) w17 := hd 28 (by decide)
  have d29 : (Jo.Fact.eq (.bool true)).P (vs 29) w17 := hd 29 (by decide)
  have d30 : (Jo.Fact.eq (.bool true)).P (vs 30) w17 := hd 30 (by decide)
  have d31 : (Jo.Fact.eq undef).P (vs 31) w17 := hd 31 (by decide)
  have d32 : (Jo.Fact.eq undef).P (vs 32) w17 := hd 32 (by decide)
  have d33 : (Jo.Fact.eq undef).P (vs 33) w17 := hd 33 (by decide)
  have d34 : (Jo.Fact.eq undef).P (vs 34) w17 := hd 34 (by decide)
  have d35 : (Jo.Fact.eq (.bool true)).P (vs 35) w17 := hd 35 (by decide)
  have d36 : (Jo.Fact.eq (.bool true)).P (vs 36) w17 := hd 36 (by decide)
  have d37 : (Jo.Fact.eq (.bool true)).P (vs 37) w17 := hd 37 (by decide)
  clear hd
  simp only [Jo.putl, Jo.zd, Jo.ze, Act.put, Jo.za, Jo.zb, Jo.zc]
  generalize vs 0 = u0 at d0 ⊢
  generalize vs 1 = u1 at d1 ⊢
  generalize vs 2 = u2 at d2 ⊢
  generalize vs 3 = u3 at d3 ⊢
  generalize vs 4 = u4 at d4 ⊢
  generalize vs 5 = u5 at d5 ⊢
  generalize vs 6 = u6 at d6 ⊢
  generalize vs 7 = u7 at d7 ⊢
  generalize vs 8 = u8 at d8 ⊢
  generalize vs 9 = u9 at d9 ⊢
  generalize vs 10 = u10 at d10 ⊢
  generalize vs 11 = u11 at d11 ⊢
  generalize vs 12 = u12 at d12 ⊢
  generalize vs 13 = u13 at d13 ⊢
  generalize vs 14 = u14 at d14 ⊢
  generalize vs 15 = u15 at d15 ⊢
  generalize vs 16 = u16 at d16 ⊢
  generalize vs 17 = u17 at d17 ⊢
  generalize vs 18 = u18 at d18 ⊢
  generalize vs 19 = u19 at d19 ⊢
  generalize vs 20 = u20 at d20 ⊢
  generalize vs 21 = u21 at d21 ⊢
  generalize vs 22 = u22 at d22 ⊢
  generalize vs 23 = u23 at d23 ⊢
  generalize vs 24 = u24 at d24 ⊢
  generalize vs 25 = u25 at d25 ⊢
  generalize vs 26 = u26 at d26 ⊢
  generalize vs 27 = u27 at d27 ⊢
  generalize vs 28 = u28 at d28 ⊢
  generalize vs 29 = u29 at d29 ⊢
  generalize vs 30 = u30 at d30 ⊢
  generalize vs 31 = u31 at d31 ⊢
  generalize vs 32 = u32 at d32 ⊢
  generalize vs 33 = u33 at d33 ⊢
  generalize vs 34 = u34 at d34 ⊢
  generalize vs 35 = u35 at d35 ⊢
  generalize vs 36 = u36 at d36 ⊢
  generalize vs 37 = u37 at d37 ⊢
  clear vs
  replace d0 : u0 = _ := d0
  subst d0
  replace d1 : u1 = _ := d1
  subst d1
  replace d2 : u2 = _ := d2
  subst d2
  replace d3 : u3 = _ := d3
  subst d3
  replace d4 : u4 = _ := d4
  subst d4
  replace d5 : u5 = _ := d5
  subst d5
  replace d6 : u6 = _ := d6
  subst d6
  replace d7 : u7 = _ := d7
  subst d7
  replace d8 : u8 = _ := d8
  subst d8
  replace d9 : u9 = _ := d9
  subst d9
  replace d10 : u10 = _ := d10
  subst d10
  replace d11 : u11 = _ := d11
  subst d11
  replace d12 : u12 = _ := d12
  subst d12
  obtain ⟨s5, A5, n5, c5, rfl, _, _⟩ := d13
  replace d14 : u14 = _ := d14
  subst d14
  replace d15 : u15 = _ := d15
  subst d15
  replace d16 : u16 = _ := d16
  subst d16
  replace d17 : u17 = _ := d17
  subst d17
  replace d18 : u18 = _ := d18
  subst d18
  replace d19 : u19 = _ := d19
  subst d19
  replace d20 : u20 = _ := d20
  subst d20
  obtain ⟨s6, A6, n6, c6, rfl, _, _⟩ := d21
  replace d22 : u22 = _ := d22
  subst d22
  replace d23 : u23 = _ := d23
  subst d23
  replace d24 : u24 = _ := d24
  subst d24
  replace d25 : u25 = _ := d25
  subst d25
  replace d26 : u26 = _ := d26
  subst d26
  replace d27 : u27 = _ := d27
  subst d27
  replace d28 : u28 = _ := d28
  subst d28
  replace d29 : u29 = _ := d29
  subst d29
  replace d30 : u30 = _ := d30
  subst d30
  replace d31 : u31 = _ := d31
  subst d31
  replace d32 : u32 = _ := d32
  subst d32
  replace d33 : u33 = _ := d33
  subst d33
  replace d34 : u34 = _ := d34
  subst d34
  replace d35 : u35 = _ := d35
  subst d35
  replace d36 : u36 = _ := d36
  subst d36
  replace d37 : u37 = _ := d37
  subst d37
  replace X0 := X0.below hJ
  replace X4 := X4.below hJ
  replace X6 := X6.below hJ
  replace X8 := X8.below hJ
  replace X10 := X10.below hJ
  replace X12 := X12.below hJ
  replace hT := hT.below hJ
  replace pa := pa.below hJ
  replace pc := pc.below hJ
  replace pd := pd.below hJ
  replace HB := Lib.hid (bt HB.out hJ)
  refine Jo.jdone (by kernel_rfl) ?_
  go_wp2
  go_ret
  exact ⟨rfl, HB.out⟩
set_option maxHeartbeats 8000000 in
theorem quotSquares_next (D0 : Int) (s0 : Bool) (M0 E0 : Int) (w : World) (x l h σ : Int) (hT : Tab w) (v0 : 0 ≤ M0) (u0 : M0 < 18446744073709551616) (ha : exb D0 s0 M0 E0 = true) (g0 : ¬ 1500 < E0) (g1 : ¬ E0 < -1500)
    (hx : rk D0 s0 M0 E0 = x) (hσ : cmpI x 0 = σ) (g2 : ¬ σ < 0) (hl : Ro false x l true) (hh : Ro true x h true) (ht : h = l + 1) :
    Calls Tryd.prog 4 #[.agg #[.int .i64 D0, .bool s0, .int .u64 M0, .int .i64 E0]] w (PB w true) := by
  obtain ⟨x1, x2, fx, ex⟩ := few_exact u0 hx ha g0 g1
  obtain ⟨l1, l2, h1, h2, el, eh, _⟩ := ro_holds (nn_of_sign hσ g2) x2 fx hl hh
  have l1' : -19342822337206103650074625 < l := by omega
  have h1' : -19342822337206103650074625 < h := by omega
  obtain ⟨Nx, hNx⟩ : ∃ N, (ep x).1 = N := ⟨_, rfl⟩
  obtain ⟨Fx, hFx⟩ : ∃ N, (ep x).2 = N := ⟨_, rfl⟩
  have kx : mk Nx Fx = ep x := by rw [← hNx, ← hFx]; exact ep_nf x
  obtain ⟨Nl, hNl⟩ : ∃ N, (ep l).1 = N := ⟨_, rfl⟩
  obtain ⟨Fl, hFl⟩ : ∃ N, (ep l).2 = N := ⟨_, rfl⟩
  have kl : mk Nl Fl = ep l := by rw [← hNl, ← hFl]; exact ep_nf l
  obtain ⟨Nh, hNh⟩ : ∃ N, (ep h).1 = N := ⟨_, rfl⟩
  obtain ⟨Fh, hFh⟩ : ∃ N, (ep h).2 = N := ⟨_, rfl⟩
  have kh : mk Nh Fh = ep h := by rw [← hNh, ← hFh]; exact ep_nf h
  obtain ⟨U5, hA5⟩ : ∃ N, (ml (ep l) (ep l)).1 = N := ⟨_, rfl⟩
  obtain ⟨V5, hB5⟩ : ∃ N, (ml (ep l) (ep l)).2 = N := ⟨_, rfl⟩
  obtain ⟨κ5, hc5⟩ : ∃ c, cmpI (vl (mk U5 V5)) (vl (mk Nx Fx)) = c := ⟨_, rfl⟩
  obtain ⟨U6, hA6⟩ : ∃ N, (ml (ep h) (ep h)).1 = N := ⟨_, rfl⟩
  obtain ⟨V6, hB6⟩ : ∃ N, (ml (ep h) (ep h)).2 = N := ⟨_, rfl⟩
  obtain ⟨κ6, hc6⟩ : ∃ c, cmpI (vl (mk U6 V6)) (vl (mk Nx Fx)) = c := ⟨_, rfl⟩
  have t5 := pair_le l1' l2 l1' l2 x1 x2 el hA5 hB5 kx
  have t6 := pair_ge h1' h2 h1' h2 x1 x2 eh hA6 hB6 kx
  rw [hc5] at t5
  rw [hc6] at t6
  have HLB := Lib.hid (show (-19342822337206103650074625 < l ∧ l < 19342822337206103650074625) ∧ -19342822337206103650074625 < h ∧ h < 19342822337206103650074625 from ⟨⟨l1', l2⟩, h1', h2⟩)
  have HN1 : Hid ((exq D0 s0 M0 E0).1 = Nx) := Lib.hid (by rw [ex, hNx])
  have HF1 : Hid ((exq D0 s0 M0 E0).2 = Fx) := Lib.hid (by rw [ex, hFx])
  have HNX : Hid (nx true l = h) := Lib.hid (by
    have := TP_eq
    unfold nx
    rw [if_pos rfl]
    omega)
  have HLH := Lib.hid (show l ≠ h by omega)
  have HPA : Hid ((ml (mk Nl Fl) (mk Nl Fl)).1 = U5) := Lib.hid (by rw [kl, hA5])
  have HPB : Hid ((ml (mk Nl Fl) (mk Nl Fl)).2 = V5) := Lib.hid (by rw [kl, hB5])
  have HQA : Hid ((ml (mk Nh Fh) (mk Nh Fh)).1 = U6) := Lib.hid (by rw [kh, hA6])
  have HQB : Hid ((ml (mk Nh Fh) (mk Nh Fh)).2 = V6) := Lib.hid (by rw [kh, hB6])
  have HS0 : Hid (cmpI (rk D0 s0 M0 E0) 0 = σ) := Lib.hid (by rw [hx, hσ])
  have HA := Lib.hid ha
  have HX := Lib.hid hx
  have HL := Lib.hid hl
  have HH := Lib.hid hh
  have HC5 := Lib.hid hc5
  have HC6 := Lib.hid hc6
  have HT5 := Lib.hid t5
  have HT6 := Lib.hid t6
  have HNL := Lib.hid hNl
  have HFL := Lib.hid hFl
  have HNH := Lib.hid hNh
  have HFH := Lib.hid hFh
  clear ha hx hl hh hc5 hc6 t5 t6 hσ x1 x2 fx ex l1 l2 h1 h2 el eh l1' h1' hNx hFx kx hNl hFl kl hNh hFh kh hA5 hB5 hA6 hB6 ht
  go_enter Tryd.func4, Tryd.ntmps4
  go_upto_region 1 with (fail)
  have X0 := (Bo.newAt w (g := w.heap.size) (by simp) #[.int .i64 D0, .bool s0, .int .u64 M0, .int .i64 E0] 24)
  have HB := Lib.hid (bel1 w (.cells #[.int .i64 D0, .bool s0, .int .u64 M0, .int .i64 E0] 24))
  replace hT := hT.below HB.out
  generalize hW1 : (w.alloc (.cells #[.int .i64 D0, .bool s0, .int .u64 M0, .int .i64 E0] 24)) = w1 at *
  clear hW1
  go_wp2_with fail
  refine (awake7 hT).mono ?_
  rintro ee w2 ⟨rfl, B⟩
  replace X0 := X0.below B
  replace hT := hT.below B
  replace HB := Lib.hid (bt HB.out B)
  clear B
  have xX00 := X0.at (i := 0) (v := .int .i64 D0) rfl
  have xX01 := X0.at (i := 1) (v := .bool s0) rfl
  have xX02 := X0.at (i := 2) (v := .int .u64 M0) rfl
  have xX03 := X0.at (i := 3) (v := .int .i64 E0) rfl
  go_wp2_with fail
  refine (nExact (t := true) hT v0 u0 HA.out HN1.out HF1.out).mono ?_
  rintro ee w3 ⟨sa, Aa, na, ca, rfl, pa, ka, B⟩
  clear xX00 xX01 xX02 xX03
  replace X0 := X0.below B
  replace hT := hT.below B
  replace HB := Lib.hid (bt HB.out B)
  clear B
  go_upto_region 3 with (fail)
  have lX4 := Nat.le_refl (World.heap w3).size
  have nX4X0 := X0.lt
  replace X0 := X0.below (bel1 _ (.cells #[.bool sa, .slice Aa na ca, .int .i64 Fx] 30))
  replace hT := hT.below (bel1 _ (.cells #[.bool sa, .slice Aa na ca, .int .i64 Fx] 30))
  replace pa := pa.below (bel1 _ (.cells #[.bool sa, .slice Aa na ca, .int .i64 Fx] 30))
  replace HB := Lib.hid (bt HB.out (bel1 _ (.cells #[.bool sa, .slice Aa na ca, .int .i64 Fx] 30)))
  have X4 := Bo.new w3 #[.bool sa, .slice Aa na ca, .int .i64 Fx] 30
  generalize hWn : World.alloc w3 (.cells #[.bool sa, .slice Aa na ca, .int .i64 Fx] 30) = w4 at *
  clear hWn
  clear lX4
  have xX00 := X0.at (i := 0) (v := .int .i64 D0) rfl
  have xX01 := X0.at (i := 1) (v := .bool s0) rfl
  have xX02 := X0.at (i := 2) (v := .int .u64 M0) rfl
  have xX03 := X0.at (i := 3) (v := .int .i64 E0) rfl
  go_upto_region 5 with (fail)
  clear g0 g1
  clear xX00 xX01 xX02 xX03
  have xX00 := X0.at (i := 0) (v := .int .i64 D0) rfl
  have xX01 := X0.at (i := 1) (v := .bool s0) rfl
  have xX02 := X0.at (i := 2) (v := .int .u64 M0) rfl
  have xX03 := X0.at (i := 3) (v := .int .i64 E0) rfl
  go_wp2_with fail
  refine (kRoot (up := false) hT u0 HX.out HL.out).mono ?_
  rintro ee w5 ⟨K3, s3, M3, E3, rfl, q3, B⟩
  clear xX00 xX01 xX02 xX03
  replace X0 := X0.below B
  replace X4 := X4.below B
  replace hT := hT.below B
  replace pa := pa.below B
  replace HB := Lib.hid (bt HB.out B)
  clear B
  go_upto_region 6 with (fail)
  have lX6 := Nat.le_refl (World.heap w5).size
  have nX6X0 := X0.lt
  have nX6X4 := X4.lt
  replace X0 := X0.below (bel1 _ (.cells #[.int .i64 K3, .bool s3, .int .u64 M3, .int .i64 E3] 24))
  replace X4 := X4.below (bel1 _ (.cells #[.int .i64 K3, .bool s3, .int .u64 M3, .int .i64 E3] 24))
  replace hT := hT.below (bel1 _ (.cells #[.int .i64 K3, .bool s3, .int .u64 M3, .int .i64 E3] 24))
  replace pa := pa.below (bel1 _ (.cells #[.int .i64 K3, .bool s3, .int .u64 M3, .int .i64 E3] 24))
  replace HB := Lib.hid (bt HB.out (bel1 _ (.cells #[.int .i64 K3, .bool s3, .int .u64 M3, .int .i64 E3] 24)))
  have X6 := Bo.new w5 #[.int .i64 K3, .bool s3, .int .u64 M3, .int .i64 E3] 24
  generalize hWn : World.alloc w5 (.cells #[.int .i64 K3, .bool s3, .int .u64 M3, .int .i64 E3] 24) = w6 at *
  clear hWn
  clear lX6
  have xX00 := X0.at (i := 0) (v := .int .i64 D0) rfl
  have xX01 := X0.at (i := 1) (v := .bool s0) rfl
  have xX02 := X0.at (i := 2) (v := .int .u64 M0) rfl
  have xX03 := X0.at (i := 3) (v := .int .i64 E0) rfl
  go_wp2_with fail
  refine (kRoot (up := true) hT u0 HX.out HH.out).mono ?_
  rintro ee w7 ⟨K4, s4, M4, E4, rfl, q4, B⟩
  clear xX00 xX01 xX02 xX03
  replace X0 := X0.below B
  replace X4 := X4.below B
  replace X6 := X6.below B
  replace hT := hT.below B
  replace pa := pa.below B
  replace HB := Lib.hid (bt HB.out B)
  clear B
  go_upto_region 7 with (fail)
  have lX8 := Nat.le_refl (World.heap w7).size
  have nX8X0 := X0.lt
  have nX8X4 := X4.lt
  have nX8X6 := X6.lt
  replace X0 := X0.below (bel1 _ (.cells #[.int .i64 K4, .bool s4, .int .u64 M4, .int .i64 E4] 24))
  replace X4 := X4.below (bel1 _ (.cells #[.int .i64 K4, .bool s4, .int .u64 M4, .int .i64 E4] 24))
  replace X6 := X6.below (bel1 _ (.cells #[.int .i64 K4, .bool s4, .int .u64 M4, .int .i64 E4] 24))
  replace hT := hT.below (bel1 _ (.cells #[.int .i64 K4, .bool s4, .int .u64 M4, .int .i64 E4] 24))
  replace pa := pa.below (bel1 _ (.cells #[.int .i64 K4, .bool s4, .int .u64 M4, .int .i64 E4] 24))
  replace HB := Lib.hid (bt HB.out (bel1 _ (.cells #[.int .i64 K4, .bool s4, .int .u64 M4, .int .i64 E4] 24)))
  have X8 := Bo.new w7 #[.int .i64 K4, .bool s4, .int .u64 M4, .int .i64 E4] 24
  generalize hWn : World.alloc w7 (.cells #[.int .i64 K4, .bool s4, .int .u64 M4, .int .i64 E4] 24) = w8 at *
  clear hWn
  clear lX8
  have xX00 := X0.at (i := 0) (v := .int .i64 D0) rfl
  have xX01 := X0.at (i := 1) (v := .bool s0) rfl
  have xX02 := X0.at (i := 2) (v := .int .u64 M0) rfl
  have xX03 := X0.at (i := 3) (v := .int .i64 E0) rfl
  go_wp2_with fail
  refine (nSign (σ := σ) u0 HS0.out).mono ?_
  rintro ee w9 ⟨rfl, B⟩
  clear xX00 xX01 xX02 xX03
  replace X0 := X0.below B
  replace X4 := X4.below B
  replace X6 := X6.below B
  replace X8 := X8.below B
  replace hT := hT.below B
  replace pa := pa.below B
  replace HB := Lib.hid (bt HB.out B)
  clear B
  obtain ⟨b3, m3, e3, v3⟩ := exq_two q3 HLB.out.1.1 HLB.out.1.2 HNL.out HFL.out
  have HB3 := Lib.hid b3
  have HM3 := Lib.hid m3
  have HE3 := Lib.hid e3
  clear b3 m3 e3
  obtain ⟨b4, m4, e4, v4⟩ := exq_two q4 HLB.out.2.1 HLB.out.2.2 HNH.out HFH.out
  have HB4 := Lib.hid b4
  have HM4 := Lib.hid m4
  have HE4 := Lib.hid e4
  clear b4 m4 e4
  have xX60 := X6.at (i := 0) (v := .int .i64 K3) rfl
  have xX61 := X6.at (i := 1) (v := .bool s3) rfl
  have xX62 := X6.at (i := 2) (v := .int .u64 M3) rfl
  have xX63 := X6.at (i := 3) (v := .int .i64 E3) rfl
  go_wp2_with fail
  refine (nExact hT v3 q3.top HB3.out HM3.out HE3.out).mono ?_
  rintro ee w13 ⟨sc, Ac, nc, cc, rfl, pc, kc, B⟩
  clear xX60 xX61 xX62 xX63
  replace X0 := X0.below B
  replace X4 := X4.below B
  replace X6 := X6.below B
  replace X8 := X8.below B
  replace hT := hT.below B
  replace pa := pa.below B
  replace HB := Lib.hid (bt HB.out B)
  clear B
  go_upto_region 10 with (fail)
  clear g2
  have lX10 := Nat.le_refl (World.heap w13).size
  have nX10X0 := X0.lt
  have nX10X4 := X4.lt
  have nX10X6 := X6.lt
  have nX10X8 := X8.lt
  replace X0 := X0.below (bel1 _ (.cells #[.bool sc, .slice Ac nc cc, .int .i64 Fl] 30))
  replace X4 := X4.below (bel1 _ (.cells #[.bool sc, .slice Ac nc cc, .int .i64 Fl] 30))
  replace X6 := X6.below (bel1 _ (.cells #[.bool sc, .slice Ac nc cc, .int .i64 Fl] 30))
  replace X8 := X8.below (bel1 _ (.cells #[.bool sc, .slice Ac nc cc, .int .i64 Fl] 30))
  replace hT := hT.below (bel1 _ (.cells #[.bool sc, .slice Ac nc cc, .int .i64 Fl] 30))
  replace pa := pa.below (bel1 _ (.cells #[.bool sc, .slice Ac nc cc, .int .i64 Fl] 30))
  replace pc := pc.below (bel1 _ (.cells #[.bool sc, .slice Ac nc cc, .int .i64 Fl] 30))
  replace HB := Lib.hid (bt HB.out (bel1 _ (.cells #[.bool sc, .slice Ac nc cc, .int .i64 Fl] 30)))
  have X10 := Bo.new w13 #[.bool sc, .slice Ac nc cc, .int .i64 Fl] 30
  generalize hWn : World.alloc w13 (.cells #[.bool sc, .slice Ac nc cc, .int .i64 Fl] 30) = w14 at *
  clear hWn
  clear lX10
  have xX80 := X8.at (i := 0) (v := .int .i64 K4) rfl
  have xX81 := X8.at (i := 1) (v := .bool s4) rfl
  have xX82 := X8.at (i := 2) (v := .int .u64 M4) rfl
  have xX83 := X8.at (i := 3) (v := .int .i64 E4) rfl
  go_wp2_with fail
  refine (nExact hT v4 q4.top HB4.out HM4.out HE4.out).mono ?_
  rintro ee w15 ⟨sd, Ad, nd, cd, rfl, pd, kd, B⟩
  clear xX80 xX81 xX82 xX83
  replace X0 := X0.below B
  replace X4 := X4.below B
  replace X6 := X6.below B
  replace X8 := X8.below B
  replace X10 := X10.below B
  replace hT := hT.below B
  replace pa := pa.below B
  replace pc := pc.below B
  replace HB := Lib.hid (bt HB.out B)
  clear B
  go_upto_region 11 with (fail)
  have lX12 := Nat.le_refl (World.heap w15).size
  have nX12X0 := X0.lt
  have nX12X4 := X4.lt
  have nX12X6 := X6.lt
  have nX12X8 := X8.lt
  have nX12X10 := X10.lt
  replace X0 := X0.below (bel1 _ (.cells #[.bool sd, .slice Ad nd cd, .int .i64 Fh] 30))
  replace X4 := X4.below (bel1 _ (.cells #[.bool sd, .slice Ad nd cd, .int .i64 Fh] 30))
  replace X6 := X6.below (bel1 _ (.cells #[.bool sd, .slice Ad nd cd, .int .i64 Fh] 30))
  replace X8 := X8.below (bel1 _ (.cells #[.bool sd, .slice Ad nd cd, .int .i64 Fh] 30))
  replace X10 := X10.below (bel1 _ (.cells #[.bool sd, .slice Ad nd cd, .int .i64 Fh] 30))
  replace hT := hT.below (bel1 _ (.cells #[.bool sd, .slice Ad nd cd, .int .i64 Fh] 30))
  replace pa := pa.below (bel1 _ (.cells #[.bool sd, .slice Ad nd cd, .int .i64 Fh] 30))
  replace pc := pc.below (bel1 _ (.cells #[.bool sd, .slice Ad nd cd, .int .i64 Fh] 30))
  replace pd := pd.below (bel1 _ (.cells #[.bool sd, .slice Ad nd cd, .int .i64 Fh] 30))
  replace HB := Lib.hid (bt HB.out (bel1 _ (.cells #[.bool sd, .slice Ad nd cd, .int .i64 Fh] 30)))
  have X12 := Bo.new w15 #[.bool sd, .slice Ad nd cd, .int .i64 Fh] 30
  generalize hWn : World.alloc w15 (.cells #[.bool sd, .slice Ad nd cd, .int .i64 Fh] 30) = w16 at *
  clear hWn
  clear lX12
  refine Jo.region_joint (T := [0, 1, 2, 3, 4, 5, 6, 7, 8, 9, 10, 11, 12, 13, 14, 15, 16, 17, 18, 19, 20, 21, 22, 23, 24, 25, 26, 27, 28, 29, 30, 31, 32, 33, 34, 35, 36, 37]) (ds := [some 66, some 67, some 68, some 69, some 70, some 71, some 72, some 73, some 74, some 75, some 76, some 77, some 78, some 79, some 80, some 81, some 82, some 83, some 84, some 85, some 86, some 87, some 88, some 89, some 90, some 91, some 92, some 93, some 94, some 95, some 96, some 97, some 98, some 99, some 100, some 101, some 102, some 2]) (ls := [[], [0], [1], [1, 2], [3], [4], [4, 5], [6], [7], [7, 8], [9], [10], [10], [10, 11, 12], [10], [10, 13, 14], [10, 15], [10, 16], [17], [18], [18], [18, 19, 20], [18], [18, 21, 22], [18, 23], [18, 24], [25], [26], [26], [26, 27, 28], [26, 29], [30], [30, 31], [30], [30, 32, 33], [26, 30, 34], [26, 35], [36]]) (k := 38) (L := [(some 66, 0), (some 67, 1), (some 68, 2), (some 69, 3), (some 70, 4), (some 71, 5), (some 72, 6), (some 73, 7), (some 74, 8), (some 75, 9), (some 76, 10), (some 77, 11), (some 78, 12), (some 79, 13), (some 80, 14), (some 81, 15), (some 82, 16), (some 83, 17), (some 84, 18), (some 85, 19), (some 86, 20), (some 87, 21), (some 88, 22), (some 89, 23), (some 90, 24), (some 91, 25), (some 92, 26), (some 93, 27), (some 94, 28), (some 95, 29), (some 96, 30), (some 97, 31), (some 98, 32), (some 99, 33), (some 100, 34), (some 101, 35), (some 102, 36), (some 2, 37)]) (fuel := 0) (J := fun wj => Below (World.heap w16).size w16 wj)
    (F := [Jo.Fact.eq (.bool true), Jo.Fact.eq (.bool true), Jo.Fact.eq (.bool true), Jo.Fact.eq (.bool true), Jo.Fact.eq (.bool true), Jo.Fact.eq (.bool true), Jo.Fact.eq (.bool true), Jo.Fact.eq (.bool true), Jo.Fact.eq (.bool true), Jo.Fact.eq (.bool true), Jo.Fact.eq (.bool true), Jo.Fact.eq (.agg #[.bool sc, .slice Ac nc cc, .int .i64 Fl]), Jo.Fact.eq (.agg #[.bool sc, .slice Ac nc cc, .int .i64 Fl]), Jo.Fact.dy U5 V5 (1 + 2 * 20000), Jo.Fact.eq (.agg #[.bool sa, .slice Aa na ca, .int .i64 Fx]), Jo.Fact.eq (.int .i64 κ5), Jo.Fact.eq (.bool true), Jo.Fact.eq (.bool true), Jo.Fact.eq (.bool true), Jo.Fact.eq (.agg #[.bool sd, .slice Ad nd cd, .int .i64 Fh]), Jo.Fact.eq (.agg #[.bool sd, .slice Ad nd cd, .int .i64 Fh]), Jo.Fact.dy U6 V6 (1 + 2 * 20000), Jo.Fact.eq (.agg #[.bool sa, .slice Aa na ca, .int .i64 Fx]), Jo.Fact.eq (.int .i64 κ6), Jo.Fact.eq (.bool true), Jo.Fact.eq (.bool true), Jo.Fact.eq (.bool true), Jo.Fact.eq (.agg #[.int .i64 K3, .bool s3, .int .u64 M3, .int .i64 E3]), Jo.Fact.eq (.agg #[.int .i64 K4, .bool s4, .int .u64 M4, .int .i64 E4]), Jo.Fact.eq (.bool false), Jo.Fact.eq (.bool false), Jo.Fact.eq (.agg #[.int .i64 K3, .bool s3, .int .u64 M3, .int .i64 E3]), Jo.Fact.num h, Jo.Fact.eq (.agg #[.int .i64 K4, .bool s4, .int .u64 M4, .int .i64 E4]), Jo.Fact.eq (.bool true), Jo.Fact.eq (.bool true), Jo.Fact.eq (.bool true), Jo.Fact.eq (.bool true)])
    (by kernel_rfl) (by kernel_rfl) (by decide) rfl rfl (fun _ _ h b => bt h b) ((Below.refl _ _).drew) ?_ (fun vs w17 hJ hd => ?_)
  · refine Jo.jcons (i := 0) (o := ⟨some 66, _, _, _, _, _⟩) (di := some 66) (L := []) (f := Jo.Fact.eq (.bool true)) rfl rfl rfl rfl (fun vs wj hJ hd K hK => ?_) ?_
    · clear hd
      simp only [Jo.putl, Jo.ze, Act.put, Jo.za, Jo.zb, Jo.zc] at hK ⊢
      go_simp
      exact hK.out _ _ rfl (Below.refl _ _)
    refine Jo.jcons (i := 1) (o := ⟨some 67, _, _, _, _, _⟩) (di := some 67) (L := [(some 66, 0)]) (f := Jo.Fact.eq (.bool true)) rfl rfl rfl rfl (fun vs wj hJ hd K hK => ?_) ?_
    · have d0 : (Jo.Fact.eq (.bool true)).P (vs 0) wj := hd 0 (by decide)
      clear hd
      simp only [Jo.putl, Jo.zd, Jo.ze, Act.put, Jo.za, Jo.zb, Jo.zc] at hK ⊢
      generalize vs 0 = u0 at hK d0 ⊢
      replace d0 : u0 = _ := d0
      subst d0
      go_simp
      exact hK.out _ _ rfl (Below.refl _ _)
    refine Jo.jcons (i := 2) (o := ⟨some 68, _, _, _, _, _⟩) (di := some 68) (L := [(some 67, 1)]) (f := Jo.Fact.eq (.bool true)) rfl rfl rfl rfl (fun vs wj hJ hd K hK => ?_) ?_
    · have d1 : (Jo.Fact.eq (.bool true)).P (vs 1) wj := hd 1 (by decide)
      clear hd
      simp only [Jo.putl, Jo.zd, Jo.ze, Act.put, Jo.za, Jo.zb, Jo.zc] at hK ⊢
      generalize vs 1 = u1 at hK d1 ⊢
      replace d1 : u1 = _ := d1
      subst d1
      go_simp
      exact hK.out _ _ rfl (Below.refl _ _)
    refine Jo.jcons (i := 3) (o := ⟨some 69, _, _, _, _, _⟩) (di := some 69) (L := [(some 67, 1), (some 68, 2)]) (f := Jo.Fact.eq (.bool true)) rfl rfl rfl rfl (fun vs wj hJ hd K hK => ?_) ?_
    · have d1 : (Jo.Fact.eq (.bool true)).P (vs 1) wj := hd 1 (by decide)
      have d2 : (Jo.Fact.eq (.bool true)).P (vs 2) wj := hd 2 (by decide)
      clear hd
      simp only [Jo.putl, Jo.zd, Jo.ze, Act.put, Jo.za, Jo.zb, Jo.zc] at hK ⊢
      generalize vs 1 = u1 at hK d1 ⊢
      generalize vs 2 = u2 at hK d2 ⊢
      replace d1 : u1 = _ := d1
      subst d1
      replace d2 : u2 = _ := d2
      subst d2
      go_simp
      exact hK.out _ _ rfl (Below.refl _ _)
    refine Jo.jcons (i := 4) (o := ⟨some 70, _, _, _, _, _⟩) (di := some 70) (L := [(some 69, 3)]) (f := Jo.Fact.eq (.bool true)) rfl rfl rfl rfl (fun vs wj hJ hd K hK => ?_) ?_
    · have d3 : (Jo.Fact.eq (.bool true)).P (vs 3) wj := hd 3 (by decide)
      clear hd
      simp only [Jo.putl, Jo.zd, Jo.ze, Act.put, Jo.za, Jo.zb, Jo.zc] at hK ⊢
      generalize vs 3 = u3 at hK d3 ⊢
      replace d3 : u3 = _ := d3
      subst d3
      go_simp
      exact hK.out _ _ rfl (Below.refl _ _)
    refine Jo.jcons (i := 5) (o := ⟨some 71, _, _, _, _, _⟩) (di := some 71) (L := [(some 70, 4)]) (f := Jo.Fact.eq (.bool true)) rfl rfl rfl rfl (fun vs wj hJ hd K hK => ?_) ?_
    · have d4 : (Jo.Fact.eq (.bool true)).P (vs 4) wj := hd 4 (by decide)
      clear hd
      simp only [Jo.putl, Jo.zd, Jo.ze, Act.put, Jo.za, Jo.zb, Jo.zc] at hK ⊢
      generalize vs 4 = u4 at hK d4 ⊢
      replace d4 : u4 = _ := d4
      subst d4
      go_simp
      exact hK.out _ _ rfl (Below.refl _ _)
    refine Jo.jcons (i := 6) (o := ⟨some 72, _, _, _, _, _⟩) (di := some 72) (L := [(some 70, 4), (some 71, 5)]) (f := Jo.Fact.eq (.bool true)) rfl rfl rfl rfl (fun vs wj hJ hd K hK => ?_) ?_
    · have d4 : (Jo.Fact.eq (.bool true)).P (vs 4) wj := hd 4 (by decide)
      have d5 : (Jo.Fact.eq (.bool true)).P (vs 5) wj := hd 5 (by decide)
      clear hd
      simp only [Jo.putl, Jo.zd, Jo.ze, Act.put, Jo.za, Jo.zb, Jo.zc] at hK ⊢
      generalize vs 4 = u4 at hK d4 ⊢
      generalize vs 5 = u5 at hK d5 ⊢
      replace d4 : u4 = _ := d4
      subst d4
      replace d5 : u5 = _ := d5
      subst d5
      go_simp
      exact hK.out _ _ rfl (Below.refl _ _)
    refine Jo.jcons (i := 7) (o := ⟨some 73, _, _, _, _, _⟩) (di := some 73) (L := [(some 72, 6)]) (f := Jo.Fact.eq (.bool true)) rfl rfl rfl rfl (fun vs wj hJ hd K hK => ?_) ?_
    · have d6 : (Jo.Fact.eq (.bool true)).P (vs 6) wj := hd 6 (by decide)
      clear hd
      simp only [Jo.putl, Jo.zd, Jo.ze, Act.put, Jo.za, Jo.zb, Jo.zc] at hK ⊢
      generalize vs 6 = u6 at hK d6 ⊢
      replace d6 : u6 = _ := d6
      subst d6
      go_simp
      exact hK.out _ _ rfl (Below.refl _ _)
    refine Jo.jcons (i := 8) (o := ⟨some 74, _, _, _, _, _⟩) (di := some 74) (L := [(some 73, 7)]) (f := Jo.Fact.eq (.bool true)) rfl rfl rfl rfl (fun vs wj hJ hd K hK => ?_) ?_
    · have d7 : (Jo.Fact.eq (.bool true)).P (vs 7) wj := hd 7 (by decide)
      clear hd
      simp only [Jo.putl, Jo.zd, Jo.ze, Act.put, Jo.za, Jo.zb, Jo.zc] at hK ⊢
      generalize vs 7 = u7 at hK d7 ⊢
      replace d7 : u7 = _ := d7
      subst d7
      go_simp
      exact hK.out _ _ rfl (Below.refl _ _)
    refine Jo.jcons (i := 9) (o := ⟨some 75, _, _, _, _, _⟩) (di := some 75) (L := [(some 73, 7), (some 74, 8)]) (f := Jo.Fact.eq (.bool true)) rfl rfl rfl rfl (fun vs wj hJ hd K hK => ?_) ?_
    · have d7 : (Jo.Fact.eq (.bool true)).P (vs 7) wj := hd 7 (by decide)
      have d8 : (Jo.Fact.eq (.bool true)).P (vs 8) wj := hd 8 (by decide)
      clear hd
      simp only [Jo.putl, Jo.zd, Jo.ze, Act.put, Jo.za, Jo.zb, Jo.zc] at hK ⊢
      generalize vs 7 = u7 at hK d7 ⊢
      generalize vs 8 = u8 at hK d8 ⊢
      replace d7 : u7 = _ := d7
      subst d7
      replace d8 : u8 = _ := d8
      subst d8
      go_simp
      exact hK.out _ _ rfl (Below.refl _ _)
    refine Jo.jcons (i := 10) (o := ⟨some 76, _, _, _, _, _⟩) (di := some 76) (L := [(some 75, 9)]) (f := Jo.Fact.eq (.bool true)) rfl rfl rfl rfl (fun vs wj hJ hd K hK => ?_) ?_
    · have d9 : (Jo.Fact.eq (.bool true)).P (vs 9) wj := hd 9 (by decide)
      clear hd
      simp only [Jo.putl, Jo.zd, Jo.ze, Act.put, Jo.za, Jo.zb, Jo.zc] at hK ⊢
      generalize vs 9 = u9 at hK d9 ⊢
      replace d9 : u9 = _ := d9
      subst d9
      go_simp
      exact hK.out _ _ rfl (Below.refl _ _)
    refine Jo.jcons (i := 11) (o := ⟨some 77, _, _, _, _, _⟩) (di := some 77) (L := [(some 76, 10)]) (f := Jo.Fact.eq (.agg #[.bool sc, .slice Ac nc cc, .int .i64 Fl])) rfl rfl rfl rfl (fun vs wj hJ hd K hK => ?_) ?_
    · have d10 : (Jo.Fact.eq (.bool true)).P (vs 10) wj := hd 10 (by decide)
      clear hd
      simp only [Jo.putl, Jo.zd, Jo.ze, Act.put, Jo.za, Jo.zb, Jo.zc] at hK ⊢
      generalize vs 10 = u10 at hK d10 ⊢
      replace d10 : u10 = _ := d10
      subst d10
      have xX100 : World.cell? wj ⟨w13.heap.size, 0, none⟩ = some (.bool sc) := (X10.below hJ).cell 0
      have xX101 : World.cell? wj ⟨w13.heap.size, 1, none⟩ = some (.slice Ac nc cc) := (X10.below hJ).cell 1
      have xX102 : World.cell? wj ⟨w13.heap.size, 2, none⟩ = some (.int .i64 Fl) := (X10.below hJ).cell 2
      go_simp
      exact hK.out _ _ rfl (Below.refl _ _)
    refine Jo.jcons (i := 12) (o := ⟨some 78, _, _, _, _, _⟩) (di := some 78) (L := [(some 76, 10)]) (f := Jo.Fact.eq (.agg #[.bool sc, .slice Ac nc cc, .int .i64 Fl])) rfl rfl rfl rfl (fun vs wj hJ hd K hK => ?_) ?_
    · have d10 : (Jo.Fact.eq (.bool true)).P (vs 10) wj := hd 10 (by decide)
      clear hd
      simp only [Jo.putl, Jo.zd, Jo.ze, Act.put, Jo.za, Jo.zb, Jo.zc] at hK ⊢
      generalize vs 10 = u10 at hK d10 ⊢
      replace d10 : u10 = _ := d10
      subst d10
      have xX100 : World.cell? wj ⟨w13.heap.size, 0, none⟩ = some (.bool sc) := (X10.below hJ).cell 0
      have xX101 : World.cell? wj ⟨w13.heap.size, 1, none⟩ = some (.slice Ac nc cc) := (X10.below hJ).cell 1
      have xX102 : World.cell? wj ⟨w13.heap.size, 2, none⟩ = some (.int .i64 Fl) := (X10.below hJ).cell 2
      go_simp
      exact hK.out _ _ rfl (Below.refl _ _)
    refine Jo.jcons (i := 13) (o := ⟨some 79, _, _, _, _, _⟩) (di := some 79) (L := [(some 76, 10), (some 77, 11), (some 78, 12)]) (f := Jo.Fact.dy U5 V5 (1 + 2 * 20000)) rfl rfl rfl rfl (fun vs wj hJ hd K hK => ?_) ?_
    · have d10 : (Jo.Fact.eq (.bool true)).P (vs 10) wj := hd 10 (by decide)
      have d11 : (Jo.Fact.eq (.agg #[.bool sc, .slice Ac nc cc, .int .i64 Fl])).P (vs 11) wj := hd 11 (by decide)
      have d12 : (Jo.Fact.eq (.agg #[.bool sc, .slice Ac nc cc, .int .i64 Fl])).P (vs 12) wj := hd 12 (by decide)
      clear hd
      simp only [Jo.putl, Jo.zd, Jo.ze, Act.put, Jo.za, Jo.zb, Jo.zc] at hK ⊢
      generalize vs 10 = u10 at hK d10 ⊢
      generalize vs 11 = u11 at hK d11 ⊢
      generalize vs 12 = u12 at hK d12 ⊢
      replace d10 : u10 = _ := d10
      subst d10
      replace d11 : u11 = _ := d11
      subst d11
      replace d12 : u12 = _ := d12
      subst d12
      go_simp
      refine (dMul (hT.below hJ) (pc.wr.below hJ) (pc.wr.below hJ) (by omega) (by omega) HPA.out HPB.out).mono ?_
      rintro ee wk ⟨s5, A5, n5, c5, rfl, p5, k5, B⟩
      exact hK.out _ _ ⟨s5, A5, n5, c5, rfl, p5, k5⟩ B
    refine Jo.jcons (i := 14) (o := ⟨some 80, _, _, _, _, _⟩) (di := some 80) (L := [(some 76, 10)]) (f := Jo.Fact.eq (.agg #[.bool sa, .slice Aa na ca, .int .i64 Fx])) rfl rfl rfl rfl (fun vs wj hJ hd K hK => ?_) ?_
    · have d10 : (Jo.Fact.eq (.bool true)).P (vs 10) wj := hd 10 (by decide)
      clear hd
      simp only [Jo.putl, Jo.zd, Jo.ze, Act.put, Jo.za, Jo.zb, Jo.zc] at hK ⊢
      generalize vs 10 = u10 at hK d10 ⊢
      replace d10 : u10 = _ := d10
      subst d10
      have xX40 : World.cell? wj ⟨w3.heap.size, 0, none⟩ = some (.bool sa) := (X4.below hJ).cell 0
      have xX41 : World.cell? wj ⟨w3.heap.size, 1, none⟩ = some (.slice Aa na ca) := (X4.below hJ).cell 1
      have xX42 : World.cell? wj ⟨w3.heap.size, 2, none⟩ = some (.int .i64 Fx) := (X4.below hJ).cell 2
      go_simp
      exact hK.out _ _ rfl (Below.refl _ _)
    refine Jo.jcons (i := 15) (o := ⟨some 81, _, _, _, _, _⟩) (di := some 81) (L := [(some 76, 10), (some 79, 13), (some 80, 14)]) (f := Jo.Fact.eq (.int .i64 κ5)) rfl rfl rfl rfl (fun vs wj hJ hd K hK => ?_) ?_
    · have d10 : (Jo.Fact.eq (.bool true)).P (vs 10) wj := hd 10 (by decide)
      have d13 : (Jo.Fact.dy U5 V5 (1 + 2 * 20000)).P (vs 13) wj := hd 13 (by decide)
      have d14 : (Jo.Fact.eq (.agg #[.bool sa, .slice Aa na ca, .int .i64 Fx])).P (vs 14) wj := hd 14 (by decide)
      clear hd
      simp only [Jo.putl, Jo.zd, Jo.ze, Act.put, Jo.za, Jo.zb, Jo.zc] at hK ⊢
      generalize vs 10 = u10 at hK d10 ⊢
      generalize vs 13 = u13 at hK d13 ⊢
      generalize vs 14 = u14 at hK d14 ⊢
      replace d10 : u10 = _ := d10
      subst d10
      obtain ⟨s5, A5, n5, c5, rfl, p5, k5⟩ := d13
      replace d14 : u14 = _ := d14
      subst d14
      go_simp
      refine (dCmp (r := κ5) (hT.below hJ) p5.wr (pa.wr.below hJ) (by omega) (by omega) HC5.out).mono ?_
      rintro ee wk ⟨rfl, B⟩
      exact hK.out _ _ rfl B
    refine Jo.jcons (i := 16) (o := ⟨some 82, _, _, _, _, _⟩) (di := some 82) (L := [(some 76, 10), (some 81, 15)]) (f := Jo.Fact.eq (.bool true)) rfl rfl rfl rfl (fun vs wj hJ hd K hK => ?_) ?_
    · have d10 : (Jo.Fact.eq (.bool true)).P (vs 10) wj := hd 10 (by decide)
      have d15 : (Jo.Fact.eq (.int .i64 κ5)).P (vs 15) wj := hd 15 (by decide)
      clear hd
      simp only [Jo.putl, Jo.zd, Jo.ze, Act.put, Jo.za, Jo.zb, Jo.zc] at hK ⊢
      generalize vs 10 = u10 at hK d10 ⊢
      generalize vs 15 = u15 at hK d15 ⊢
      replace d10 : u10 = _ := d10
      subst d10
      replace d15 : u15 = _ := d15
      subst d15
      have ht := HT5.out
      go_simp
      exact hK.out _ _ (by first | rfl | (show Value.bool _ = Value.bool _; simp only [ht])) (Below.refl _ _)
    refine Jo.jcons (i := 17) (o := ⟨some 83, _, _, _, _, _⟩) (di := some 83) (L := [(some 76, 10), (some 82, 16)]) (f := Jo.Fact.eq (.bool true)) rfl rfl rfl rfl (fun vs wj hJ hd K hK => ?_) ?_
    · have d10 : (Jo.Fact.eq (.bool true)).P (vs 10) wj := hd 10 (by decide)
      have d16 : (Jo.Fact.eq (.bool true)).P (vs 16) wj := hd 16 (by decide)
      clear hd
      simp only [Jo.putl, Jo.zd, Jo.ze, Act.put, Jo.za, Jo.zb, Jo.zc] at hK ⊢
      generalize vs 10 = u10 at hK d10 ⊢
      generalize vs 16 = u16 at hK d16 ⊢
      replace d10 : u10 = _ := d10
      subst d10
      replace d16 : u16 = _ := d16
      subst d16
      go_simp
      exact hK.out _ _ rfl (Below.refl _ _)
    refine Jo.jcons (i := 18) (o := ⟨some 84, _, _, _, _, _⟩) (di := some 84) (L := [(some 83, 17)]) (f := Jo.Fact.eq (.bool true)) rfl rfl rfl rfl (fun vs wj hJ hd K hK => ?_) ?_
    · have d17 : (Jo.Fact.eq (.bool true)).P (vs 17) wj := hd 17 (by decide)
      clear hd
      simp only [Jo.putl, Jo.zd, Jo.ze, Act.put, Jo.za, Jo.zb, Jo.zc] at hK ⊢
      generalize vs 17 = u17 at hK d17 ⊢
      replace d17 : u17 = _ := d17
      subst d17
      go_simp
      exact hK.out _ _ rfl (Below.refl _ _)
    refine Jo.jcons (i := 19) (o := ⟨some 85, _, _, _, _, _⟩) (di := some 85) (L := [(some 84, 18)]) (f := Jo.Fact.eq (.agg #[.bool sd, .slice Ad nd cd, .int .i64 Fh])) rfl rfl rfl rfl (fun vs wj hJ hd K hK => ?_) ?_
    · have d18 : (Jo.Fact.eq (.bool true)).P (vs 18) wj := hd 18 (by decide)
      clear hd
      simp only [Jo.putl, Jo.zd, Jo.ze, Act.put, Jo.za, Jo.zb, Jo.zc] at hK ⊢
      generalize vs 18 = u18 at hK d18 ⊢
      replace d18 : u18 = _ := d18
      subst d18
      have xX120 : World.cell? wj ⟨w15.heap.size, 0, none⟩ = some (.bool sd) := (X12.below hJ).cell 0
      have xX121 : World.cell? wj ⟨w15.heap.size, 1, none⟩ = some (.slice Ad nd cd) := (X12.below hJ).cell 1
      have xX122 : World.cell? wj ⟨w15.heap.size, 2, none⟩ = some (.int .i64 Fh) := (X12.below hJ).cell 2
      go_simp
      exact hK.out _ _ rfl (Below.refl _ _)
    refine Jo.jcons (i := 20) (o := ⟨some 86, _, _, _, _, _⟩) (di := some 86) (L := [(some 84, 18)]) (f := Jo.Fact.eq (.agg #[.bool sd, .slice Ad nd cd, .int .i64 Fh])) rfl rfl rfl rfl (fun vs wj hJ hd K hK => ?_) ?_
    · have d18 : (Jo.Fact.eq (.bool true)).P (vs 18) wj := hd 18 (by decide)
      clear hd
      simp only [Jo.putl, Jo.zd, Jo.ze, Act.put, Jo.za, Jo.zb, Jo.zc] at hK ⊢
      generalize vs 18 = u18 at hK d18 ⊢
      replace d18 : u18 = _ := d18
      subst d18
      have xX120 : World.cell? wj ⟨w15.heap.size, 0, none⟩ = some (.bool sd) := (X12.below hJ).cell 0
      have xX121 : World.cell? wj ⟨w15.heap.size, 1, none⟩ = some (.slice Ad nd cd) := (X12.below hJ).cell 1
      have xX122 : World.cell? wj ⟨w15.heap.size, 2, none⟩ = some (.int .i64 Fh) := (X12.below hJ).cell 2
      go_simp
      exact hK.out _ _ rfl (Below.refl _ _)
    refine Jo.jcons (i := 21) (o := ⟨some 87, _, _, _, _, _⟩) (di := some 87) (L := [(some 84, 18), (some 85, 19), (some 86, 20)]) (f := Jo.Fact.dy U6 V6 (1 + 2 * 20000)) rfl rfl rfl rfl (fun vs wj hJ hd K hK => ?_) ?_
    · have d18 : (Jo.Fact.eq (.bool true)).P (vs 18) wj := hd 18 (by decide)
      have d19 : (Jo.Fact.eq (.agg #[.bool sd, .slice Ad nd cd, .int .i64 Fh])).P (vs 19) wj := hd 19 (by decide)
      have d20 : (Jo.Fact.eq (.agg #[.bool sd, .slice Ad nd cd, .int .i64 Fh])).P (vs 20) wj := hd 20 (by decide)
      clear hd
      simp only [Jo.putl, Jo.zd, Jo.ze, Act.put, Jo.za, Jo.zb, Jo.zc] at hK ⊢
      generalize vs 18 = u18 at hK d18 ⊢
      generalize vs 19 = u19 at hK d19 ⊢
      generalize vs 20 = u20 at hK d20 ⊢
      replace d18 : u18 = _ := d18
      subst d18
      replace d19 : u19 = _ := d19
      subst d19
      replace d20 : u20 = _ := d20
      subst d20
      go_simp
      refine (dMul (hT.below hJ) (pd.wr.below hJ) (pd.wr.below hJ) (by omega) (by omega) HQA.out HQB.out).mono ?_
      rintro ee wk ⟨s6, A6, n6, c6, rfl, p6, k6, B⟩
      exact hK.out _ _ ⟨s6, A6, n6, c6, rfl, p6, k6⟩ B
    refine Jo.jcons (i := 22) (o := ⟨some 88, _, _, _, _, _⟩) (di := some 88) (L := [(some 84, 18)]) (f := Jo.Fact.eq (.agg #[.bool sa, .slice Aa na ca, .int .i64 Fx])) rfl rfl rfl rfl (fun vs wj hJ hd K hK => ?_) ?_
    · have d18 : (Jo.Fact.eq (.bool true)).P (vs 18) wj := hd 18 (by decide)
      clear hd
      simp only [Jo.putl, Jo.zd, Jo.ze, Act.put, Jo.za, Jo.zb, Jo.zc] at hK ⊢
      generalize vs 18 = u18 at hK d18 ⊢
      replace d18 : u18 = _ := d18
      subst d18
      have xX40 : World.cell? wj ⟨w3.heap.size, 0, none⟩ = some (.bool sa) := (X4.below hJ).cell 0
      have xX41 : World.cell? wj ⟨w3.heap.size, 1, none⟩ = some (.slice Aa na ca) := (X4.below hJ).cell 1
      have xX42 : World.cell? wj ⟨w3.heap.size, 2, none⟩ = some (.int .i64 Fx) := (X4.below hJ).cell 2
      go_simp
      exact hK.out _ _ rfl (Below.refl _ _)
    refine Jo.jcons (i := 23) (o := ⟨some 89, _, _, _, _, _⟩) (di := some 89) (L := [(some 84, 18), (some 87, 21), (some 88, 22)]) (f := Jo.Fact.eq (.int .i64 κ6)) rfl rfl rfl rfl (fun vs wj hJ hd K hK => ?_) ?_
    · have d18 : (Jo.Fact.eq (.bool true)).P (vs 18) wj := hd 18 (by decide)
      have d21 : (Jo.Fact.dy U6 V6 (1 + 2 * 20000)).P (vs 21) wj := hd 21 (by decide)
      have d22 : (Jo.Fact.eq (.agg #[.bool sa, .slice Aa na ca, .int .i64 Fx])).P (vs 22) wj := hd 22 (by decide)
      clear hd
      simp only [Jo.putl, Jo.zd, Jo.ze, Act.put, Jo.za, Jo.zb, Jo.zc] at hK ⊢
      generalize vs 18 = u18 at hK d18 ⊢
      generalize vs 21 = u21 at hK d21 ⊢
      generalize vs 22 = u22 at hK d22 ⊢
      replace d18 : u18 = _ := d18
      subst d18
      obtain ⟨s6, A6, n6, c6, rfl, p6, k6⟩ := d21
      replace d22 : u22 = _ := d22
      subst d22
      go_simp
      refine (dCmp (r := κ6) (hT.below hJ) p6.wr (pa.wr.below hJ) (by omega) (by omega) HC6.out).mono ?_
      rintro ee wk ⟨rfl, B⟩
      exact hK.out _ _ rfl B
    refine Jo.jcons (i := 24) (o := ⟨some 90, _, _, _, _, _⟩) (di := some 90) (L := [(some 84, 18), (some 89, 23)]) (f := Jo.Fact.eq (.bool true)) rfl rfl rfl rfl (fun vs wj hJ hd K hK => ?_) ?_
    · have d18 : (Jo.Fact.eq (.bool true)).P (vs 18) wj := hd 18 (by decide)
      have d23 : (Jo.Fact.eq (.int .i64 κ6)).P (vs 23) wj := hd 23 (by decide)
      clear hd
      simp only [Jo.putl, Jo.zd, Jo.ze, Act.put, Jo.za, Jo.zb, Jo.zc] at hK ⊢
      generalize vs 18 = u18 at hK d18 ⊢
      generalize vs 23 = u23 at hK d23 ⊢
      replace d18 : u18 = _ := d18
      subst d18
      replace d23 : u23 = _ := d23
      subst d23
      have ht := HT6.out
      go_simp
      exact hK.out _ _ (by first | rfl | (show Value.bool _ = Value.bool _; simp only [ht])) (Below.refl _ _)
    refine Jo.jcons (i := 25) (o := ⟨some 91, _, _, _, _, _⟩) (di := some 91) (L := [(some 84, 18), (some 90, 24)]) (f := Jo.Fact.eq (.bool true)) rfl rfl rfl rfl (fun vs wj hJ hd K hK => ?_) ?_
    · have d18 : (Jo.Fact.eq (.bool true)).P (vs 18) wj := hd 18 (by decide)
      have d24 : (Jo.Fact.eq (.bool true)).P (vs 24) wj := hd 24 (by decide)
      clear hd
      simp only [Jo.putl, Jo.zd, Jo.ze, Act.put, Jo.za, Jo.zb, Jo.zc] at hK ⊢
      generalize vs 18 = u18 at hK d18 ⊢
      generalize vs 24 = u24 at hK d24 ⊢
      replace d18 : u18 = _ := d18
      subst d18
      replace d24 : u24 = _ := d24
      subst d24
      go_simp
      exact hK.out _ _ rfl (Below.refl _ _)
    refine Jo.jcons (i := 26) (o := ⟨some 92, _, _, _, _, _⟩) (di := some 92) (L := [(some 91, 25)]) (f := Jo.Fact.eq (.bool true)) rfl rfl rfl rfl (fun vs wj hJ hd K hK => ?_) ?_
    · have d25 : (Jo.Fact.eq (.bool true)).P (vs 25) wj := hd 25 (by decide)
      clear hd
      simp only [Jo.putl, Jo.zd, Jo.ze, Act.put, Jo.za, Jo.zb, Jo.zc] at hK ⊢
      generalize vs 25 = u25 at hK d25 ⊢
      replace d25 : u25 = _ := d25
      subst d25
      go_simp
      exact hK.out _ _ rfl (Below.refl _ _)
    refine Jo.jcons (i := 27) (o := ⟨some 93, _, _, _, _, _⟩) (di := some 93) (L := [(some 92, 26)]) (f := Jo.Fact.eq (.agg #[.int .i64 K3, .bool s3, .int .u64 M3, .int .i64 E3])) rfl rfl rfl rfl (fun vs wj hJ hd K hK => ?_) ?_
    · have d26 : (Jo.Fact.eq (.bool true)).P (vs 26) wj := hd 26 (by decide)
      clear hd
      simp only [Jo.putl, Jo.zd, Jo.ze, Act.put, Jo.za, Jo.zb, Jo.zc] at hK ⊢
      generalize vs 26 = u26 at hK d26 ⊢
      replace d26 : u26 = _ := d26
      subst d26
      have xX60 : World.cell? wj ⟨w5.heap.size, 0, none⟩ = some (.int .i64 K3) := (X6.below hJ).cell 0
      have xX61 : World.cell? wj ⟨w5.heap.size, 1, none⟩ = some (.bool s3) := (X6.below hJ).cell 1
      have xX62 : World.cell? wj ⟨w5.heap.size, 2, none⟩ = some (.int .u64 M3) := (X6.below hJ).cell 2
      have xX63 : World.cell? wj ⟨w5.heap.size, 3, none⟩ = some (.int .i64 E3) := (X6.below hJ).cell 3
      go_simp
      exact hK.out _ _ rfl (Below.refl _ _)
    refine Jo.jcons (i := 28) (o := ⟨some 94, _, _, _, _, _⟩) (di := some 94) (L := [(some 92, 26)]) (f := Jo.Fact.eq (.agg #[.int .i64 K4, .bool s4, .int .u64 M4, .int .i64 E4])) rfl rfl rfl rfl (fun vs wj hJ hd K hK => ?_) ?_
    · have d26 : (Jo.Fact.eq (.bool true)).P (vs 26) wj := hd 26 (by decide)
      clear hd
      simp only [Jo.putl, Jo.zd, Jo.ze, Act.put, Jo.za, Jo.zb, Jo.zc] at hK ⊢
      generalize vs 26 = u26 at hK d26 ⊢
      replace d26 : u26 = _ := d26
      subst d26
      have xX80 : World.cell? wj ⟨w7.heap.size, 0, none⟩ = some (.int .i64 K4) := (X8.below hJ).cell 0
      have xX81 : World.cell? wj ⟨w7.heap.size, 1, none⟩ = some (.bool s4) := (X8.below hJ).cell 1
      have xX82 : World.cell? wj ⟨w7.heap.size, 2, none⟩ = some (.int .u64 M4) := (X8.below hJ).cell 2
      have xX83 : World.cell? wj ⟨w7.heap.size, 3, none⟩ = some (.int .i64 E4) := (X8.below hJ).cell 3
      go_simp
      exact hK.out _ _ rfl (Below.refl _ _)
    refine Jo.jcons (i := 29) (o := ⟨some 95, _, _, _, _, _⟩) (di := some 95) (L := [(some 92, 26), (some 93, 27), (some 94, 28)]) (f := Jo.Fact.eq (.bool false)) rfl rfl rfl rfl (fun vs wj hJ hd K hK => ?_) ?_
    · have d26 : (Jo.Fact.eq (.bool true)).P (vs 26) wj := hd 26 (by decide)
      have d27 : (Jo.Fact.eq (.agg #[.int .i64 K3, .bool s3, .int .u64 M3, .int .i64 E3])).P (vs 27) wj := hd 27 (by decide)
      have d28 : (Jo.Fact.eq (.agg #[.int .i64 K4, .bool s4, .int .u64 M4, .int .i64 E4])).P (vs 28) wj := hd 28 (by decide)
      clear hd
      simp only [Jo.putl, Jo.zd, Jo.ze, Act.put, Jo.za, Jo.zb, Jo.zc] at hK ⊢
      generalize vs 26 = u26 at hK d26 ⊢
      generalize vs 27 = u27 at hK d27 ⊢
      generalize vs 28 = u28 at hK d28 ⊢
      replace d26 : u26 = _ := d26
      subst d26
      replace d27 : u27 = _ := d27
      subst d27
      replace d28 : u28 = _ := d28
      subst d28
      have hnn := fq_ne7 q3 q4 HLH.out
      go_simp
      (repeat' split) <;> first | exact hK.out _ _ rfl (Below.refl _ _) | (exfalso; exact hnn (by assumption) (by assumption) (by assumption) (by assumption))
    refine Jo.jcons (i := 30) (o := ⟨some 96, _, _, _, _, _⟩) (di := some 96) (L := [(some 92, 26), (some 95, 29)]) (f := Jo.Fact.eq (.bool false)) rfl rfl rfl rfl (fun vs wj hJ hd K hK => ?_) ?_
    · have d26 : (Jo.Fact.eq (.bool true)).P (vs 26) wj := hd 26 (by decide)
      have d29 : (Jo.Fact.eq (.bool false)).P (vs 29) wj := hd 29 (by decide)
      clear hd
      simp only [Jo.putl, Jo.zd, Jo.ze, Act.put, Jo.za, Jo.zb, Jo.zc] at hK ⊢
      generalize vs 26 = u26 at hK d26 ⊢
      generalize vs 29 = u29 at hK d29 ⊢
      replace d26 : u26 = _ := d26
      subst d26
      replace d29 : u29 = _ := d29
      subst d29
      go_simp
      exact hK.out _ _ rfl (Below.refl _ _)
    refine Jo.jcons (i := 31) (o := ⟨some 97, _, _, _, _, _⟩) (di := some 97) (L := [(some 96, 30)]) (f := Jo.Fact.eq (.agg #[.int .i64 K3, .bool s3, .int .u64 M3, .int .i64 E3])) rfl rfl rfl rfl (fun vs wj hJ hd K hK => ?_) ?_
    · have d30 : (Jo.Fact.eq (.bool false)).P (vs 30) wj := hd 30 (by decide)
      clear hd
      simp only [Jo.putl, Jo.zd, Jo.ze, Act.put, Jo.za, Jo.zb, Jo.zc] at hK ⊢
      generalize vs 30 = u30 at hK d30 ⊢
      replace d30 : u30 = _ := d30
      subst d30
      have xX60 : World.cell? wj ⟨w5.heap.size, 0, none⟩ = some (.int .i64 K3) := (X6.below hJ).cell 0
      have xX61 : World.cell? wj ⟨w5.heap.size, 1, none⟩ = some (.bool s3) := (X6.below hJ).cell 1
      have xX62 : World.cell? wj ⟨w5.heap.size, 2, none⟩ = some (.int .u64 M3) := (X6.below hJ).cell 2
      have xX63 : World.cell? wj ⟨w5.heap.size, 3, none⟩ = some (.int .i64 E3) := (X6.below hJ).cell 3
      go_simp
      exact hK.out _ _ rfl (Below.refl _ _)
    refine Jo.jcons (i := 32) (o := ⟨some 98, _, _, _, _, _⟩) (di := some 98) (L := [(some 96, 30), (some 97, 31)]) (f := Jo.Fact.num h) rfl rfl rfl rfl (fun vs wj hJ hd K hK => ?_) ?_
    · have d30 : (Jo.Fact.eq (.bool false)).P (vs 30) wj := hd 30 (by decide)
      have d31 : (Jo.Fact.eq (.agg #[.int .i64 K3, .bool s3, .int .u64 M3, .int .i64 E3])).P (vs 31) wj := hd 31 (by decide)
      clear hd
      simp only [Jo.putl, Jo.zd, Jo.ze, Act.put, Jo.za, Jo.zb, Jo.zc] at hK ⊢
      generalize vs 30 = u30 at hK d30 ⊢
      generalize vs 31 = u31 at hK d31 ⊢
      replace d30 : u30 = _ := d30
      subst d30
      replace d31 : u31 = _ := d31
      subst d31
      go_simp
      refine (nNext (up := true) (r := h) q3.top (by rw [q3.rk]; exact HNX.out)).mono ?_
      rintro ee wk ⟨K7, s7, M7, E7, rfl, q7, B⟩
      exact hK.out _ _ ⟨K7, s7, M7, E7, rfl, q7⟩ B
    refine Jo.jcons (i := 33) (o := ⟨some 99, _, _, _, _, _⟩) (di := some 99) (L := [(some 96, 30)]) (f := Jo.Fact.eq (.agg #[.int .i64 K4, .bool s4, .int .u64 M4, .int .i64 E4])) rfl rfl rfl rfl (fun vs wj hJ hd K hK => ?_) ?_
    · have d30 : (Jo.Fact.eq (.bool false)).P (vs 30) wj := hd 30 (by decide)
      clear hd
      simp only [Jo.putl, Jo.zd, Jo.ze, Act.put, Jo.za, Jo.zb, Jo.zc] at hK ⊢
      generalize vs 30 = u30 at hK d30 ⊢
      replace d30 : u30 = _ := d30
      subst d30
      have xX80 : World.cell? wj ⟨w7.heap.size, 0, none⟩ = some (.int .i64 K4) := (X8.below hJ).cell 0
      have xX81 : World.cell? wj ⟨w7.heap.size, 1, none⟩ = some (.bool s4) := (X8.below hJ).cell 1
      have xX82 : World.cell? wj ⟨w7.heap.size, 2, none⟩ = some (.int .u64 M4) := (X8.below hJ).cell 2
      have xX83 : World.cell? wj ⟨w7.heap.size, 3, none⟩ = some (.int .i64 E4) := (X8.below hJ).cell 3
      go_simp
      exact hK.out _ _ rfl (Below.refl _ _)
    refine Jo.jcons (i := 34) (o := ⟨some 100, _, _, _, _, _⟩) (di := some 100) (L := [(some 96, 30), (some 98, 32), (some 99, 33)]) (f := Jo.Fact.eq (.bool true)) rfl rfl rfl rfl (fun vs wj hJ hd K hK => ?_) ?_
    · have d30 : (Jo.Fact.eq (.bool false)).P (vs 30) wj := hd 30 (by decide)
      have d32 : (Jo.Fact.num h).P (vs 32) wj := hd 32 (by decide)
      have d33 : (Jo.Fact.eq (.agg #[.int .i64 K4, .bool s4, .int .u64 M4, .int .i64 E4])).P (vs 33) wj := hd 33 (by decide)
      clear hd
      simp only [Jo.putl, Jo.zd, Jo.ze, Act.put, Jo.za, Jo.zb, Jo.zc] at hK ⊢
      generalize vs 30 = u30 at hK d30 ⊢
      generalize vs 32 = u32 at hK d32 ⊢
      generalize vs 33 = u33 at hK d33 ⊢
      replace d30 : u30 = _ := d30
      subst d30
      obtain ⟨K7, s7, M7, E7, rfl, q7⟩ := d32
      replace d33 : u33 = _ := d33
      subst d33
      obtain ⟨rfl, rfl, rfl, rfl⟩ := q7.uniq q4
      go_simp
      exact hK.out _ _ (by first | rfl | (show Value.bool _ = Value.bool _; simp)) (Below.refl _ _)
    refine Jo.jcons (i := 35) (o := ⟨some 101, _, _, _, _, _⟩) (di := some 101) (L := [(some 92, 26), (some 96, 30), (some 100, 34)]) (f := Jo.Fact.eq (.bool true)) rfl rfl rfl rfl (fun vs wj hJ hd K hK => ?_) ?_
    · have d26 : (Jo.Fact.eq (.bool true)).P (vs 26) wj := hd 26 (by decide)
      have d30 : (Jo.Fact.eq (.bool false)).P (vs 30) wj := hd 30 (by decide)
      have d34 : (Jo.Fact.eq (.bool true)).P (vs 34) wj := hd 34 (by decide)
      clear hd
      simp only [Jo.putl, Jo.zd, Jo.ze, Act.put, Jo.za, Jo.zb, Jo.zc] at hK ⊢
      generalize vs 26 = u26 at hK d26 ⊢
      generalize vs 30 = u30 at hK d30 ⊢
      generalize vs 34 = u34 at hK d34 ⊢
      replace d26 : u26 = _ := d26
      subst d26
      replace d30 : u30 = _ := d30
      subst d30
      replace d34 : u34 = _ := d34
      subst d34
      go_simp
      exact hK.out _ _ rfl (Below.refl _ _)
    refine Jo.jcons (i := 36) (o := ⟨some 102, _, _, _, _, _⟩) (di := some 102) (L := [(some 92, 26), (some 101, 35)]) (f := Jo.Fact.eq (.bool true)) rfl rfl rfl rfl (fun vs wj hJ hd K hK => ?_) ?_
    · have d26 : (Jo.Fact.eq (.bool true)).P (vs 26) wj := hd 26 (by decide)
      have d35 : (Jo.Fact.eq (.bool true)).P (vs 35) wj := hd 35 (by decide)
      clear hd
      simp only [Jo.putl, Jo.zd, Jo.ze, Act.put, Jo.za, Jo.zb, Jo.zc] at hK ⊢
      generalize vs 26 = u26 at hK d26 ⊢
      generalize vs 35 = u35 at hK d35 ⊢
      replace d26 : u26 = _ := d26
      subst d26
      replace d35 : u35 = _ := d35
      subst d35
      go_simp
      exact hK.out _ _ rfl (Below.refl _ _)
    refine Jo.jcons (i := 37) (o := ⟨some 2, _, _, _, _, _⟩) (di := some 2) (L := [(some 102, 36)]) (f := Jo.Fact.eq (.bool true)) rfl rfl rfl rfl (fun vs wj hJ hd K hK => ?_) ?_
    · have d36 : (Jo.Fact.eq (.bool true)).P (vs 36) wj := hd 36 (by decide)
      clear hd
      simp only [Jo.putl, Jo.zd, Jo.ze, Act.put, Jo.za, Jo.zb, Jo.zc] at hK ⊢
      generalize vs 36 = u36 at hK d36 ⊢
      replace d36 : u36 = _ := d36
      subst d36
      go_simp
      exact hK.out _ _ rfl (Below.refl _ _)
    exact Jo.Steps.nil
  have d0 : (Jo.Fact.eq (.bool true)).P (vs 0) w17 := hd 0 (by decide)
  have d1 : (Jo.Fact.eq (.bool true)).P (vs 1) w17 := hd 1 (by decide)
  have d2 : (Jo.Fact.eq (.bool true)).P (vs 2) w17 := hd 2 (by decide)
  have d3 : (Jo.Fact.eq (.bool true)).P (vs 3) w17 := hd 3 (by decide)
  have d4 : (Jo.Fact.eq (.bool true)).P (vs 4) w17 := hd 4 (by decide)
  have d5 : (Jo.Fact.eq (.bool true)).P (vs 5) w17 := hd 5 (by decide)
  have d6 : (Jo.Fact.eq (.bool true)).P (vs 6) w17 := hd 6 (by decide)
  have d7 : (Jo.Fact.eq (.bool true)).P (vs 7) w17 := hd 7 (by decide)
  have d8 : (Jo.Fact.eq (.bool true)).P (vs 8) w17 := hd 8 (by decide)
  have d9 : (Jo.Fact.eq (.bool true)).P (vs 9) w17 := hd 9 (by decide)
  have d10 : (Jo.Fact.eq (.bool true)).P (vs 10) w17 := hd 10 (by decide)
  have d11 : (Jo.Fact.eq (.agg #[.bool sc, .slice Ac nc cc, .int .i64 Fl])).P (vs 11) w17 := hd 11 (by decide)
  have d12 : (Jo.Fact.eq (.agg #[.bool sc, .slice Ac nc cc, .int .i64 Fl])).P (vs 12) w17 := hd 12 (by decide)
  have d13 : (Jo.Fact.dy U5 V5 (1 + 2 * 20000)).P (vs 13) w17 := hd 13 (by decide)
  have d14 : (Jo.Fact.eq (.agg #[.bool sa, .slice Aa na ca, .int .i64 Fx])).P (vs 14) w17 := hd 14 (by decide)
  have d15 : (Jo.Fact.eq (.int .i64 κ5)).P (vs 15) w17 := hd 15 (by decide)
  have d16 : (Jo.Fact.eq (.bool true)).P (vs 16) w17 := hd 16 (by decide)
  have d17 : (Jo.Fact.eq (.bool true)).P (vs 17) w17 := hd 17 (by decide)
  have d18 : (Jo.Fact.eq (.bool true)).P (vs 18) w17 := hd 18 (by decide)
  have d19 : (Jo.Fact.eq (.agg #[.bool sd, .slice Ad nd cd, .int .i64 Fh])).P (vs 19) w17 := hd 19 (by decide)
  have d20 : (Jo.Fact.eq (.agg #[.bool sd, .slice Ad nd cd, .int .i64 Fh])).P (vs 20) w17 := hd 20 (by decide)
  have d21 : (Jo.Fact.dy U6 V6 (1 + 2 * 20000)).P (vs 21) w17 := hd 21 (by decide)
  have d22 : (Jo.Fact.eq (.agg #[.bool sa, .slice Aa na ca, .int .i64 Fx])).P (vs 22) w17 := hd 22 (by decide)
  have d23 : (Jo.Fact.eq (.int .i64 κ6)).P (vs 23) w17 := hd 23 (by decide)
  have d24 : (Jo.Fact.eq (.bool true)).P (vs 24) w17 := hd 24 (by decide)
  have d25 : (Jo.Fact.eq (.bool true)).P (vs 25) w17 := hd 25 (by decide)
  have d26 : (Jo.Fact.eq (.bool true)).P (vs 26) w17 := hd 26 (by decide)
  have d27 : (Jo.Fact.eq (.agg #[.int .i64 K3, .bool s3, .int .u64 M3, .int .i64 E3])).P (vs 27) w17 := hd 27 (by decide)
  have d28 : (Jo.Fact.eq (.agg #[.int .i64 K4, .bool s4, .int .u64 M4, .int .i64 E4])).P (vs 28) w17 := hd 28 (by decide)
  have d29 : (Jo.Fact.eq (.bool false)).P (vs 29) w17 := hd 29 (by decide)
  have d30 : (Jo.Fact.eq (.bool false)).P (vs 30) w17 := hd 30 (by decide)
  have d31 : (Jo.Fact.eq (.agg #[.int .i64 K3, .bool s3, .int .u64 M3, .int .i64 E3])).P (vs 31) w17 := hd 31 (by decide)
  have d32 : (Jo.Fact.num h).P (vs 32) w17 := hd 32 (by decide)
  have d33 : (Jo.Fact.eq (.agg #[.int .i64 K4, .bool s4, .int .u64 M4, .int .i64 E4])).P (vs 33) w17 := hd 33 (by decide)
  have d34 : (Jo.Fact.eq (.bool true)).P (vs 34) w17 := hd 34 (by decide)
  have d35 : (Jo.Fact.eq (.bool true)).P (vs 35) w17 := hd 35 (by decide)
  have d36 : (Jo.Fact.eq (.bool true)).P (vs 36) w17 := hd 36 (by decide)
  have d37 : (Jo.Fact.eq (.bool true)).P (vs 37) w17 := hd 37 (by decide)
  clear hd
  simp only [Jo.putl, Jo.zd, Jo.ze, Act.put, Jo.za, Jo.zb, Jo.zc]
  generalize vs 0 = u0 at d0 ⊢
  generalize vs 1 = u1 at d1 ⊢
  generalize vs 2 = u2 at d2 ⊢
  generalize vs 3 = u3 at d3 ⊢
  generalize vs 4 = u4 at d4 ⊢
  generalize vs 5 = u5 at d5 ⊢
  generalize vs 6 = u6 at d6 ⊢
  generalize vs 7 = u7 at d7 ⊢
  generalize vs 8 = u8 at d8 ⊢
  generalize vs 9 = u9 at d9 ⊢
  generalize vs 10 = u10 at d10 ⊢
  generalize vs 11 = u11 at d11 ⊢
  generalize vs 12 = u12 at d12 ⊢
  generalize vs 13 = u13 at d13 ⊢
  generalize vs 14 = u14 at d14 ⊢
  generalize vs 15 = u15 at d15 ⊢
  generalize vs 16 = u16 at d16 ⊢
  generalize vs 17 = u17 at d17 ⊢
  generalize vs 18 = u18 at d18 ⊢
  generalize vs 19 = u19 at d19 ⊢
  generalize vs 20 = u20 at d20 ⊢
  generalize vs 21 = u21 at d21 ⊢
  generalize vs 22 = u22 at d22 ⊢
  generalize vs 23 = u23 at d23 ⊢
  generalize vs 24 = u24 at d24 ⊢
  generalize vs 25 = u25 at d25 ⊢
  generalize vs 26 = u26 at d26 ⊢
  generalize vs 27 = u27 at d27 ⊢
  generalize vs 28 = u28 at d28 ⊢
  generalize vs 29 = u29 at d29 ⊢
  generalize vs 30 = u30 at d30 ⊢
  generalize vs 31 = u31 at d31 ⊢
  generalize vs 32 = u32 at d32 ⊢
  generalize vs 33 = u33 at d33 ⊢
  generalize vs 34 = u34 at d34 ⊢
  generalize vs 35 = u35 at d35 ⊢
  generalize vs 36 = u36 at d36 ⊢
  generalize vs 37 = u37 at d37 ⊢
  clear vs
  replace d0 : u0 = _ := d0
  subst d0
  replace d1 : u1 = _ := d1
  subst d1
  replace d2 : u2 = _ := d2
  subst d2
  replace d3 : u3 = _ := d3
  subst d3
  replace d4 : u4 = _ := d4
  subst d4
  replace d5 : u5 = _ := d5
  subst d5
  replace d6 : u6 = _ := d6
  subst d6
  replace d7 : u7 = _ := d7
  subst d7
  replace d8 : u8 = _ := d8
  subst d8
  replace d9 : u9 = _ := d9
  subst d9
  replace d10 : u10 = _ := d10
  subst d10
  replace d11 : u11 = _ := d11
  subst d11
  replace d12 : u12 = _ := d12
  subst d12
  obtain ⟨s5, A5, n5, c5, rfl, _, _⟩ := d13
  replace d14 : u14 = _ := d14
  subst d14
  replace d15 : u15 = _ := d15
  subst d15
  replace d16 : u16 = _ := d16
  subst d16
  replace d17 : u17 = _ := d17
  subst d17
  replace d18 : u18 = _ := d18
  subst d18
  replace d19 : u19 = _ := d19
  subst d19
  replace d20 : u20 = _ := d20
  subst d20
  obtain ⟨s6, A6, n6, c6, rfl, _, _⟩ := d21
  replace d22 : u22 = _ := d22
  subst d22
  replace d23 : u23 = _ := d23
  subst d23
  replace d24 : u24 = _ := d24
  subst d24
  replace d25 : u25 = _ := d25
  subst d25
  replace d26 : u26 = _ := d26
  subst d26
  replace d27 : u27 = _ := d27
  subst d27
  replace d28 : u28 = _ := d28
  subst d28
  replace d29 : u29 = _ := d29
  subst d29
  replace d30 : u30 = _ := d30
  subst d30
  replace d31 : u31 = _ := d31
  subst d31
  obtain ⟨K7, s7, M7, E7, rfl, _⟩ := d32
  replace d33 : u33 = _ := d33
  subst d33
  replace d34 : u34 = _ := d34
  subst d34
  replace d35 : u35 = _ := d35
  subst d35
  replace d36 : u36 = _ := d36
  subst d36
  replace d37 : u37 = _ := d37
  subst d37
  replace X0 := X0.below hJ
  replace X4 := X4.below hJ
  replace X6 := X6.below hJ
  replace X8 := X8.below hJ
  replace X10 := X10.below hJ
  replace X12 := X12.below hJ
  replace hT := hT.below hJ
  replace pa := pa.below hJ
  replace pc := pc.below hJ
  replace pd := pd.below hJ
  replace HB := Lib.hid (bt HB.out hJ)
  refine Jo.jdone (by kernel_rfl) ?_
  go_wp2
  go_ret
  exact ⟨rfl, HB.out⟩

theorem quotSquares_walk (D0 : Int) (s0 : Bool) (M0 E0 : Int) (w : World) (hT : Tab w) (w0 : 0 ≤ M0) (u0 : M0 < 18446744073709551616) :
    Calls Tryd.prog 4 #[.agg #[.int .i64 D0, .bool s0, .int .u64 M0, .int .i64 E0]] w fun e w' => e = .returned (.bool true) ∧ Below w.heap.size w w' := by
  cases ha : exb D0 s0 M0 E0
  · exact quotSquares_far0 D0 s0 M0 E0 w hT w0 u0 ha
  by_cases g0 : 1500 < E0
  · exact quotSquares_far1 D0 s0 M0 E0 w hT w0 u0 ha g0
  by_cases g1 : E0 < -1500
  · exact quotSquares_far2 D0 s0 M0 E0 w hT w0 u0 ha g0 g1
  obtain ⟨σ, hσ⟩ : ∃ σ, cmpI (rk D0 s0 M0 E0) 0 = σ := ⟨_, rfl⟩
  by_cases g2 : σ < 0
  · exact quotSquares_neg D0 s0 M0 E0 w _ σ hT w0 u0 ha g0 g1 rfl hσ g2
  obtain ⟨x1, x2, fx, _⟩ := few_exact u0 rfl ha g0 g1
  have x0 := nn_of_sign hσ g2
  obtain ⟨l, tl, hl⟩ := ro_ex7 false x0
  obtain ⟨h, th, hh⟩ := ro_ex7 true x0
  obtain rfl := ro_t (by omega) x0 l tl hl
  obtain rfl := ro_t (by omega) x0 h th hh
  obtain ⟨_, _, _, _, _, _, e | e⟩ := ro_holds x0 x2 fx hl hh
  · exact quotSquares_same D0 s0 M0 E0 w _ l h σ hT w0 u0 ha g0 g1 rfl hσ g2 hl hh e
  · exact quotSquares_next D0 s0 M0 E0 w _ l h σ hT w0 u0 ha g0 g1 rfl hσ g2 hl hh e
end Go.Proofs.YtpmakljahhhnfaaDoor

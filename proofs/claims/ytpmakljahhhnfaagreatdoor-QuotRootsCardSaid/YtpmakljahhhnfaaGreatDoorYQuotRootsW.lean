/-
  The walk of QuotRoots: for all arguments, where the table lies as it was laid, the call answers true, and nothing that was there has turned.
-/
import Derived.Test.YtpmakljahhhnfaaGreatDoorYAaz
import Derived.Test.YtpmakljahhhnfaaGreatDoorYAbd
import Derived.Test.YtpmakljahhhnfaaGreatDoorYAbo
namespace Go.Proofs.YtpmakljahhhnfaaGreatDoor
open Go.RowKit
set_option linter.unusedVariables false
set_option linter.unusedSimpArgs false
set_option maxRecDepth 100000

set_option maxHeartbeats 8000000 in
theorem quotRoots_main (D0 : Int) (s0 : Bool) (M0 E0 : Int) (b1 : Bool) (w : World) (hT : Tab w) (u0 : M0 < 18446744073709551616) :
    Calls Tryz.prog 4 #[.agg #[.int .i64 D0, .bool s0, .int .u64 M0, .int .i64 E0], .bool b1] w (PB w true) := by
  obtain ⟨x, hx⟩ : ∃ x, rk D0 s0 M0 E0 = x := ⟨_, rfl⟩
  obtain ⟨r, t, hr⟩ := ro_ex b1 x
  have HX := Lib.hid hx
  have HR := Lib.hid hr
  clear hx hr
  go_enter Tryz.func4, Tryz.ntmps4
  go_upto_region 1 with (fail)
  have X0 := (Bo.newAt w (g := w.heap.size) (by simp) #[.int .i64 D0, .bool s0, .int .u64 M0, .int .i64 E0] 24)
  have HB := Lib.hid (bel1 w (.cells #[.int .i64 D0, .bool s0, .int .u64 M0, .int .i64 E0] 24))
  replace hT := hT.below HB.out
  generalize hW1 : (w.alloc (.cells #[.int .i64 D0, .bool s0, .int .u64 M0, .int .i64 E0] 24)) = w1 at *
  clear hW1
  go_wp2_with fail
  refine (awake7 hT).mono ?_
  rintro ee w2 ⟨rfl, B⟩
  replace X0 := X0.below B
  replace hT := hT.below B
  replace HB := Lib.hid (bt HB.out B)
  clear B
  have xX00 := X0.a 0 (.int .i64 D0) rfl
  have xX01 := X0.a 1 (.bool s0) rfl
  have xX02 := X0.a 2 (.int .u64 M0) rfl
  have xX03 := X0.a 3 (.int .i64 E0) rfl
  go_wp2_with fail
  refine (kRoot hT u0 HX.out HR.out).mono ?_
  rintro ee w3 ⟨K3, s3, M3, E3, rfl, q3, B⟩
  clear xX00 xX01 xX02 xX03
  replace X0 := X0.below B
  replace hT := hT.below B
  replace HB := Lib.hid (bt HB.out B)
  clear B
  clear hT
  go_upto_region 3 with (fail)
  have lX6 := Nat.le_refl (World.heap w3).size
  have nX6X0 := X0.lt
  replace X0 := X0.below (bel1 _ (.cells #[.int .i64 K3, .bool s3, .int .u64 M3, .int .i64 E3] 24))
  replace HB := Lib.hid (bt HB.out (bel1 _ (.cells #[.int .i64 K3, .bool s3, .int .u64 M3, .int .i64 E3] 24)))
  have X6 := Bo.new w3 #[.int .i64 K3, .bool s3, .int .u64 M3, .int .i64 E3] 24
  generalize hWn : World.alloc w3 (.cells #[.int .i64 K3, .bool s3, .int .u64 M3, .int .i64 E3] 24) = w4 at *
  clear hWn
  clear lX6
  have xX00 := X0.a 0 (.int .i64 D0) rfl
  have xX01 := X0.a 1 (.bool s0) rfl
  have xX02 := X0.a 2 (.int .u64 M0) rfl
  have xX03 := X0.a 3 (.int .i64 E0) rfl
  go_wp2_with fail
  refine (jRoot u0 HX.out HR.out).mono ?_
  rintro ee w5 ⟨K4, s4, M4, E4, rfl, q4, B⟩
  clear xX00 xX01 xX02 xX03
  replace X0 := X0.below B
  replace X6 := X6.below B
  replace HB := Lib.hid (bt HB.out B)
  clear B
  obtain ⟨rfl, rfl, rfl, rfl⟩ := q3.uniq q4
  clear q4
  go_upto_region 4 with (fail)
  have lX8 := Nat.le_refl (World.heap w5).size
  have nX8X0 := X0.lt
  have nX8X6 := X6.lt
  replace X0 := X0.below (bel1 _ (.cells #[.int .i64 K3, .bool s3, .int .u64 M3, .int .i64 E3] 24))
  replace X6 := X6.below (bel1 _ (.cells #[.int .i64 K3, .bool s3, .int .u64 M3, .int .i64 E3] 24))
  replace HB := Lib.hid (bt HB.out (bel1 _ (.cells #[.int .i64 K3, .bool s3, .int .u64 M3, .int .i64 E3] 24)))
  have X8 := Bo.new w5 #[.int .i64 K3, .bool s3, .int .u64 M3, .int .i64 E3] 24
  generalize hWn : World.alloc w5 (.cells #[.int .i64 K3, .bool s3, .int .u64 M3, .int .i64 E3] 24) = w6 at *
  clear hWn
  clear lX8
  have xX60 := X6.a 0 (.int .i64 K3) rfl
  have xX61 := X6.a 1 (.bool s3) rfl
  have xX62 := X6.a 2 (.int .u64 M3) rfl
  have xX63 := X6.a 3 (.int .i64 E3) rfl
  have xX80 := X8.a 0 (.int .i64 K3) rfl
  have xX81 := X8.a 1 (.bool s3) rfl
  have xX82 := X8.a 2 (.int .u64 M3) rfl
  have xX83 := X8.a 3 (.int .i64 E3) rfl
  go_wp2_with fail
  refine (nMay (r := true) (decide_eq_true q3.1)).mono ?_
  rintro ee w7 ⟨rfl, B⟩
  clear xX60 xX61 xX62 xX63 xX80 xX81 xX82 xX83
  replace X0 := X0.below B
  replace X6 := X6.below B
  replace X8 := X8.below B
  replace HB := Lib.hid (bt HB.out B)
  clear B
  go_wp2
  go_ret
  exact ⟨rfl, HB.out⟩

theorem quotRoots_walk (D0 : Int) (s0 : Bool) (M0 E0 : Int) (b1 : Bool) (w : World) (hT : Tab w) (w0 : 0 ≤ M0) (u0 : M0 < 18446744073709551616)  :
    Calls Tryz.prog 4 #[.agg #[.int .i64 D0, .bool s0, .int .u64 M0, .int .i64 E0], .bool b1] w fun e w' => e = .returned (.bool true) ∧ Below w.heap.size w w' := by
  exact quotRoots_main D0 s0 M0 E0 b1 w hT u0
end Go.Proofs.YtpmakljahhhnfaaGreatDoor

/-
  The walk of DecimalParses: for all arguments, where the table lies as it was laid, the call answers true, and nothing that was there has turned.
-/
import Derived.Test.YtdfnjhkcicnkpaaGreatDoorZbf
import Derived.Test.YtdfnjhkcicnkpaaGreatDoorZbg
namespace Go.Proofs.YtdfnjhkcicnkpaaGreatDoor
open Go.RowKit
set_option linter.unusedVariables false
set_option linter.unusedSimpArgs false
set_option maxRecDepth 100000

set_option maxHeartbeats 2000000 in
theorem decimalParses_long (l0 : List UInt8) (w : World) (hT : Pt w) (hl : 300 < l0.length) :
    Calls Tryz.prog 3 #[.string (st l0)] w (PB w true) := by
  have hsz : (st l0).size = l0.length := st_size l0
  obtain ⟨d, hd⟩ : ∃ d, l0.length = d := ⟨_, rfl⟩
  rw [hd] at hsz hl
  have t1 : decide ((300 : Int) < (d : Int)) = true := by simp; omega
  clear hd
  go_enter Tryz.func3, Tryz.ntmps3
  have HB := Lib.hid (Below.refl w.heap.size w)
  go_wp2_with fail
  refine (awake4 _ hT).mono ?_
  rintro ee w2 ⟨rfl, B⟩
  replace hT := hT.below B
  replace HB := Lib.hid (bt HB.out B)
  clear B
  go_wp2
  go_ret
  exact ⟨rfl, HB.out⟩

set_option maxHeartbeats 4000000 in
theorem decimalParses_main (l0 : List UInt8) (w : World) (hT : Pt w) (hl : l0.length ≤ 300) (z t x : Int) (hp : tparse l0 = ((z, t), x)) :
    Calls Tryz.prog 3 #[.string (st l0)] w (PB w true) := by
  have hsz : (st l0).size = l0.length := st_size l0
  obtain ⟨d, hd⟩ : ∃ d, l0.length = d := ⟨_, rfl⟩
  rw [hd] at hsz hl
  have t1 : decide ((300 : Int) < (d : Int)) = false := by simp; omega
  have HP := Lib.hid (fun w => vParseE w hp)
  have HQ := Lib.hid (fun w => uParseE w hp)
  clear hd hp
  go_enter Tryz.func3, Tryz.ntmps3
  have HB := Lib.hid (Below.refl w.heap.size w)
  go_wp2_with fail
  refine (awake4 _ hT).mono ?_
  rintro ee w2 ⟨rfl, B⟩
  replace hT := hT.below B
  replace HB := Lib.hid (bt HB.out B)
  clear B
  go_wp2_with fail
  refine (HP.out _).mono ?_
  rintro ee w3 ⟨s3, A3, n3, c3, rfl, p3, k3, B⟩
  replace hT := hT.below B
  replace HB := Lib.hid (bt HB.out B)
  clear B
  go_upto_region 5 with (fail)
  have lXa := Nat.le_refl (World.heap w3).size
  replace hT := hT.below (bel1 _ (.cells #[.bool s3, .slice A3 n3 c3, .int .i64 t] 27))
  replace p3 := p3.below (bel1 _ (.cells #[.bool s3, .slice A3 n3 c3, .int .i64 t] 27))
  replace HB := Lib.hid (bt HB.out (bel1 _ (.cells #[.bool s3, .slice A3 n3 c3, .int .i64 t] 27)))
  have Xa := Bo.new w3 #[.bool s3, .slice A3 n3 c3, .int .i64 t] 27
  generalize hWn : World.alloc w3 (.cells #[.bool s3, .slice A3 n3 c3, .int .i64 t] 27) = w4 at *
  clear hWn
  go_wp2_with fail
  refine (HQ.out _).mono ?_
  rintro ee w5 ⟨s4, A4, n4, c4, rfl, p4, k4, B⟩
  replace Xa := Xa.below B
  replace hT := hT.below B
  replace p3 := p3.below B
  replace HB := Lib.hid (bt HB.out B)
  clear B
  go_upto_region 6 with (fail)
  have lXb := Nat.le_refl (World.heap w5).size
  have nXbXa := Xa.lt
  replace Xa := Xa.below (bel1 _ (.cells #[.bool s4, .slice A4 n4 c4, .int .i64 t] 27))
  replace hT := hT.below (bel1 _ (.cells #[.bool s4, .slice A4 n4 c4, .int .i64 t] 27))
  replace p3 := p3.below (bel1 _ (.cells #[.bool s4, .slice A4 n4 c4, .int .i64 t] 27))
  replace p4 := p4.below (bel1 _ (.cells #[.bool s4, .slice A4 n4 c4, .int .i64 t] 27))
  replace HB := Lib.hid (bt HB.out (bel1 _ (.cells #[.bool s4, .slice A4 n4 c4, .int .i64 t] 27)))
  have Xb := Bo.new w5 #[.bool s4, .slice A4 n4 c4, .int .i64 t] 27
  generalize hWn : World.alloc w5 (.cells #[.bool s4, .slice A4 n4 c4, .int .i64 t] 27) = w6 at *
  clear hWn
  have xXa0 := Xa.at (i := 0) (v := .bool s3) rfl
  have xXa1 := Xa.at (i := 1) (v := .slice A3 n3 c3) rfl
  have xXa2 := Xa.at (i := 2) (v := .int .i64 t) rfl
  have xXb0 := Xb.at (i := 0) (v := .bool s4) rfl
  have xXb1 := Xb.at (i := 1) (v := .slice A4 n4 c4) rfl
  have xXb2 := Xb.at (i := 2) (v := .int .i64 t) rfl
  go_wp2_with fail
  refine (uAlike p3 p4).mono ?_
  rintro ee w7 ⟨rfl, B⟩
  clear xXa0 xXa1 xXa2 xXb0 xXb1 xXb2
  replace Xa := Xa.below B
  replace Xb := Xb.below B
  replace hT := hT.below B
  replace p3 := p3.below B
  replace p4 := p4.below B
  replace HB := Lib.hid (bt HB.out B)
  clear B
  go_wp2
  go_ret
  exact ⟨rfl, HB.out⟩

theorem decimalParses_walk (l0 : List UInt8) (w : World) (hT : Pt w) :
    Calls Tryz.prog 3 #[.string (st l0)] w fun e w' => e = .returned (.bool true) ∧ Below w.heap.size w w' := by
  by_cases hl : l0.length ≤ 300
  · exact decimalParses_main l0 w hT hl _ _ _ rfl
  · exact decimalParses_long l0 w hT (by omega)
end Go.Proofs.YtdfnjhkcicnkpaaGreatDoor

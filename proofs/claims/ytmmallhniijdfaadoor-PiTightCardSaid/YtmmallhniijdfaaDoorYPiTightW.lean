/-
  The walk of PiTight: for all arguments the call answers true, and nothing that was there has turned.
-/
import Derived.Test.YtmmallhniijdfaaDoorYAbc
namespace Go.Proofs.YtmmallhniijdfaaDoor
set_option maxHeartbeats 8000000
open Go.RowKit
set_option linter.unusedVariables false
set_option linter.unusedSimpArgs false
set_option maxRecDepth 100000
theorem piTight_far (n0 : Int) (w : World) (hT : Tab w) (h : n0 < 2 ∨ 999 < n0) :
   Calls Tryd.prog 4 #[.int .i64 n0] w (PB w true) := by
 have HH := Lib.hid h; clear h
 go_enter Tryd.func4, Tryd.ntmps4
 have HB := Lib.hid (Below.refl w.heap.size w)
 go_wp2_with fail
 refine (awake11 hT).mono ?_; rintro ee w2 ⟨rfl, B⟩; replace hT := hT.below B; replace HB := Hqb HB B; clear B; clear hT
 by_cases c0 : n0 < 2
 · have t0 : decide (n0 < 2) = true := decide_eq_true c0
   go_wp2
   go_ret
   exact ⟨rfl, HB.out⟩
 · have t0 : decide (n0 < 2) = false := decide_eq_false c0
   have t1 : decide ((999 : Int) < n0) = true := decide_eq_true (by have := HH.out; omega)
   go_wp2
   go_ret
   exact ⟨rfl, HB.out⟩
theorem piTight_main (n0 : Int) (w : World) (hT : Tab w) (h1 : 2 ≤ n0) (h2 : n0 ≤ 999) (a b c d : Int) (hr : invP n0 = (a, b)) (hr2 : invP (n0 + 1) = (c, d)) (e1 : a < b) (e2 : b - a < 400) (e3 : d < a) (e4 : 0 < c) :
   Calls Tryd.prog 4 #[.int .i64 n0] w (PB w true) := by
 have t0 : decide (n0 < 2) = false := decide_eq_false (by omega)
 have t1 : decide ((999 : Int) < n0) = false := decide_eq_false (by omega)
 have HR := Lib.hid hr; have HR2 := Lib.hid hr2
 have HW : Hid (IntKind.i64.wrap (n0 + 1) = n0 + 1) := Lib.hid (IntWalk.i64_in _ (by omega))
 have HW2 : Hid (wrap64 (n0 + 1) = n0 + 1) := Lib.hid (IntWalk.wrap64_in _ (by omega))
 have C1 : Hid (cmpI a b = -1) := Lib.hid (cmpI_lt e1)
 have C2 : Hid (cmpI (b - a) 400 = -1) := Lib.hid (cmpI_lt e2)
 have C3 : Hid (cmpI d a = -1) := Lib.hid (cmpI_lt e3)
 have C4 : Hid (cmpI c 0 = 1) := Lib.hid (cmpI_gt e4)
 clear hr hr2 e1 e2 e3 e4 h1 h2
 go_enter Tryd.func4, Tryd.ntmps4
 have HB := Lib.hid (Below.refl w.heap.size w)
 go_wp2_with fail
 refine (awake11 hT).mono ?_; rintro ee w2 ⟨rfl, B⟩; replace hT := hT.below B; replace HB := Hqb HB B; clear B; clear hT
 go_wp2_with fail
 refine (cInv HR.out).mono ?_; rintro ee w3 ⟨s11, A11, n11, c11, s12, A12, n12, c12, rfl, p11, p12, k11, k12, B⟩; replace HB := Hqb HB B; clear B; have hsz11 := HB.out.size
 go_upto_region 5 with (fail)
 have e4X5 : (World.alloc w3 (.cells #[.bool s11, .slice A11 n11 c11] 28)).heap.size = w3.heap.size + 1 := by simp
 have lX4 := Nat.le_refl (World.heap w3).size; have BX := bel1 w3 (.cells #[.bool s11, .slice A11 n11 c11] 28); replace p11 := p11.below BX; replace p12 := p12.below BX; replace HB := Lib.hid (bt HB.out BX); have X4 := Bo.new w3 #[.bool s11, .slice A11 n11 c11] 28; generalize hWn : World.alloc w3 (.cells #[.bool s11, .slice A11 n11 c11] 28) = w4 at *
 clear hWn; have lX5 := Nat.le_refl (World.heap w4).size; have nX5X4 := X4.lt; generalize hWn : w4.alloc _ = w5 at *; obtain ⟨X5, BW⟩ := Bo.nw hWn; clear hWn; replace X4 := X4.below BW; replace p11 := p11.below BW; replace p12 := p12.below BW; replace HB := Hqb HB BW; clear BW; rw [e4X5] at X5; clear lX4 lX5 e4X5; clear t0 t1; have hw := HW.out; have hw2 := HW2.out
 go_wp2_with fail
 refine (cInv HR2.out).mono ?_; rintro ee w6 ⟨s13, A13, n13, c13, s14, A14, n14, c14, rfl, p13, p14, k13, k14, B⟩; replace X4 := X4.below B; replace X5 := X5.below B; replace p11 := p11.below B; replace p12 := p12.below B; replace HB := Hqb HB B; clear B; have hsz13 := HB.out.size
 go_upto_region 6 with (fail)
 have e4X7 : (World.alloc w6 (.cells #[.bool s13, .slice A13 n13 c13] 28)).heap.size = w6.heap.size + 1 := by simp
 have lX6 := Nat.le_refl (World.heap w6).size; have nX6X4 := X4.lt; have nX6X5 := X5.lt; have BX := bel1 w6 (.cells #[.bool s13, .slice A13 n13 c13] 28); replace X4 := X4.below BX; replace X5 := X5.below BX; replace p11 := p11.below BX; replace p12 := p12.below BX
 replace p13 := p13.below BX; replace p14 := p14.below BX; replace HB := Lib.hid (bt HB.out BX); have X6 := Bo.new w6 #[.bool s13, .slice A13 n13 c13] 28; generalize hWn : World.alloc w6 (.cells #[.bool s13, .slice A13 n13 c13] 28) = w7 at *; clear hWn
 have lX7 := Nat.le_refl (World.heap w7).size; have nX7X4 := X4.lt; have nX7X5 := X5.lt; have nX7X6 := X6.lt; generalize hWn : w7.alloc _ = w8 at *; obtain ⟨X7, BW⟩ := Bo.nw hWn; clear hWn; replace X4 := X4.below BW; replace X5 := X5.below BW; replace X6 := X6.below BW; replace p11 := p11.below BW; replace p12 := p12.below BW; replace p13 := p13.below BW; replace p14 := p14.below BW; replace HB := Hqb HB BW
 clear BW; rw [e4X7] at X7; clear lX6 lX7 e4X7; clear hw hw2; have xX4 := X4.cell; have xX5 := X5.cell
 go_wp2_with fail
 refine (wCmp p11.wr p12.wr C1.out).mono ?_; rintro ee w9 ⟨rfl, B⟩; clear xX4 xX5; replace X4 := X4.below B; replace X5 := X5.below B; replace X6 := X6.below B; replace X7 := X7.below B; replace p11 := p11.below B; replace p12 := p12.below B; replace p13 := p13.below B; replace p14 := p14.below B; replace HB := Hqb HB B; clear B; have xX4 := X4.cell; have xX5 := X5.cell
 go_wp2_with fail
 refine (wSub p12.wr p11.wr (by omega) (by omega) rfl).mono ?_; rintro ee wA ⟨s15, A15, n15, c15, rfl, p15, k15, B⟩; clear xX4 xX5; replace X4 := X4.below B; replace X5 := X5.below B; replace X6 := X6.below B; replace X7 := X7.below B; replace p11 := p11.below B; replace p12 := p12.below B; replace p13 := p13.below B; replace p14 := p14.below B; replace HB := Hqb HB B; clear B
 go_wp2_with fail
 refine (wFrom 400 _ (by decide) (by decide)).mono ?_; rintro ee wB ⟨s16, A16, n16, c16, rfl, p16, k16, B⟩; replace X4 := X4.below B; replace X5 := X5.below B; replace X6 := X6.below B; replace X7 := X7.below B; replace p11 := p11.below B; replace p12 := p12.below B; replace p13 := p13.below B; replace p14 := p14.below B; replace p15 := p15.below B; replace HB := Hqb HB B; clear B
 go_wp2_with fail
 refine (wCmp p15.wr p16.wr C2.out).mono ?_; rintro ee wC ⟨rfl, B⟩; replace X4 := X4.below B; replace X5 := X5.below B; replace X6 := X6.below B; replace X7 := X7.below B; replace p11 := p11.below B; replace p12 := p12.below B; replace p13 := p13.below B; replace p14 := p14.below B; replace p15 := p15.below B; replace p16 := p16.below B; replace HB := Hqb HB B; clear B; have xX7 := X7.cell
 have xX4 := X4.cell
 go_wp2_with fail
 refine (wCmp p14.wr p11.wr C3.out).mono ?_; rintro ee wD ⟨rfl, B⟩; clear xX7 xX4; replace X4 := X4.below B; replace X5 := X5.below B; replace X6 := X6.below B; replace X7 := X7.below B; replace p11 := p11.below B; replace p12 := p12.below B; replace p13 := p13.below B; replace p14 := p14.below B; replace p15 := p15.below B; replace p16 := p16.below B; replace HB := Hqb HB B
 clear B; have xX6 := X6.cell
 go_wp2_with fail
 refine (wSign p13.wr C4.out).mono ?_; rintro ee wE ⟨rfl, B⟩; clear xX6; replace X4 := X4.below B; replace X5 := X5.below B; replace X6 := X6.below B; replace X7 := X7.below B; replace p11 := p11.below B; replace p12 := p12.below B; replace p13 := p13.below B; replace p14 := p14.below B; replace p15 := p15.below B; replace p16 := p16.below B; replace HB := Hqb HB B; clear B; go_wp2
 go_ret
 exact ⟨rfl, HB.out⟩
theorem piTight_walk (n0 : Int) (w : World) (hT : Tab w) (w0 : (Lit.int .i64 n0).wf = true) :
   Calls Tryd.prog 4 #[.int .i64 n0] w fun e w' => e = .returned (.bool true) ∧ Below w.heap.size w w' := by
 by_cases h : 2 ≤ n0 ∧ n0 ≤ 999
 · obtain ⟨e1, e2, e3, e4⟩ := inv_tight h.1 h.2; exact piTight_main n0 w hT h.1 h.2 _ _ _ _ rfl rfl e1 e2 e3 e4
 · exact piTight_far n0 w hT (by omega)
end Go.Proofs.YtmmallhniijdfaaDoor

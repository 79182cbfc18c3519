/-
  The walk of ArithHolds: for all arguments, where the tables lie as they were laid, the call answers true, and nothing that was there has turned.
-/
import Derived.Below
import Derived.BigQuiet
import Derived.Carry
import Derived.Deep.DeepCutAuto
import Derived.Deep.Draws
import Derived.Deep.MidRow
import Derived.Deep.QuietTactic
import Derived.Deep.RegionHeld3
import Derived.Deep.RegionWith
import Derived.IntWalk
import Derived.Laws.CopyOwn
import Derived.Laws.MakeOwn
import Derived.Laws.OwnMore
import Derived.Laws.Rows
import Derived.Lib.BitFns
import Derived.Lib.Hide
import Derived.Maps.AppendAt
import Derived.StillTailTactics
import Derived.Test.YtbhnpmkdmnnclaaDoorRows
import Derived.WalkKit
import Derived.WalkLawsBesides
import Derived.WalkSpells
import Derived.Test.YtbhnpmkdmnnclaaDoorYCas
import Derived.Test.YtbhnpmkdmnnclaaDoorYCat
import Derived.Test.YtbhnpmkdmnnclaaDoorYCay
import Derived.Test.YtbhnpmkdmnnclaaDoorYCaz
import Derived.Test.YtbhnpmkdmnnclaaDoorYCbb
namespace Go.Proofs.YtbhnpmkdmnnclaaDoor
open Go.RowKit
set_option linter.unusedVariables false
set_option linter.unusedSimpArgs false
set_option maxRecDepth 100000

set_option maxHeartbeats 8000000 in
theorem arithHolds_far0 (D0 : Int) (s0 : Bool) (M0 E0 : Int) (D1 : Int) (s1 : Bool) (M1 E1 : Int) (w : World) (q a b : Bool) (hT : Tb w) (hT2 : Tab w) (v0 : 0 ≤ M0) (u0 : M0 < 18446744073709551616) (v1 : 0 ≤ M1) (u1 : M1 < 18446744073709551616) (hp : fewq D0 E0 = false) (hq : fewq D1 E1 = q) (ha : exb D0 s0 M0 E0 = a) (hb : exb D1 s1 M1 E1 = b) :
    Calls Tryd.prog 6 #[.agg #[.int .i64 D0, .bool s0, .int .u64 M0, .int .i64 E0], .agg #[.int .i64 D1, .bool s1, .int .u64 M1, .int .i64 E1]] w (PB w true) := by
  obtain ⟨N1, hN1⟩ : ∃ N, (exq D0 s0 M0 E0).1 = N := ⟨_, rfl⟩
  obtain ⟨F1, hF1⟩ : ∃ N, (exq D0 s0 M0 E0).2 = N := ⟨_, rfl⟩
  obtain ⟨N2, hN2⟩ : ∃ N, (exq D1 s1 M1 E1).1 = N := ⟨_, rfl⟩
  obtain ⟨F2, hF2⟩ : ∃ N, (exq D1 s1 M1 E1).2 = N := ⟨_, rfl⟩
  have HP := Lib.hid hp
  have HQ := Lib.hid hq
  have HA := Lib.hid ha
  have HB1 := Lib.hid hb
  have HN1 := Lib.hid hN1
  have HF1 := Lib.hid hF1
  have HN2 := Lib.hid hN2
  have HF2 := Lib.hid hF2
  clear hp hq ha hb hN1 hF1 hN2 hF2
  go_enter Tryd.func6, Tryd.ntmps6
  go_upto_region 1 with (fail)
  have X0 := (Bo.newAt w (g := w.heap.size) (by simp) #[.int .i64 D0, .bool s0, .int .u64 M0, .int .i64 E0] 24).below (bel1 _ (.cells #[.int .i64 D1, .bool s1, .int .u64 M1, .int .i64 E1] 24))
  have X1 := (Bo.newAt (w.alloc (.cells #[.int .i64 D0, .bool s0, .int .u64 M0, .int .i64 E0] 24)) (g := w.heap.size + 1) (by simp) #[.int .i64 D1, .bool s1, .int .u64 M1, .int .i64 E1] 24)
  have HB := Lib.hid (bel2 w (.cells #[.int .i64 D0, .bool s0, .int .u64 M0, .int .i64 E0] 24) (.cells #[.int .i64 D1, .bool s1, .int .u64 M1, .int .i64 E1] 24))
  replace hT := hT.below HB.out
  replace hT2 := hT2.below HB.out
  generalize hW1 : ((w.alloc (.cells #[.int .i64 D0, .bool s0, .int .u64 M0, .int .i64 E0] 24)).alloc (.cells #[.int .i64 D1, .bool s1, .int .u64 M1, .int .i64 E1] 24)) = w1 at *
  clear hW1
  go_wp2_with fail
  refine (awake6 hT).mono ?_
  rintro ee w2 ⟨rfl, B⟩
  replace X0 := X0.below B
  replace X1 := X1.below B
  replace hT := hT.below B
  replace hT2 := hT2.below B
  replace HB := Lib.hid (bt HB.out B)
  clear B
  have xX00 := X0.at (i := 0) (v := .int .i64 D0) rfl
  have xX01 := X0.at (i := 1) (v := .bool s0) rfl
  have xX02 := X0.at (i := 2) (v := .int .u64 M0) rfl
  have xX03 := X0.at (i := 3) (v := .int .i64 E0) rfl
  go_wp2_with fail
  refine (aFew (r := false) HP.out).mono ?_
  rintro ee w3 ⟨rfl, B⟩
  clear xX00 xX01 xX02 xX03
  replace X0 := X0.below B
  replace X1 := X1.below B
  replace hT := hT.below B
  replace hT2 := hT2.below B
  replace HB := Lib.hid (bt HB.out B)
  clear B
  have xX10 := X1.at (i := 0) (v := .int .i64 D1) rfl
  have xX11 := X1.at (i := 1) (v := .bool s1) rfl
  have xX12 := X1.at (i := 2) (v := .int .u64 M1) rfl
  have xX13 := X1.at (i := 3) (v := .int .i64 E1) rfl
  go_wp2_with fail
  refine (aFew (r := q) HQ.out).mono ?_
  rintro ee w4 ⟨rfl, B⟩
  clear xX10 xX11 xX12 xX13
  replace X0 := X0.below B
  replace X1 := X1.below B
  replace hT := hT.below B
  replace hT2 := hT2.below B
  replace HB := Lib.hid (bt HB.out B)
  clear B
  have xX00 := X0.at (i := 0) (v := .int .i64 D0) rfl
  have xX01 := X0.at (i := 1) (v := .bool s0) rfl
  have xX02 := X0.at (i := 2) (v := .int .u64 M0) rfl
  have xX03 := X0.at (i := 3) (v := .int .i64 E0) rfl
  go_wp2_with fail
  refine (nExact (t := a) hT2 v0 u0 HA.out HN1.out HF1.out).mono ?_
  rintro ee w5 ⟨sa, Aa, na, ca, rfl, pa, ka, B⟩
  clear xX00 xX01 xX02 xX03
  replace X0 := X0.below B
  replace X1 := X1.below B
  replace hT := hT.below B
  replace hT2 := hT2.below B
  replace HB := Lib.hid (bt HB.out B)
  clear B
  go_upto_region 5 with (fail)
  have lX8 := Nat.le_refl (World.heap w5).size
  have nX8X0 := X0.lt
  have nX8X1 := X1.lt
  replace X0 := X0.below (bel1 _ (.cells #[.bool sa, .slice Aa na ca, .int .i64 F1] 39))
  replace X1 := X1.below (bel1 _ (.cells #[.bool sa, .slice Aa na ca, .int .i64 F1] 39))
  replace hT := hT.below (bel1 _ (.cells #[.bool sa, .slice Aa na ca, .int .i64 F1] 39))
  replace hT2 := hT2.below (bel1 _ (.cells #[.bool sa, .slice Aa na ca, .int .i64 F1] 39))
  replace pa := pa.below (bel1 _ (.cells #[.bool sa, .slice Aa na ca, .int .i64 F1] 39))
  replace HB := Lib.hid (bt HB.out (bel1 _ (.cells #[.bool sa, .slice Aa na ca, .int .i64 F1] 39)))
  have X8 := Bo.new w5 #[.bool sa, .slice Aa na ca, .int .i64 F1] 39
  generalize hWn : World.alloc w5 (.cells #[.bool sa, .slice Aa na ca, .int .i64 F1] 39) = w6 at *
  clear hWn
  clear lX8
  have xX10 := X1.at (i := 0) (v := .int .i64 D1) rfl
  have xX11 := X1.at (i := 1) (v := .bool s1) rfl
  have xX12 := X1.at (i := 2) (v := .int .u64 M1) rfl
  have xX13 := X1.at (i := 3) (v := .int .i64 E1) rfl
  go_wp2_with fail
  refine (nExact (t := b) hT2 v1 u1 HB1.out HN2.out HF2.out).mono ?_
  rintro ee w7 ⟨sb, Ab, nb, cb, rfl, pb, kb, B⟩
  clear xX10 xX11 xX12 xX13
  replace X0 := X0.below B
  replace X1 := X1.below B
  replace X8 := X8.below B
  replace hT := hT.below B
  replace hT2 := hT2.below B
  replace pa := pa.below B
  replace HB := Lib.hid (bt HB.out B)
  clear B
  go_upto_region 6 with (fail)
  have lX10 := Nat.le_refl (World.heap w7).size
  have nX10X0 := X0.lt
  have nX10X1 := X1.lt
  have nX10X8 := X8.lt
  replace X0 := X0.below (bel1 _ (.cells #[.bool sb, .slice Ab nb cb, .int .i64 F2] 39))
  replace X1 := X1.below (bel1 _ (.cells #[.bool sb, .slice Ab nb cb, .int .i64 F2] 39))
  replace X8 := X8.below (bel1 _ (.cells #[.bool sb, .slice Ab nb cb, .int .i64 F2] 39))
  replace hT := hT.below (bel1 _ (.cells #[.bool sb, .slice Ab nb cb, .int .i64 F2] 39))
  replace hT2 := hT2.below (bel1 _ (.cells #[.bool sb, .slice Ab nb cb, .int .i64 F2] 39))
  replace pa := pa.below (bel1 _ (.cells #[.bool sb, .slice Ab nb cb, .int .i64 F2] 39))
  replace pb := pb.below (bel1 _ (.cells #[.bool sb, .slice Ab nb cb, .int .i64 F2] 39))
  replace HB := Lib.hid (bt HB.out (bel1 _ (.cells #[.bool sb, .slice Ab nb cb, .int .i64 F2] 39)))
  have X10 := Bo.new w7 #[.bool sb, .slice Ab nb cb, .int .i64 F2] 39
  generalize hWn : World.alloc w7 (.cells #[.bool sb, .slice Ab nb cb, .int .i64 F2] 39) = w8 at *
  clear hWn
  clear lX10
  go_wp2
  go_ret
  exact ⟨rfl, HB.out⟩
set_option maxHeartbeats 8000000 in
theorem arithHolds_far1 (D0 : Int) (s0 : Bool) (M0 E0 : Int) (D1 : Int) (s1 : Bool) (M1 E1 : Int) (w : World) (a b : Bool) (hT : Tb w) (hT2 : Tab w) (v0 : 0 ≤ M0) (u0 : M0 < 18446744073709551616) (v1 : 0 ≤ M1) (u1 : M1 < 18446744073709551616) (hp : fewq D0 E0 = true) (hq : fewq D1 E1 = false) (ha : exb D0 s0 M0 E0 = a) (hb : exb D1 s1 M1 E1 = b) :
    Calls Tryd.prog 6 #[.agg #[.int .i64 D0, .bool s0, .int .u64 M0, .int .i64 E0], .agg #[.int .i64 D1, .bool s1, .int .u64 M1, .int .i64 E1]] w (PB w true) := by
  obtain ⟨N1, hN1⟩ : ∃ N, (exq D0 s0 M0 E0).1 = N := ⟨_, rfl⟩
  obtain ⟨F1, hF1⟩ : ∃ N, (exq D0 s0 M0 E0).2 = N := ⟨_, rfl⟩
  obtain ⟨N2, hN2⟩ : ∃ N, (exq D1 s1 M1 E1).1 = N := ⟨_, rfl⟩
  obtain ⟨F2, hF2⟩ : ∃ N, (exq D1 s1 M1 E1).2 = N := ⟨_, rfl⟩
  have HP := Lib.hid hp
  have HQ := Lib.hid hq
  have HA := Lib.hid ha
  have HB1 := Lib.hid hb
  have HN1 := Lib.hid hN1
  have HF1 := Lib.hid hF1
  have HN2 := Lib.hid hN2
  have HF2 := Lib.hid hF2
  clear hp hq ha hb hN1 hF1 hN2 hF2
  go_enter Tryd.func6, Tryd.ntmps6
  go_upto_region 1 with (fail)
  have X0 := (Bo.newAt w (g := w.heap.size) (by simp) #[.int .i64 D0, .bool s0, .int .u64 M0, .int .i64 E0] 24).below (bel1 _ (.cells #[.int .i64 D1, .bool s1, .int .u64 M1, .int .i64 E1] 24))
  have X1 := (Bo.newAt (w.alloc (.cells #[.int .i64 D0, .bool s0, .int .u64 M0, .int .i64 E0] 24)) (g := w.heap.size + 1) (by simp) #[.int .i64 D1, .bool s1, .int .u64 M1, .int .i64 E1] 24)
  have HB := Lib.hid (bel2 w (.cells #[.int .i64 D0, .bool s0, .int .u64 M0, .int .i64 E0] 24) (.cells #[.int .i64 D1, .bool s1, .int .u64 M1, .int .i64 E1] 24))
  replace hT := hT.below HB.out
  replace hT2 := hT2.below HB.out
  generalize hW1 : ((w.alloc (.cells #[.int .i64 D0, .bool s0, .int .u64 M0, .int .i64 E0] 24)).alloc (.cells #[.int .i64 D1, .bool s1, .int .u64 M1, .int .i64 E1] 24)) = w1 at *
  clear hW1
  go_wp2_with fail
  refine (awake6 hT).mono ?_
  rintro ee w2 ⟨rfl, B⟩
  replace X0 := X0.below B
  replace X1 := X1.below B
  replace hT := hT.below B
  replace hT2 := hT2.below B
  replace HB := Lib.hid (bt HB.out B)
  clear B
  have xX00 := X0.at (i := 0) (v := .int .i64 D0) rfl
  have xX01 := X0.at (i := 1) (v := .bool s0) rfl
  have xX02 := X0.at (i := 2) (v := .int .u64 M0) rfl
  have xX03 := X0.at (i := 3) (v := .int .i64 E0) rfl
  go_wp2_with fail
  refine (aFew (r := true) HP.out).mono ?_
  rintro ee w3 ⟨rfl, B⟩
  clear xX00 xX01 xX02 xX03
  replace X0 := X0.below B
  replace X1 := X1.below B
  replace hT := hT.below B
  replace hT2 := hT2.below B
  replace HB := Lib.hid (bt HB.out B)
  clear B
  have xX10 := X1.at (i := 0) (v := .int .i64 D1) rfl
  have xX11 := X1.at (i := 1) (v := .bool s1) rfl
  have xX12 := X1.at (i := 2) (v := .int .u64 M1) rfl
  have xX13 := X1.at (i := 3) (v := .int .i64 E1) rfl
  go_wp2_with fail
  refine (aFew (r := false) HQ.out).mono ?_
  rintro ee w4 ⟨rfl, B⟩
  clear xX10 xX11 xX12 xX13
  replace X0 := X0.below B
  replace X1 := X1.below B
  replace hT := hT.below B
  replace hT2 := hT2.below B
  replace HB := Lib.hid (bt HB.out B)
  clear B
  have xX00 := X0.at (i := 0) (v := .int .i64 D0) rfl
  have xX01 := X0.at (i := 1) (v := .bool s0) rfl
  have xX02 := X0.at (i := 2) (v := .int .u64 M0) rfl
  have xX03 := X0.at (i := 3) (v := .int .i64 E0) rfl
  go_wp2_with fail
  refine (nExact (t := a) hT2 v0 u0 HA.out HN1.out HF1.out).mono ?_
  rintro ee w5 ⟨sa, Aa, na, ca, rfl, pa, ka, B⟩
  clear xX00 xX01 xX02 xX03
  replace X0 := X0.below B
  replace X1 := X1.below B
  replace hT := hT.below B
  replace hT2 := hT2.below B
  replace HB := Lib.hid (bt HB.out B)
  clear B
  go_upto_region 5 with (fail)
  have lX8 := Nat.le_refl (World.heap w5).size
  have nX8X0 := X0.lt
  have nX8X1 := X1.lt
  replace X0 := X0.below (bel1 _ (.cells #[.bool sa, .slice Aa na ca, .int .i64 F1] 39))
  replace X1 := X1.below (bel1 _ (.cells #[.bool sa, .slice Aa na ca, .int .i64 F1] 39))
  replace hT := hT.below (bel1 _ (.cells #[.bool sa, .slice Aa na ca, .int .i64 F1] 39))
  replace hT2 := hT2.below (bel1 _ (.cells #[.bool sa, .slice Aa na ca, .int .i64 F1] 39))
  replace pa := pa.below (bel1 _ (.cells #[.bool sa, .slice Aa na ca, .int .i64 F1] 39))
  replace HB := Lib.hid (bt HB.out (bel1 _ (.cells #[.bool sa, .slice Aa na ca, .int .i64 F1] 39)))
  have X8 := Bo.new w5 #[.bool sa, .slice Aa na ca, .int .i64 F1] 39
  generalize hWn : World.alloc w5 (.cells #[.bool sa, .slice Aa na ca, .int .i64 F1] 39) = w6 at *
  clear hWn
  clear lX8
  have xX10 := X1.at (i := 0) (v := .int .i64 D1) rfl
  have xX11 := X1.at (i := 1) (v := .bool s1) rfl
  have xX12 := X1.at (i := 2) (v := .int .u64 M1) rfl
  have xX13 := X1.at (i := 3) (v := .int .i64 E1) rfl
  go_wp2_with fail
  refine (nExact (t := b) hT2 v1 u1 HB1.out HN2.out HF2.out).mono ?_
  rintro ee w7 ⟨sb, Ab, nb, cb, rfl, pb, kb, B⟩
  clear xX10 xX11 xX12 xX13
  replace X0 := X0.below B
  replace X1 := X1.below B
  replace X8 := X8.below B
  replace hT := hT.below B
  replace hT2 := hT2.below B
  replace pa := pa.below B
  replace HB := Lib.hid (bt HB.out B)
  clear B
  go_upto_region 6 with (fail)
  have lX10 := Nat.le_refl (World.heap w7).size
  have nX10X0 := X0.lt
  have nX10X1 := X1.lt
  have nX10X8 := X8.lt
  replace X0 := X0.below (bel1 _ (.cells #[.bool sb, .slice Ab nb cb, .int .i64 F2] 39))
  replace X1 := X1.below (bel1 _ (.cells #[.bool sb, .slice Ab nb cb, .int .i64 F2] 39))
  replace X8 := X8.below (bel1 _ (.cells #[.bool sb, .slice Ab nb cb, .int .i64 F2] 39))
  replace hT := hT.below (bel1 _ (.cells #[.bool sb, .slice Ab nb cb, .int .i64 F2] 39))
  replace hT2 := hT2.below (bel1 _ (.cells #[.bool sb, .slice Ab nb cb, .int .i64 F2] 39))
  replace pa := pa.below (bel1 _ (.cells #[.bool sb, .slice Ab nb cb, .int .i64 F2] 39))
  replace pb := pb.below (bel1 _ (.cells #[.bool sb, .slice Ab nb cb, .int .i64 F2] 39))
  replace HB := Lib.hid (bt HB.out (bel1 _ (.cells #[.bool sb, .slice Ab nb cb, .int .i64 F2] 39)))
  have X10 := Bo.new w7 #[.bool sb, .slice Ab nb cb, .int .i64 F2] 39
  generalize hWn : World.alloc w7 (.cells #[.bool sb, .slice Ab nb cb, .int .i64 F2] 39) = w8 at *
  clear hWn
  clear lX10
  go_wp2
  go_ret
  exact ⟨rfl, HB.out⟩
set_option maxHeartbeats 8000000 in
theorem arithHolds_far2 (D0 : Int) (s0 : Bool) (M0 E0 : Int) (D1 : Int) (s1 : Bool) (M1 E1 : Int) (w : World) (b : Bool) (hT : Tb w) (hT2 : Tab w) (v0 : 0 ≤ M0) (u0 : M0 < 18446744073709551616) (v1 : 0 ≤ M1) (u1 : M1 < 18446744073709551616) (hp : fewq D0 E0 = true) (hq : fewq D1 E1 = true) (ha : exb D0 s0 M0 E0 = false) (hb : exb D1 s1 M1 E1 = b) :
    Calls Tryd.prog 6 #[.agg #[.int .i64 D0, .bool s0, .int .u64 M0, .int .i64 E0], .agg #[.int .i64 D1, .bool s1, .int .u64 M1, .int .i64 E1]] w (PB w true) := by
  obtain ⟨N1, hN1⟩ : ∃ N, (exq D0 s0 M0 E0).1 = N := ⟨_, rfl⟩
  obtain ⟨F1, hF1⟩ : ∃ N, (exq D0 s0 M0 E0).2 = N := ⟨_, rfl⟩
  obtain ⟨N2, hN2⟩ : ∃ N, (exq D1 s1 M1 E1).1 = N := ⟨_, rfl⟩
  obtain ⟨F2, hF2⟩ : ∃ N, (exq D1 s1 M1 E1).2 = N := ⟨_, rfl⟩
  have HP := Lib.hid hp
  have HQ := Lib.hid hq
  have HA := Lib.hid ha
  have HB1 := Lib.hid hb
  have HN1 := Lib.hid hN1
  have HF1 := Lib.hid hF1
  have HN2 := Lib.hid hN2
  have HF2 := Lib.hid hF2
  clear hp hq ha hb hN1 hF1 hN2 hF2
  go_enter Tryd.func6, Tryd.ntmps6
  go_upto_region 1 with (fail)
  have X0 := (Bo.newAt w (g := w.heap.size) (by simp) #[.int .i64 D0, .bool s0, .int .u64 M0, .int .i64 E0] 24).below (bel1 _ (.cells #[.int .i64 D1, .bool s1, .int .u64 M1, .int .i64 E1] 24))
  have X1 := (Bo.newAt (w.alloc (.cells #[.int .i64 D0, .bool s0, .int .u64 M0, .int .i64 E0] 24)) (g := w.heap.size + 1) (by simp) #[.int .i64 D1, .bool s1, .int .u64 M1, .int .i64 E1] 24)
  have HB := Lib.hid (bel2 w (.cells #[.int .i64 D0, .bool s0, .int .u64 M0, .int .i64 E0] 24) (.cells #[.int .i64 D1, .bool s1, .int .u64 M1, .int .i64 E1] 24))
  replace hT := hT.below HB.out
  replace hT2 := hT2.below HB.out
  generalize hW1 : ((w.alloc (.cells #[.int .i64 D0, .bool s0, .int .u64 M0, .int .i64 E0] 24)).alloc (.cells #[.int .i64 D1, .bool s1, .int .u64 M1, .int .i64 E1] 24)) = w1 at *
  clear hW1
  go_wp2_with fail
  refine (awake6 hT).mono ?_
  rintro ee w2 ⟨rfl, B⟩
  replace X0 := X0.below B
  replace X1 := X1.below B
  replace hT := hT.below B
  replace hT2 := hT2.below B
  replace HB := Lib.hid (bt HB.out B)
  clear B
  have xX00 := X0.at (i := 0) (v := .int .i64 D0) rfl
  have xX01 := X0.at (i := 1) (v := .bool s0) rfl
  have xX02 := X0.at (i := 2) (v := .int .u64 M0) rfl
  have xX03 := X0.at (i := 3) (v := .int .i64 E0) rfl
  go_wp2_with fail
  refine (aFew (r := true) HP.out).mono ?_
  rintro ee w3 ⟨rfl, B⟩
  clear xX00 xX01 xX02 xX03
  replace X0 := X0.below B
  replace X1 := X1.below B
  replace hT := hT.below B
  replace hT2 := hT2.below B
  replace HB := Lib.hid (bt HB.out B)
  clear B
  have xX10 := X1.at (i := 0) (v := .int .i64 D1) rfl
  have xX11 := X1.at (i := 1) (v := .bool s1) rfl
  have xX12 := X1.at (i := 2) (v := .int .u64 M1) rfl
  have xX13 := X1.at (i := 3) (v := .int .i64 E1) rfl
  go_wp2_with fail
  refine (aFew (r := true) HQ.out).mono ?_
  rintro ee w4 ⟨rfl, B⟩
  clear xX10 xX11 xX12 xX13
  replace X0 := X0.below B
  replace X1 := X1.below B
  replace hT := hT.below B
  replace hT2 := hT2.below B
  replace HB := Lib.hid (bt HB.out B)
  clear B
  have xX00 := X0.at (i := 0) (v := .int .i64 D0) rfl
  have xX01 := X0.at (i := 1) (v := .bool s0) rfl
  have xX02 := X0.at (i := 2) (v := .int .u64 M0) rfl
  have xX03 := X0.at (i := 3) (v := .int .i64 E0) rfl
  go_wp2_with fail
  refine (nExact (t := false) hT2 v0 u0 HA.out HN1.out HF1.out).mono ?_
  rintro ee w5 ⟨sa, Aa, na, ca, rfl, pa, ka, B⟩
  clear xX00 xX01 xX02 xX03
  replace X0 := X0.below B
  replace X1 := X1.below B
  replace hT := hT.below B
  replace hT2 := hT2.below B
  replace HB := Lib.hid (bt HB.out B)
  clear B
  go_upto_region 5 with (fail)
  have lX8 := Nat.le_refl (World.heap w5).size
  have nX8X0 := X0.lt
  have nX8X1 := X1.lt
  replace X0 := X0.below (bel1 _ (.cells #[.bool sa, .slice Aa na ca, .int .i64 F1] 39))
  replace X1 := X1.below (bel1 _ (.cells #[.bool sa, .slice Aa na ca, .int .i64 F1] 39))
  replace hT := hT.below (bel1 _ (.cells #[.bool sa, .slice Aa na ca, .int .i64 F1] 39))
  replace hT2 := hT2.below (bel1 _ (.cells #[.bool sa, .slice Aa na ca, .int .i64 F1] 39))
  replace pa := pa.below (bel1 _ (.cells #[.bool sa, .slice Aa na ca, .int .i64 F1] 39))
  replace HB := Lib.hid (bt HB.out (bel1 _ (.cells #[.bool sa, .slice Aa na ca, .int .i64 F1] 39)))
  have X8 := Bo.new w5 #[.bool sa, .slice Aa na ca, .int .i64 F1] 39
  generalize hWn : World.alloc w5 (.cells #[.bool sa, .slice Aa na ca, .int .i64 F1] 39) = w6 at *
  clear hWn
  clear lX8
  have xX10 := X1.at (i := 0) (v := .int .i64 D1) rfl
  have xX11 := X1.at (i := 1) (v := .bool s1) rfl
  have xX12 := X1.at (i := 2) (v := .int .u64 M1) rfl
  have xX13 := X1.at (i := 3) (v := .int .i64 E1) rfl
  go_wp2_with fail
  refine (nExact (t := b) hT2 v1 u1 HB1.out HN2.out HF2.out).mono ?_
  rintro ee w7 ⟨sb, Ab, nb, cb, rfl, pb, kb, B⟩
  clear xX10 xX11 xX12 xX13
  replace X0 := X0.below B
  replace X1 := X1.below B
  replace X8 := X8.below B
  replace hT := hT.below B
  replace hT2 := hT2.below B
  replace pa := pa.below B
  replace HB := Lib.hid (bt HB.out B)
  clear B
  go_upto_region 6 with (fail)
  have lX10 := Nat.le_refl (World.heap w7).size
  have nX10X0 := X0.lt
  have nX10X1 := X1.lt
  have nX10X8 := X8.lt
  replace X0 := X0.below (bel1 _ (.cells #[.bool sb, .slice Ab nb cb, .int .i64 F2] 39))
  replace X1 := X1.below (bel1 _ (.cells #[.bool sb, .slice Ab nb cb, .int .i64 F2] 39))
  replace X8 := X8.below (bel1 _ (.cells #[.bool sb, .slice Ab nb cb, .int .i64 F2] 39))
  replace hT := hT.below (bel1 _ (.cells #[.bool sb, .slice Ab nb cb, .int .i64 F2] 39))
  replace hT2 := hT2.below (bel1 _ (.cells #[.bool sb, .slice Ab nb cb, .int .i64 F2] 39))
  replace pa := pa.below (bel1 _ (.cells #[.bool sb, .slice Ab nb cb, .int .i64 F2] 39))
  replace pb := pb.below (bel1 _ (.cells #[.bool sb, .slice Ab nb cb, .int .i64 F2] 39))
  replace HB := Lib.hid (bt HB.out (bel1 _ (.cells #[.bool sb, .slice Ab nb cb, .int .i64 F2] 39)))
  have X10 := Bo.new w7 #[.bool sb, .slice Ab nb cb, .int .i64 F2] 39
  generalize hWn : World.alloc w7 (.cells #[.bool sb, .slice Ab nb cb, .int .i64 F2] 39) = w8 at *
  clear hWn
  clear lX10
  go_wp2
  go_ret
  exact ⟨rfl, HB.out⟩
set_option maxHeartbeats 8000000 in
theorem arithHolds_far3 (D0 : Int) (s0 : Bool) (M0 E0 : Int) (D1 : Int) (s1 : Bool) (M1 E1 : Int) (w : World) (hT : Tb w) (hT2 : Tab w) (v0 : 0 ≤ M0) (u0 : M0 < 18446744073709551616) (v1 : 0 ≤ M1) (u1 : M1 < 18446744073709551616) (hp : fewq D0 E0 = true) (hq : fewq D1 E1 = true) (ha : exb D0 s0 M0 E0 = true) (hb : exb D1 s1 M1 E1 = false) :
    Calls Tryd.prog 6 #[.agg #[.int .i64 D0, .bool s0, .int .u64 M0, .int .i64 E0], .agg #[.int .i64 D1, .bool s1, .int .u64 M1, .int .i64 E1]] w (PB w true) := by
  obtain ⟨N1, hN1⟩ : ∃ N, (exq D0 s0 M0 E0).1 = N := ⟨_, rfl⟩
  obtain ⟨F1, hF1⟩ : ∃ N, (exq D0 s0 M0 E0).2 = N := ⟨_, rfl⟩
  obtain ⟨N2, hN2⟩ : ∃ N, (exq D1 s1 M1 E1).1 = N := ⟨_, rfl⟩
  obtain ⟨F2, hF2⟩ : ∃ N, (exq D1 s1 M1 E1).2 = N := ⟨_, rfl⟩
  have HP := Lib.hid hp
  have HQ := Lib.hid hq
  have HA := Lib.hid ha
  have HB1 := Lib.hid hb
  have HN1 := Lib.hid hN1
  have HF1 := Lib.hid hF1
  have HN2 := Lib.hid hN2
  have HF2 := Lib.hid hF2
  clear hp hq ha hb hN1 hF1 hN2 hF2
  go_enter Tryd.func6, Tryd.ntmps6
  go_upto_region 1 with (fail)
  have X0 := (Bo.newAt w (g := w.heap.size) (by simp) #[.int .i64 D0, .bool s0, .int .u64 M0, .int .i64 E0] 24).below (bel1 _ (.cells #[.int .i64 D1, .bool s1, .int .u64 M1, .int .i64 E1] 24))
  have X1 := (Bo.newAt (w.alloc (.cells #[.int .i64 D0, .bool s0, .int .u64 M0, .int .i64 E0] 24)) (g := w.heap.size + 1) (by simp) #[.int .i64 D1, .bool s1, .int .u64 M1, .int .i64 E1] 24)
  have HB := Lib.hid (bel2 w (.cells #[.int .i64 D0, .bool s0, .int .u64 M0, .int .i64 E0] 24) (.cells #[.int .i64 D1, .bool s1, .int .u64 M1, .int .i64 E1] 24))
  replace hT := hT.below HB.out
  replace hT2 := hT2.below HB.out
  generalize hW1 : ((w.alloc (.cells #[.int .i64 D0, .bool s0, .int .u64 M0, .int .i64 E0] 24)).alloc (.cells #[.int .i64 D1, .bool s1, .int .u64 M1, .int .i64 E1] 24)) = w1 at *
  clear hW1
  go_wp2_with fail
  refine (awake6 hT).mono ?_
  rintro ee w2 ⟨rfl, B⟩
  replace X0 := X0.below B
  replace X1 := X1.below B
  replace hT := hT.below B
  replace hT2 := hT2.below B
  replace HB := Lib.hid (bt HB.out B)
  clear B
  have xX00 := X0.at (i := 0) (v := .int .i64 D0) rfl
  have xX01 := X0.at (i := 1) (v := .bool s0) rfl
  have xX02 := X0.at (i := 2) (v := .int .u64 M0) rfl
  have xX03 := X0.at (i := 3) (v := .int .i64 E0) rfl
  go_wp2_with fail
  refine (aFew (r := true) HP.out).mono ?_
  rintro ee w3 ⟨rfl, B⟩
  clear xX00 xX01 xX02 xX03
  replace X0 := X0.below B
  replace X1 := X1.below B
  replace hT := hT.below B
  replace hT2 := hT2.below B
  replace HB := Lib.hid (bt HB.out B)
  clear B
  have xX10 := X1.at (i := 0) (v := .int .i64 D1) rfl
  have xX11 := X1.at (i := 1) (v := .bool s1) rfl
  have xX12 := X1.at (i := 2) (v := .int .u64 M1) rfl
  have xX13 := X1.at (i := 3) (v := .int .i64 E1) rfl
  go_wp2_with fail
  refine (aFew (r := true) HQ.out).mono ?_
  rintro ee w4 ⟨rfl, B⟩
  clear xX10 xX11 xX12 xX13
  replace X0 := X0.below B
  replace X1 := X1.below B
  replace hT := hT.below B
  replace hT2 := hT2.below B
  replace HB := Lib.hid (bt HB.out B)
  clear B
  have xX00 := X0.at (i := 0) (v := .int .i64 D0) rfl
  have xX01 := X0.at (i := 1) (v := .bool s0) rfl
  have xX02 := X0.at (i := 2) (v := .int .u64 M0) rfl
  have xX03 := X0.at (i := 3) (v := .int .i64 E0) rfl
  go_wp2_with fail
  refine (nExact (t := true) hT2 v0 u0 HA.out HN1.out HF1.out).mono ?_
  rintro ee w5 ⟨sa, Aa, na, ca, rfl, pa, ka, B⟩
  clear xX00 xX01 xX02 xX03
  replace X0 := X0.below B
  replace X1 := X1.below B
  replace hT := hT.below B
  replace hT2 := hT2.below B
  replace HB := Lib.hid (bt HB.out B)
  clear B
  go_upto_region 5 with (fail)
  have lX8 := Nat.le_refl (World.heap w5).size
  have nX8X0 := X0.lt
  have nX8X1 := X1.lt
  replace X0 := X0.below (bel1 _ (.cells #[.bool sa, .slice Aa na ca, .int .i64 F1] 39))
  replace X1 := X1.below (bel1 _ (.cells #[.bool sa, .slice Aa na ca, .int .i64 F1] 39))
  replace hT := hT.below (bel1 _ (.cells #[.bool sa, .slice Aa na ca, .int .i64 F1] 39))
  replace hT2 := hT2.below (bel1 _ (.cells #[.bool sa, .slice Aa na ca, .int .i64 F1] 39))
  replace pa := pa.below (bel1 _ (.cells #[.bool sa, .slice Aa na ca, .int .i64 F1] 39))
  replace HB := Lib.hid (bt HB.out (bel1 _ (.cells #[.bool sa, .slice Aa na ca, .int .i64 F1] 39)))
  have X8 := Bo.new w5 #[.bool sa, .slice Aa na ca, .int .i64 F1] 39
  generalize hWn : World.alloc w5 (.cells #[.bool sa, .slice Aa na ca, .int .i64 F1] 39) = w6 at *
  clear hWn
  clear lX8
  have xX10 := X1.at (i := 0) (v := .int .i64 D1) rfl
  have xX11 := X1.at (i := 1) (v := .bool s1) rfl
  have xX12 := X1.at (i := 2) (v := .int .u64 M1) rfl
  have xX13 := X1.at (i := 3) (v := .int .i64 E1) rfl
  go_wp2_with fail
  refine (nExact (t := false) hT2 v1 u1 HB1.out HN2.out HF2.out).mono ?_
  rintro ee w7 ⟨sb, Ab, nb, cb, rfl, pb, kb, B⟩
  clear xX10 xX11 xX12 xX13
  replace X0 := X0.below B
  replace X1 := X1.below B
  replace X8 := X8.below B
  replace hT := hT.below B
  replace hT2 := hT2.below B
  replace pa := pa.below B
  replace HB := Lib.hid (bt HB.out B)
  clear B
  go_upto_region 6 with (fail)
  have lX10 := Nat.le_refl (World.heap w7).size
  have nX10X0 := X0.lt
  have nX10X1 := X1.lt
  have nX10X8 := X8.lt
  replace X0 := X0.below (bel1 _ (.cells #[.bool sb, .slice Ab nb cb, .int .i64 F2] 39))
  replace X1 := X1.below (bel1 _ (.cells #[.bool sb, .slice Ab nb cb, .int .i64 F2] 39))
  replace X8 := X8.below (bel1 _ (.cells #[.bool sb, .slice Ab nb cb, .int .i64 F2] 39))
  replace hT := hT.below (bel1 _ (.cells #[.bool sb, .slice Ab nb cb, .int .i64 F2] 39))
  replace hT2 := hT2.below (bel1 _ (.cells #[.bool sb, .slice Ab nb cb, .int .i64 F2] 39))
  replace pa := pa.below (bel1 _ (.cells #[.bool sb, .slice Ab nb cb, .int .i64 F2] 39))
  replace pb := pb.below (bel1 _ (.cells #[.bool sb, .slice Ab nb cb, .int .i64 F2] 39))
  replace HB := Lib.hid (bt HB.out (bel1 _ (.cells #[.bool sb, .slice Ab nb cb, .int .i64 F2] 39)))
  have X10 := Bo.new w7 #[.bool sb, .slice Ab nb cb, .int .i64 F2] 39
  generalize hWn : World.alloc w7 (.cells #[.bool sb, .slice Ab nb cb, .int .i64 F2] 39) = w8 at *
  clear hWn
  clear lX10
  go_wp2
  go_ret
  exact ⟨rfl, HB.out⟩
set_option maxHeartbeats 8000000 in
theorem arithHolds_main (D0 : Int) (s0 : Bool) (M0 E0 : Int) (D1 : Int) (s1 : Bool) (M1 E1 : Int) (w : World) (hT : Tb w) (hT2 : Tab w) (v0 : 0 ≤ M0) (u0 : M0 < 18446744073709551616) (v1 : 0 ≤ M1) (u1 : M1 < 18446744073709551616) (hp : fewq D0 E0 = true) (hq : fewq D1 E1 = true) (ha : exb D0 s0 M0 E0 = true) (hb : exb D1 s1 M1 E1 = true) :
    Calls Tryd.prog 6 #[.agg #[.int .i64 D0, .bool s0, .int .u64 M0, .int .i64 E0], .agg #[.int .i64 D1, .bool s1, .int .u64 M1, .int .i64 E1]] w (PB w true) := by
  have m0 : MayQ D0 s0 M0 E0 ∧ D0 ≠ 2 := by
    unfold exb at ha
    simpa using ha
  have m1 : MayQ D1 s1 M1 E1 ∧ D1 ≠ 2 := by
    unfold exb at hb
    simpa using hb
  have fx : Fz (rk D0 s0 M0 E0) 1600 := few_fz u0 hp
  have fy : Fz (rk D1 s1 M1 E1) 1600 := few_fz u1 hq
  have qx := rk_fq u0 m0.1
  have qy := rk_fq u1 m1.1
  obtain ⟨x, hx⟩ : ∃ x, rk D0 s0 M0 E0 = x := ⟨_, rfl⟩
  obtain ⟨y, hy⟩ : ∃ x, rk D1 s1 M1 E1 = x := ⟨_, rfl⟩
  rw [hx] at fx qx
  rw [hy] at fy qy
  have ix : infp x = false := by rw [fq_inf qx]; simpa using m0.2
  have iy : infp y = false := by rw [fq_inf qy]; simpa using m1.2
  obtain ⟨x1, x2⟩ := infp_false qx.bd.1 qx.bd.2 ix
  obtain ⟨y1, y2⟩ := infp_false qy.bd.1 qy.bd.2 iy
  have gx : Fit 1600 (ep x) := by
    rcases fx with g | g
    · rw [ix] at g; cases g
    · exact g
  have gy : Fit 1600 (ep y) := by
    rcases fy with g | g
    · rw [iy] at g; cases g
    · exact g
  obtain ⟨N1, hN1⟩ : ∃ N, (exq D0 s0 M0 E0).1 = N := ⟨_, rfl⟩
  obtain ⟨F1, hF1⟩ : ∃ N, (exq D0 s0 M0 E0).2 = N := ⟨_, rfl⟩
  obtain ⟨N2, hN2⟩ : ∃ N, (exq D1 s1 M1 E1).1 = N := ⟨_, rfl⟩
  obtain ⟨F2, hF2⟩ : ∃ N, (exq D1 s1 M1 E1).2 = N := ⟨_, rfl⟩
  have HP := Lib.hid hp
  have HQ := Lib.hid hq
  have HA := Lib.hid ha
  have HB1 := Lib.hid hb
  have HN1 := Lib.hid hN1
  have HF1 := Lib.hid hF1
  have HN2 := Lib.hid hN2
  have HF2 := Lib.hid hF2
  have e1 : (N1, F1) = ep x := by rw [← exq_ep qx ha, ← hN1, ← hF1]
  have e2 : (N2, F2) = ep y := by rw [← exq_ep qy hb, ← hN2, ← hF2]
  have k1 : mk N1 F1 = ep x := by rw [← e1]; exact (by rw [e1]; exact ep_nf x : Nf (N1, F1))
  have k2 : mk N2 F2 = ep y := by rw [← e2]; exact (by rw [e2]; exact ep_nf y : Nf (N2, F2))
  obtain ⟨c1, c2⟩ := canF_two x1 x2 y1 y2
  obtain ⟨fP, _⟩ := pl_fit (by decide) gx gy
  obtain ⟨fQ, _⟩ := ml_fit (by decide) gx gy
  obtain ⟨r, r2, hr, hr2, t1⟩ := fit_tight (by decide) fP
  obtain ⟨m, m2, hm, hm2, t2⟩ := fit_tight (by decide) fQ
  rw [← addp_ff false ix iy] at hr
  rw [← addp_ff true ix iy] at hr2
  rw [← mulp_rnd false ix iy] at hm
  rw [← mulp_rnd true ix iy] at hm2
  obtain ⟨P, hP⟩ : ∃ P, pl (ep x) (ep y) = P := ⟨_, rfl⟩
  obtain ⟨Q, hQ⟩ : ∃ P, ml (ep x) (ep y) = P := ⟨_, rfl⟩
  have nP : mk P.1 P.2 = P := by rw [← hP]; exact fP.nf
  have nQ : mk Q.1 Q.2 = Q := by rw [← hQ]; exact fQ.nf
  rw [hP] at t1
  rw [hQ] at t2
  rw [← nP] at t1
  rw [← nQ] at t2
  have HS1 := Lib.hid t1
  have HS2 := Lib.hid t2
  have HC : Hid (CanF [(N1, F1), (N2, F2)]) := Lib.hid (by rw [e1, e2]; exact c1)
  have HP1 : Hid ((smd [(N1, F1), (N2, F2)]).1 = P.1) := Lib.hid (by rw [e1, e2, c2, hP])
  have HP2 : Hid ((smd [(N1, F1), (N2, F2)]).2 = P.2) := Lib.hid (by rw [e1, e2, c2, hP])
  have HQ1 : Hid ((ml (mk N1 F1) (mk N2 F2)).1 = Q.1) := Lib.hid (by rw [k1, k2, hQ])
  have HQ2 : Hid ((ml (mk N1 F1) (mk N2 F2)).2 = Q.2) := Lib.hid (by rw [k1, k2, hQ])
  have HX := Lib.hid hx
  have HY := Lib.hid hy
  have HR := Lib.hid hr
  have HR2 := Lib.hid hr2
  have HM := Lib.hid hm
  have HM2 := Lib.hid hm2
  clear m0 m1 fx fy qx qy hx hy ix iy x1 x2 y1 y2 gx gy e1 e2 k1 k2 c1 c2 fP fQ hr hr2 hm hm2 hP hQ nP nQ t1 t2 hp hq ha hb hN1 hF1 hN2 hF2
  go_enter Tryd.func6, Tryd.ntmps6
  go_upto_region 1 with (fail)
  have X0 := (Bo.newAt w (g := w.heap.size) (by simp) #[.int .i64 D0, .bool s0, .int .u64 M0, .int .i64 E0] 24).below (bel1 _ (.cells #[.int .i64 D1, .bool s1, .int .u64 M1, .int .i64 E1] 24))
  have X1 := (Bo.newAt (w.alloc (.cells #[.int .i64 D0, .bool s0, .int .u64 M0, .int .i64 E0] 24)) (g := w.heap.size + 1) (by simp) #[.int .i64 D1, .bool s1, .int .u64 M1, .int .i64 E1] 24)
  have HB := Lib.hid (bel2 w (.cells #[.int .i64 D0, .bool s0, .int .u64 M0, .int .i64 E0] 24) (.cells #[.int .i64 D1, .bool s1, .int .u64 M1, .int .i64 E1] 24))
  replace hT := hT.below HB.out
  replace hT2 := hT2.below HB.out
  generalize hW1 : ((w.alloc (.cells #[.int .i64 D0, .bool s0, .int .u64 M0, .int .i64 E0] 24)).alloc (.cells #[.int .i64 D1, .bool s1, .int .u64 M1, .int .i64 E1] 24)) = w1 at *
  clear hW1
  go_wp2_with fail
  refine (awake6 hT).mono ?_
  rintro ee w2 ⟨rfl, B⟩
  replace X0 := X0.below B
  replace X1 := X1.below B
  replace hT := hT.below B
  replace hT2 := hT2.below B
  replace HB := Lib.hid (bt HB.out B)
  clear B
  have xX00 := X0.at (i := 0) (v := .int .i64 D0) rfl
  have xX01 := X0.at (i := 1) (v := .bool s0) rfl
  have xX02 := X0.at (i := 2) (v := .int .u64 M0) rfl
  have xX03 := X0.at (i := 3) (v := .int .i64 E0) rfl
  go_wp2_with fail
  refine (aFew (r := true) HP.out).mono ?_
  rintro ee w3 ⟨rfl, B⟩
  clear xX00 xX01 xX02 xX03
  replace X0 := X0.below B
  replace X1 := X1.below B
  replace hT := hT.below B
  replace hT2 := hT2.below B
  replace HB := Lib.hid (bt HB.out B)
  clear B
  have xX10 := X1.at (i := 0) (v := .int .i64 D1) rfl
  have xX11 := X1.at (i := 1) (v := .bool s1) rfl
  have xX12 := X1.at (i := 2) (v := .int .u64 M1) rfl
  have xX13 := X1.at (i := 3) (v := .int .i64 E1) rfl
  go_wp2_with fail
  refine (aFew (r := true) HQ.out).mono ?_
  rintro ee w4 ⟨rfl, B⟩
  clear xX10 xX11 xX12 xX13
  replace X0 := X0.below B
  replace X1 := X1.below B
  replace hT := hT.below B
  replace hT2 := hT2.below B
  replace HB := Lib.hid (bt HB.out B)
  clear B
  have xX00 := X0.at (i := 0) (v := .int .i64 D0) rfl
  have xX01 := X0.at (i := 1) (v := .bool s0) rfl
  have xX02 := X0.at (i := 2) (v := .int .u64 M0) rfl
  have xX03 := X0.at (i := 3) (v := .int .i64 E0) rfl
  go_wp2_with fail
  refine (nExact (t := true) hT2 v0 u0 HA.out HN1.out HF1.out).mono ?_
  rintro ee w5 ⟨sa, Aa, na, ca, rfl, pa, ka, B⟩
  clear xX00 xX01 xX02 xX03
  replace X0 := X0.below B
  replace X1 := X1.below B
  replace hT := hT.below B
  replace hT2 := hT2.below B
  replace HB := Lib.hid (bt HB.out B)
  clear B
  go_upto_region 5 with (fail)
  have lX8 := Nat.le_refl (World.heap w5).size
  have nX8X0 := X0.lt
  have nX8X1 := X1.lt
  replace X0 := X0.below (bel1 _ (.cells #[.bool sa, .slice Aa na ca, .int .i64 F1] 39))
  replace X1 := X1.below (bel1 _ (.cells #[.bool sa, .slice Aa na ca, .int .i64 F1] 39))
  replace hT := hT.below (bel1 _ (.cells #[.bool sa, .slice Aa na ca, .int .i64 F1] 39))
  replace hT2 := hT2.below (bel1 _ (.cells #[.bool sa, .slice Aa na ca, .int .i64 F1] 39))
  replace pa := pa.below (bel1 _ (.cells #[.bool sa, .slice Aa na ca, .int .i64 F1] 39))
  replace HB := Lib.hid (bt HB.out (bel1 _ (.cells #[.bool sa, .slice Aa na ca, .int .i64 F1] 39)))
  have X8 := Bo.new w5 #[.bool sa, .slice Aa na ca, .int .i64 F1] 39
  generalize hWn : World.alloc w5 (.cells #[.bool sa, .slice Aa na ca, .int .i64 F1] 39) = w6 at *
  clear hWn
  clear lX8
  have xX10 := X1.at (i := 0) (v := .int .i64 D1) rfl
  have xX11 := X1.at (i := 1) (v := .bool s1) rfl
  have xX12 := X1.at (i := 2) (v := .int .u64 M1) rfl
  have xX13 := X1.at (i := 3) (v := .int .i64 E1) rfl
  go_wp2_with fail
  refine (nExact (t := true) hT2 v1 u1 HB1.out HN2.out HF2.out).mono ?_
  rintro ee w7 ⟨sb, Ab, nb, cb, rfl, pb, kb, B⟩
  clear xX10 xX11 xX12 xX13
  replace X0 := X0.below B
  replace X1 := X1.below B
  replace X8 := X8.below B
  replace hT := hT.below B
  replace hT2 := hT2.below B
  replace pa := pa.below B
  replace HB := Lib.hid (bt HB.out B)
  clear B
  go_upto_region 6 with (fail)
  have lX10 := Nat.le_refl (World.heap w7).size
  have nX10X0 := X0.lt
  have nX10X1 := X1.lt
  have nX10X8 := X8.lt
  replace X0 := X0.below (bel1 _ (.cells #[.bool sb, .slice Ab nb cb, .int .i64 F2] 39))
  replace X1 := X1.below (bel1 _ (.cells #[.bool sb, .slice Ab nb cb, .int .i64 F2] 39))
  replace X8 := X8.below (bel1 _ (.cells #[.bool sb, .slice Ab nb cb, .int .i64 F2] 39))
  replace hT := hT.below (bel1 _ (.cells #[.bool sb, .slice Ab nb cb, .int .i64 F2] 39))
  replace hT2 := hT2.below (bel1 _ (.cells #[.bool sb, .slice Ab nb cb, .int .i64 F2] 39))
  replace pa := pa.below (bel1 _ (.cells #[.bool sb, .slice Ab nb cb, .int .i64 F2] 39))
  replace pb := pb.below (bel1 _ (.cells #[.bool sb, .slice Ab nb cb, .int .i64 F2] 39))
  replace HB := Lib.hid (bt HB.out (bel1 _ (.cells #[.bool sb, .slice Ab nb cb, .int .i64 F2] 39)))
  have X10 := Bo.new w7 #[.bool sb, .slice Ab nb cb, .int .i64 F2] 39
  generalize hWn : World.alloc w7 (.cells #[.bool sb, .slice Ab nb cb, .int .i64 F2] 39) = w8 at *
  clear hWn
  clear lX10
  have xX80 := X8.at (i := 0) (v := .bool sa) rfl
  have xX81 := X8.at (i := 1) (v := .slice Aa na ca) rfl
  have xX82 := X8.at (i := 2) (v := .int .i64 F1) rfl
  have xX100 := X10.at (i := 0) (v := .bool sb) rfl
  have xX101 := X10.at (i := 1) (v := .slice Ab nb cb) rfl
  have xX102 := X10.at (i := 2) (v := .int .i64 F2) rfl
  go_wp2_with fail
  refine (dAddF (K := 2) (l := [(N1, F1), (N2, F2)]) (N := P.1) (E := P.2) (hT2.below (bel1 _ _)) (Dl.lit2 rfl pa.wr pb.wr (by omega) (by omega)) (by decide) HC.out HP1.out HP2.out).mono ?_
  rintro ee w9 ⟨ss, As, ns, cs, rfl, ps, ks, B⟩
  replace B := bt (bel1 _ _) B
  clear xX80 xX81 xX82 xX100 xX101 xX102
  replace X0 := X0.below B
  replace X1 := X1.below B
  replace X8 := X8.below B
  replace X10 := X10.below B
  replace hT := hT.below B
  replace hT2 := hT2.below B
  replace pa := pa.below B
  replace pb := pb.below B
  replace HB := Lib.hid (bt HB.out B)
  clear B
  go_upto_region 9 with (fail)
  have lX12 := Nat.le_refl (World.heap w9).size
  have nX12X0 := X0.lt
  have nX12X1 := X1.lt
  have nX12X8 := X8.lt
  have nX12X10 := X10.lt
  replace X0 := X0.below (bel1 _ (.cells #[.bool ss, .slice As ns cs, .int .i64 P.2] 39))
  replace X1 := X1.below (bel1 _ (.cells #[.bool ss, .slice As ns cs, .int .i64 P.2] 39))
  replace X8 := X8.below (bel1 _ (.cells #[.bool ss, .slice As ns cs, .int .i64 P.2] 39))
  replace X10 := X10.below (bel1 _ (.cells #[.bool ss, .slice As ns cs, .int .i64 P.2] 39))
  replace hT := hT.below (bel1 _ (.cells #[.bool ss, .slice As ns cs, .int .i64 P.2] 39))
  replace hT2 := hT2.below (bel1 _ (.cells #[.bool ss, .slice As ns cs, .int .i64 P.2] 39))
  replace pa := pa.below (bel1 _ (.cells #[.bool ss, .slice As ns cs, .int .i64 P.2] 39))
  replace pb := pb.below (bel1 _ (.cells #[.bool ss, .slice As ns cs, .int .i64 P.2] 39))
  replace ps := ps.below (bel1 _ (.cells #[.bool ss, .slice As ns cs, .int .i64 P.2] 39))
  replace HB := Lib.hid (bt HB.out (bel1 _ (.cells #[.bool ss, .slice As ns cs, .int .i64 P.2] 39)))
  have X12 := Bo.new w9 #[.bool ss, .slice As ns cs, .int .i64 P.2] 39
  generalize hWn : World.alloc w9 (.cells #[.bool ss, .slice As ns cs, .int .i64 P.2] 39) = wA at *
  clear hWn
  clear lX12
  have xX80 := X8.at (i := 0) (v := .bool sa) rfl
  have xX81 := X8.at (i := 1) (v := .slice Aa na ca) rfl
  have xX82 := X8.at (i := 2) (v := .int .i64 F1) rfl
  have xX100 := X10.at (i := 0) (v := .bool sb) rfl
  have xX101 := X10.at (i := 1) (v := .slice Ab nb cb) rfl
  have xX102 := X10.at (i := 2) (v := .int .i64 F2) rfl
  go_wp2_with fail
  refine (dMul hT2 pa.wr pb.wr (by omega) (by omega) HQ1.out HQ2.out).mono ?_
  rintro ee wB ⟨sm, Am, nm, cm, rfl, pm, km, B⟩
  clear xX80 xX81 xX82 xX100 xX101 xX102
  replace X0 := X0.below B
  replace X1 := X1.below B
  replace X8 := X8.below B
  replace X10 := X10.below B
  replace X12 := X12.below B
  replace hT := hT.below B
  replace hT2 := hT2.below B
  replace pa := pa.below B
  replace pb := pb.below B
  replace ps := ps.below B
  replace HB := Lib.hid (bt HB.out B)
  clear B
  clear pa pb
  go_upto_region 10 with (fail)
  have lX13 := Nat.le_refl (World.heap wB).size
  have nX13X0 := X0.lt
  have nX13X1 := X1.lt
  have nX13X8 := X8.lt
  have nX13X10 := X10.lt
  have nX13X12 := X12.lt
  replace X0 := X0.below (bel1 _ (.cells #[.bool sm, .slice Am nm cm, .int .i64 Q.2] 39))
  replace X1 := X1.below (bel1 _ (.cells #[.bool sm, .slice Am nm cm, .int .i64 Q.2] 39))
  replace X8 := X8.below (bel1 _ (.cells #[.bool sm, .slice Am nm cm, .int .i64 Q.2] 39))
  replace X10 := X10.below (bel1 _ (.cells #[.bool sm, .slice Am nm cm, .int .i64 Q.2] 39))
  replace X12 := X12.below (bel1 _ (.cells #[.bool sm, .slice Am nm cm, .int .i64 Q.2] 39))
  replace hT := hT.below (bel1 _ (.cells #[.bool sm, .slice Am nm cm, .int .i64 Q.2] 39))
  replace hT2 := hT2.below (bel1 _ (.cells #[.bool sm, .slice Am nm cm, .int .i64 Q.2] 39))
  replace ps := ps.below (bel1 _ (.cells #[.bool sm, .slice Am nm cm, .int .i64 Q.2] 39))
  replace pm := pm.below (bel1 _ (.cells #[.bool sm, .slice Am nm cm, .int .i64 Q.2] 39))
  replace HB := Lib.hid (bt HB.out (bel1 _ (.cells #[.bool sm, .slice Am nm cm, .int .i64 Q.2] 39)))
  have X13 := Bo.new wB #[.bool sm, .slice Am nm cm, .int .i64 Q.2] 39
  generalize hWn : World.alloc wB (.cells #[.bool sm, .slice Am nm cm, .int .i64 Q.2] 39) = wC at *
  clear hWn
  clear lX13
  refine Jo.region_joint (T := [0, 1, 2, 3, 4, 5, 6, 7, 8]) (ds := [some 57, some 58, some 59, some 60, some 61, some 62, some 63, some 64, some 14]) (ls := [[], [], [], [1, 2], [], [], [4, 5], [0, 3, 6], [7]]) (k := 9) (L := [(some 57, 0), (some 58, 1), (some 59, 2), (some 60, 3), (some 61, 4), (some 62, 5), (some 63, 6), (some 64, 7), (some 14, 8)]) (fuel := 0) (J := fun wj => Below (World.heap wC).size wC wj)
    (F := [Jo.Fact.eq (.agg #[.bool ss, .slice As ns cs, .int .i64 P.2]), Jo.Fact.eq (.agg #[.int .i64 D0, .bool s0, .int .u64 M0, .int .i64 E0]), Jo.Fact.eq (.agg #[.int .i64 D1, .bool s1, .int .u64 M1, .int .i64 E1]), Jo.Fact.num r, Jo.Fact.eq (.agg #[.int .i64 D0, .bool s0, .int .u64 M0, .int .i64 E0]), Jo.Fact.eq (.agg #[.int .i64 D1, .bool s1, .int .u64 M1, .int .i64 E1]), Jo.Fact.num r2, Jo.Fact.eq (.bool true), Jo.Fact.eq (.bool true)])
    (by kernel_rfl) (by kernel_rfl) (by decide) rfl rfl (fun _ _ h b => bt h b) ((Below.refl _ _).drew) ?_ (fun vs wD hJ hd => ?_)
  · refine Jo.jcons (i := 0) (o := ⟨some 57, _, _, _, _, _⟩) (di := some 57) (L := []) (f := Jo.Fact.eq (.agg #[.bool ss, .slice As ns cs, .int .i64 P.2])) rfl rfl rfl rfl (fun vs wj hJ hd K hK => ?_) ?_
    · clear hd
      simp only [Jo.putl, List.foldl_nil, Act.put, List.setIfInBounds_toArray, List.set_cons_zero, List.set_cons_succ] at hK ⊢
      have xX120 : World.cell? wj ⟨w9.heap.size, 0, none⟩ = some (.bool ss) := (X12.below hJ).cell 0
      have xX121 : World.cell? wj ⟨w9.heap.size, 1, none⟩ = some (.slice As ns cs) := (X12.below hJ).cell 1
      have xX122 : World.cell? wj ⟨w9.heap.size, 2, none⟩ = some (.int .i64 P.2) := (X12.below hJ).cell 2
      go_simp
      exact hK.out _ _ rfl (Below.refl _ _)
    refine Jo.jcons (i := 1) (o := ⟨some 58, _, _, _, _, _⟩) (di := some 58) (L := []) (f := Jo.Fact.eq (.agg #[.int .i64 D0, .bool s0, .int .u64 M0, .int .i64 E0])) rfl rfl rfl rfl (fun vs wj hJ hd K hK => ?_) ?_
    · clear hd
      simp only [Jo.putl, List.foldl_nil, Act.put, List.setIfInBounds_toArray, List.set_cons_zero, List.set_cons_succ] at hK ⊢
      have xX00 : World.cell? wj ⟨w.heap.size, 0, none⟩ = some (.int .i64 D0) := (X0.below hJ).cell 0
      have xX01 : World.cell? wj ⟨w.heap.size, 1, none⟩ = some (.bool s0) := (X0.below hJ).cell 1
      have xX02 : World.cell? wj ⟨w.heap.size, 2, none⟩ = some (.int .u64 M0) := (X0.below hJ).cell 2
      have xX03 : World.cell? wj ⟨w.heap.size, 3, none⟩ = some (.int .i64 E0) := (X0.below hJ).cell 3
      go_simp
      exact hK.out _ _ rfl (Below.refl _ _)
    refine Jo.jcons (i := 2) (o := ⟨some 59, _, _, _, _, _⟩) (di := some 59) (L := []) (f := Jo.Fact.eq (.agg #[.int .i64 D1, .bool s1, .int .u64 M1, .int .i64 E1])) rfl rfl rfl rfl (fun vs wj hJ hd K hK => ?_) ?_
    · clear hd
      simp only [Jo.putl, List.foldl_nil, Act.put, List.setIfInBounds_toArray, List.set_cons_zero, List.set_cons_succ] at hK ⊢
      have xX10 : World.cell? wj ⟨w.heap.size + 1, 0, none⟩ = some (.int .i64 D1) := (X1.below hJ).cell 0
      have xX11 : World.cell? wj ⟨w.heap.size + 1, 1, none⟩ = some (.bool s1) := (X1.below hJ).cell 1
      have xX12 : World.cell? wj ⟨w.heap.size + 1, 2, none⟩ = some (.int .u64 M1) := (X1.below hJ).cell 2
      have xX13 : World.cell? wj ⟨w.heap.size + 1, 3, none⟩ = some (.int .i64 E1) := (X1.below hJ).cell 3
      go_simp
      exact hK.out _ _ rfl (Below.refl _ _)
    refine Jo.jcons (i := 3) (o := ⟨some 60, _, _, _, _, _⟩) (di := some 60) (L := [(some 58, 1), (some 59, 2)]) (f := Jo.Fact.num r) rfl rfl rfl rfl (fun vs wj hJ hd K hK => ?_) ?_
    · have d1 : (Jo.Fact.eq (.agg #[.int .i64 D0, .bool s0, .int .u64 M0, .int .i64 E0])).P (vs 1) wj := hd 1 (by decide)
      have d2 : (Jo.Fact.eq (.agg #[.int .i64 D1, .bool s1, .int .u64 M1, .int .i64 E1])).P (vs 2) wj := hd 2 (by decide)
      clear hd
      simp only [Jo.putl, List.foldl_cons, List.foldl_nil, Act.put, List.setIfInBounds_toArray, List.set_cons_zero, List.set_cons_succ] at hK ⊢
      generalize vs 1 = u1 at hK d1 ⊢
      generalize vs 2 = u2 at hK d2 ⊢
      replace d1 : u1 = _ := d1
      subst d1
      replace d2 : u2 = _ := d2
      subst d2
      go_simp
      refine (aAdd (hT.below hJ) u0 u1 HX.out HY.out HR.out).mono ?_
      rintro ee wk ⟨K3, s3, M3, E3, rfl, q3, B⟩
      exact hK.out _ _ ⟨K3, s3, M3, E3, rfl, q3⟩ B
    refine Jo.jcons (i := 4) (o := ⟨some 61, _, _, _, _, _⟩) (di := some 61) (L := []) (f := Jo.Fact.eq (.agg #[.int .i64 D0, .bool s0, .int .u64 M0, .int .i64 E0])) rfl rfl rfl rfl (fun vs wj hJ hd K hK => ?_) ?_
    · clear hd
      simp only [Jo.putl, List.foldl_nil, Act.put, List.setIfInBounds_toArray, List.set_cons_zero, List.set_cons_succ] at hK ⊢
      have xX00 : World.cell? wj ⟨w.heap.size, 0, none⟩ = some (.int .i64 D0) := (X0.below hJ).cell 0
      have xX01 : World.cell? wj ⟨w.heap.size, 1, none⟩ = some (.bool s0) := (X0.below hJ).cell 1
      have xX02 : World.cell? wj ⟨w.heap.size, 2, none⟩ = some (.int .u64 M0) := (X0.below hJ).cell 2
      have xX03 : World.cell? wj ⟨w.heap.size, 3, none⟩ = some (.int .i64 E0) := (X0.below hJ).cell 3
      go_simp
      exact hK.out _ _ rfl (Below.refl _ _)
    refine Jo.jcons (i := 5) (o := ⟨some 62, _, _, _, _, _⟩) (di := some 62) (L := []) (f := Jo.Fact.eq (.agg #[.int .i64 D1, .bool s1, .int .u64 M1, .int .i64 E1])) rfl rfl rfl rfl (fun vs wj hJ hd K hK => ?_) ?_
    · clear hd
      simp only [Jo.putl, List.foldl_nil, Act.put, List.setIfInBounds_toArray, List.set_cons_zero, List.set_cons_succ] at hK ⊢
      have xX10 : World.cell? wj ⟨w.heap.size + 1, 0, none⟩ = some (.int .i64 D1) := (X1.below hJ).cell 0
      have xX11 : World.cell? wj ⟨w.heap.size + 1, 1, none⟩ = some (.bool s1) := (X1.below hJ).cell 1
      have xX12 : World.cell? wj ⟨w.heap.size + 1, 2, none⟩ = some (.int .u64 M1) := (X1.below hJ).cell 2
      have xX13 : World.cell? wj ⟨w.heap.size + 1, 3, none⟩ = some (.int .i64 E1) := (X1.below hJ).cell 3
      go_simp
      exact hK.out _ _ rfl (Below.refl _ _)
    refine Jo.jcons (i := 6) (o := ⟨some 63, _, _, _, _, _⟩) (di := some 63) (L := [(some 61, 4), (some 62, 5)]) (f := Jo.Fact.num r2) rfl rfl rfl rfl (fun vs wj hJ hd K hK => ?_) ?_
    · have d4 : (Jo.Fact.eq (.agg #[.int .i64 D0, .bool s0, .int .u64 M0, .int .i64 E0])).P (vs 4) wj := hd 4 (by decide)
      have d5 : (Jo.Fact.eq (.agg #[.int .i64 D1, .bool s1, .int .u64 M1, .int .i64 E1])).P (vs 5) wj := hd 5 (by decide)
      clear hd
      simp only [Jo.putl, List.foldl_cons, List.foldl_nil, Act.put, List.setIfInBounds_toArray, List.set_cons_zero, List.set_cons_succ] at hK ⊢
      generalize vs 4 = u4 at hK d4 ⊢
      generalize vs 5 = u5 at hK d5 ⊢
      replace d4 : u4 = _ := d4
      subst d4
      replace d5 : u5 = _ := d5
      subst d5
      go_simp
      refine (aAdd (hT.below hJ) u0 u1 HX.out HY.out HR2.out).mono ?_
      rintro ee wk ⟨K4, s4, M4, E4, rfl, q4, B⟩
      exact hK.out _ _ ⟨K4, s4, M4, E4, rfl, q4⟩ B
    refine Jo.jcons (i := 7) (o := ⟨some 64, _, _, _, _, _⟩) (di := some 64) (L := [(some 57, 0), (some 60, 3), (some 63, 6)]) (f := Jo.Fact.eq (.bool true)) rfl rfl rfl rfl (fun vs wj hJ hd K hK => ?_) ?_
    · have d0 : (Jo.Fact.eq (.agg #[.bool ss, .slice As ns cs, .int .i64 P.2])).P (vs 0) wj := hd 0 (by decide)
      have d3 : (Jo.Fact.num r).P (vs 3) wj := hd 3 (by decide)
      have d6 : (Jo.Fact.num r2).P (vs 6) wj := hd 6 (by decide)
      clear hd
      simp only [Jo.putl, List.foldl_cons, List.foldl_nil, Act.put, List.setIfInBounds_toArray, List.set_cons_zero, List.set_cons_succ] at hK ⊢
      generalize vs 0 = u0 at hK d0 ⊢
      generalize vs 3 = u3 at hK d3 ⊢
      generalize vs 6 = u6 at hK d6 ⊢
      replace d0 : u0 = _ := d0
      subst d0
      obtain ⟨K3, s3, M3, E3, rfl, q3⟩ := d3
      obtain ⟨K4, s4, M4, E4, rfl, q4⟩ := d6
      go_simp
      refine (aHolds (hT2.below hJ) (ps.wr.below hJ) (by omega) q3 q4 HS1.out).mono ?_
      rintro ee wk ⟨rfl, B⟩
      exact hK.out _ _ rfl B
    refine Jo.jcons (i := 8) (o := ⟨some 14, _, _, _, _, _⟩) (di := some 14) (L := [(some 64, 7)]) (f := Jo.Fact.eq (.bool true)) rfl rfl rfl rfl (fun vs wj hJ hd K hK => ?_) ?_
    · have d7 : (Jo.Fact.eq (.bool true)).P (vs 7) wj := hd 7 (by decide)
      clear hd
      simp only [Jo.putl, List.foldl_cons, List.foldl_nil, Act.put, List.setIfInBounds_toArray, List.set_cons_zero, List.set_cons_succ] at hK ⊢
      generalize vs 7 = u7 at hK d7 ⊢
      replace d7 : u7 = _ := d7
      subst d7
      go_simp
      exact hK.out _ _ rfl (Below.refl _ _)
    exact Jo.Steps.nil
  have d0 : (Jo.Fact.eq (.agg #[.bool ss, .slice As ns cs, .int .i64 P.2])).P (vs 0) wD := hd 0 (by decide)
  have d1 : (Jo.Fact.eq (.agg #[.int .i64 D0, .bool s0, .int .u64 M0, .int .i64 E0])).P (vs 1) wD := hd 1 (by decide)
  have d2 : (Jo.Fact.eq (.agg #[.int .i64 D1, .bool s1, .int .u64 M1, .int .i64 E1])).P (vs 2) wD := hd 2 (by decide)
  have d3 : (Jo.Fact.num r).P (vs 3) wD := hd 3 (by decide)
  have d4 : (Jo.Fact.eq (.agg #[.int .i64 D0, .bool s0, .int .u64 M0, .int .i64 E0])).P (vs 4) wD := hd 4 (by decide)
  have d5 : (Jo.Fact.eq (.agg #[.int .i64 D1, .bool s1, .int .u64 M1, .int .i64 E1])).P (vs 5) wD := hd 5 (by decide)
  have d6 : (Jo.Fact.num r2).P (vs 6) wD := hd 6 (by decide)
  have d7 : (Jo.Fact.eq (.bool true)).P (vs 7) wD := hd 7 (by decide)
  have d8 : (Jo.Fact.eq (.bool true)).P (vs 8) wD := hd 8 (by decide)
  clear hd
  simp only [Jo.putl, List.foldl_cons, List.foldl_nil, Act.put, List.setIfInBounds_toArray, List.set_cons_zero, List.set_cons_succ]
  generalize vs 0 = u0 at d0 ⊢
  generalize vs 1 = u1 at d1 ⊢
  generalize vs 2 = u2 at d2 ⊢
  generalize vs 3 = u3 at d3 ⊢
  generalize vs 4 = u4 at d4 ⊢
  generalize vs 5 = u5 at d5 ⊢
  generalize vs 6 = u6 at d6 ⊢
  generalize vs 7 = u7 at d7 ⊢
  generalize vs 8 = u8 at d8 ⊢
  clear vs
  replace d0 : u0 = _ := d0
  subst d0
  replace d1 : u1 = _ := d1
  subst d1
  replace d2 : u2 = _ := d2
  subst d2
  obtain ⟨K3, s3, M3, E3, rfl, _⟩ := d3
  replace d4 : u4 = _ := d4
  subst d4
  replace d5 : u5 = _ := d5
  subst d5
  obtain ⟨K4, s4, M4, E4, rfl, _⟩ := d6
  replace d7 : u7 = _ := d7
  subst d7
  replace d8 : u8 = _ := d8
  subst d8
  replace X0 := X0.below hJ
  replace X1 := X1.below hJ
  replace X8 := X8.below hJ
  replace X10 := X10.below hJ
  replace X12 := X12.below hJ
  replace X13 := X13.below hJ
  replace hT := hT.below hJ
  replace hT2 := hT2.below hJ
  replace ps := ps.below hJ
  replace pm := pm.below hJ
  replace HB := Lib.hid (bt HB.out hJ)
  refine Jo.jdone (by kernel_rfl) ?_
  go_upto_region 11 with (fail)
  refine Jo.region_joint (T := [0, 1, 2, 3, 4, 5, 6, 7, 8]) (ds := [some 65, some 66, some 67, some 68, some 69, some 70, some 71, some 72, some 15]) (ls := [[], [], [], [1, 2], [], [], [4, 5], [0, 3, 6], [7]]) (k := 9) (L := [(some 65, 0), (some 66, 1), (some 67, 2), (some 68, 3), (some 69, 4), (some 70, 5), (some 71, 6), (some 72, 7), (some 15, 8)]) (fuel := 0) (J := fun wj => Below (World.heap wD).size wD wj)
    (F := [Jo.Fact.eq (.agg #[.bool sm, .slice Am nm cm, .int .i64 Q.2]), Jo.Fact.eq (.agg #[.int .i64 D0, .bool s0, .int .u64 M0, .int .i64 E0]), Jo.Fact.eq (.agg #[.int .i64 D1, .bool s1, .int .u64 M1, .int .i64 E1]), Jo.Fact.num m, Jo.Fact.eq (.agg #[.int .i64 D0, .bool s0, .int .u64 M0, .int .i64 E0]), Jo.Fact.eq (.agg #[.int .i64 D1, .bool s1, .int .u64 M1, .int .i64 E1]), Jo.Fact.num m2, Jo.Fact.eq (.bool true), Jo.Fact.eq (.bool true)])
    (by kernel_rfl) (by kernel_rfl) (by decide) rfl rfl (fun _ _ h b => bt h b) ((Below.refl _ _).drew) ?_ (fun vs wE hJ hd => ?_)
  · refine Jo.jcons (i := 0) (o := ⟨some 65, _, _, _, _, _⟩) (di := some 65) (L := []) (f := Jo.Fact.eq (.agg #[.bool sm, .slice Am nm cm, .int .i64 Q.2])) rfl rfl rfl rfl (fun vs wj hJ hd K hK => ?_) ?_
    · clear hd
      simp only [Jo.putl, List.foldl_nil, Act.put, List.setIfInBounds_toArray, List.set_cons_zero, List.set_cons_succ] at hK ⊢
      have xX130 : World.cell? wj ⟨wB.heap.size, 0, none⟩ = some (.bool sm) := (X13.below hJ).cell 0
      have xX131 : World.cell? wj ⟨wB.heap.size, 1, none⟩ = some (.slice Am nm cm) := (X13.below hJ).cell 1
      have xX132 : World.cell? wj ⟨wB.heap.size, 2, none⟩ = some (.int .i64 Q.2) := (X13.below hJ).cell 2
      go_simp
      exact hK.out _ _ rfl (Below.refl _ _)
    refine Jo.jcons (i := 1) (o := ⟨some 66, _, _, _, _, _⟩) (di := some 66) (L := []) (f := Jo.Fact.eq (.agg #[.int .i64 D0, .bool s0, .int .u64 M0, .int .i64 E0])) rfl rfl rfl rfl (fun vs wj hJ hd K hK => ?_) ?_
    · clear hd
      simp only [Jo.putl, List.foldl_nil, Act.put, List.setIfInBounds_toArray, List.set_cons_zero, List.set_cons_succ] at hK ⊢
      have xX00 : World.cell? wj ⟨w.heap.size, 0, none⟩ = some (.int .i64 D0) := (X0.below hJ).cell 0
      have xX01 : World.cell? wj ⟨w.heap.size, 1, none⟩ = some (.bool s0) := (X0.below hJ).cell 1
      have xX02 : World.cell? wj ⟨w.heap.size, 2, none⟩ = some (.int .u64 M0) := (X0.below hJ).cell 2
      have xX03 : World.cell? wj ⟨w.heap.size, 3, none⟩ = some (.int .i64 E0) := (X0.below hJ).cell 3
      go_simp
      exact hK.out _ _ rfl (Below.refl _ _)
    refine Jo.jcons (i := 2) (o := ⟨some 67, _, _, _, _, _⟩) (di := some 67) (L := []) (f := Jo.Fact.eq (.agg #[.int .i64 D1, .bool s1, .int .u64 M1, .int .i64 E1])) rfl rfl rfl rfl (fun vs wj hJ hd K hK => ?_) ?_
    · clear hd
      simp only [Jo.putl, List.foldl_nil, Act.put, List.setIfInBounds_toArray, List.set_cons_zero, List.set_cons_succ] at hK ⊢
      have xX10 : World.cell? wj ⟨w.heap.size + 1, 0, none⟩ = some (.int .i64 D1) := (X1.below hJ).cell 0
      have xX11 : World.cell? wj ⟨w.heap.size + 1, 1, none⟩ = some (.bool s1) := (X1.below hJ).cell 1
      have xX12 : World.cell? wj ⟨w.heap.size + 1, 2, none⟩ = some (.int .u64 M1) := (X1.below hJ).cell 2
      have xX13 : World.cell? wj ⟨w.heap.size + 1, 3, none⟩ = some (.int .i64 E1) := (X1.below hJ).cell 3
      go_simp
      exact hK.out _ _ rfl (Below.refl _ _)
    refine Jo.jcons (i := 3) (o := ⟨some 68, _, _, _, _, _⟩) (di := some 68) (L := [(some 66, 1), (some 67, 2)]) (f := Jo.Fact.num m) rfl rfl rfl rfl (fun vs wj hJ hd K hK => ?_) ?_
    · have d1 : (Jo.Fact.eq (.agg #[.int .i64 D0, .bool s0, .int .u64 M0, .int .i64 E0])).P (vs 1) wj := hd 1 (by decide)
      have d2 : (Jo.Fact.eq (.agg #[.int .i64 D1, .bool s1, .int .u64 M1, .int .i64 E1])).P (vs 2) wj := hd 2 (by decide)
      clear hd
      simp only [Jo.putl, List.foldl_cons, List.foldl_nil, Act.put, List.setIfInBounds_toArray, List.set_cons_zero, List.set_cons_succ] at hK ⊢
      generalize vs 1 = u1 at hK d1 ⊢
      generalize vs 2 = u2 at hK d2 ⊢
      replace d1 : u1 = _ := d1
      subst d1
      replace d2 : u2 = _ := d2
      subst d2
      go_simp
      refine (aMul u0 u1 HX.out HY.out HM.out).mono ?_
      rintro ee wk ⟨K5, s5, M5, E5, rfl, q5, B⟩
      exact hK.out _ _ ⟨K5, s5, M5, E5, rfl, q5⟩ B
    refine Jo.jcons (i := 4) (o := ⟨some 69, _, _, _, _, _⟩) (di := some 69) (L := []) (f := Jo.Fact.eq (.agg #[.int .i64 D0, .bool s0, .int .u64 M0, .int .i64 E0])) rfl rfl rfl rfl (fun vs wj hJ hd K hK => ?_) ?_
    · clear hd
      simp only [Jo.putl, List.foldl_nil, Act.put, List.setIfInBounds_toArray, List.set_cons_zero, List.set_cons_succ] at hK ⊢
      have xX00 : World.cell? wj ⟨w.heap.size, 0, none⟩ = some (.int .i64 D0) := (X0.below hJ).cell 0
      have xX01 : World.cell? wj ⟨w.heap.size, 1, none⟩ = some (.bool s0) := (X0.below hJ).cell 1
      have xX02 : World.cell? wj ⟨w.heap.size, 2, none⟩ = some (.int .u64 M0) := (X0.below hJ).cell 2
      have xX03 : World.cell? wj ⟨w.heap.size, 3, none⟩ = some (.int .i64 E0) := (X0.below hJ).cell 3
      go_simp
      exact hK.out _ _ rfl (Below.refl _ _)
    refine Jo.jcons (i := 5) (o := ⟨some 70, _, _, _, _, _⟩) (di := some 70) (L := []) (f := Jo.Fact.eq (.agg #[.int .i64 D1, .bool s1, .int .u64 M1, .int .i64 E1])) rfl rfl rfl rfl (fun vs wj hJ hd K hK => ?_) ?_
    · clear hd
      simp only [Jo.putl, List.foldl_nil, Act.put, List.setIfInBounds_toArray, List.set_cons_zero, List.set_cons_succ] at hK ⊢
      have xX10 : World.cell? wj ⟨w.heap.size + 1, 0, none⟩ = some (.int .i64 D1) := (X1.below hJ).cell 0
      have xX11 : World.cell? wj ⟨w.heap.size + 1, 1, none⟩ = some (.bool s1) := (X1.below hJ).cell 1
      have xX12 : World.cell? wj ⟨w.heap.size + 1, 2, none⟩ = some (.int .u64 M1) := (X1.below hJ).cell 2
      have xX13 : World.cell? wj ⟨w.heap.size + 1, 3, none⟩ = some (.int .i64 E1) := (X1.below hJ).cell 3
      go_simp
      exact hK.out _ _ rfl (Below.refl _ _)
    refine Jo.jcons (i := 6) (o := ⟨some 71, _, _, _, _, _⟩) (di := some 71) (L := [(some 69, 4), (some 70, 5)]) (f := Jo.Fact.num m2) rfl rfl rfl rfl (fun vs wj hJ hd K hK => ?_) ?_
    · have d4 : (Jo.Fact.eq (.agg #[.int .i64 D0, .bool s0, .int .u64 M0, .int .i64 E0])).P (vs 4) wj := hd 4 (by decide)
      have d5 : (Jo.Fact.eq (.agg #[.int .i64 D1, .bool s1, .int .u64 M1, .int .i64 E1])).P (vs 5) wj := hd 5 (by decide)
      clear hd
      simp only [Jo.putl, List.foldl_cons, List.foldl_nil, Act.put, List.setIfInBounds_toArray, List.set_cons_zero, List.set_cons_succ] at hK ⊢
      generalize vs 4 = u4 at hK d4 ⊢
      generalize vs 5 = u5 at hK d5 ⊢
      replace d4 : u4 = _ := d4
      subst d4
      replace d5 : u5 = _ := d5
      subst d5
      go_simp
      refine (aMul u0 u1 HX.out HY.out HM2.out).mono ?_
      rintro ee wk ⟨K6, s6, M6, E6, rfl, q6, B⟩
      exact hK.out _ _ ⟨K6, s6, M6, E6, rfl, q6⟩ B
    refine Jo.jcons (i := 7) (o := ⟨some 72, _, _, _, _, _⟩) (di := some 72) (L := [(some 65, 0), (some 68, 3), (some 71, 6)]) (f := Jo.Fact.eq (.bool true)) rfl rfl rfl rfl (fun vs wj hJ hd K hK => ?_) ?_
    · have d0 : (Jo.Fact.eq (.agg #[.bool sm, .slice Am nm cm, .int .i64 Q.2])).P (vs 0) wj := hd 0 (by decide)
      have d3 : (Jo.Fact.num m).P (vs 3) wj := hd 3 (by decide)
      have d6 : (Jo.Fact.num m2).P (vs 6) wj := hd 6 (by decide)
      clear hd
      simp only [Jo.putl, List.foldl_cons, List.foldl_nil, Act.put, List.setIfInBounds_toArray, List.set_cons_zero, List.set_cons_succ] at hK ⊢
      generalize vs 0 = u0 at hK d0 ⊢
      generalize vs 3 = u3 at hK d3 ⊢
      generalize vs 6 = u6 at hK d6 ⊢
      replace d0 : u0 = _ := d0
      subst d0
      obtain ⟨K5, s5, M5, E5, rfl, q5⟩ := d3
      obtain ⟨K6, s6, M6, E6, rfl, q6⟩ := d6
      go_simp
      refine (aHolds (hT2.below hJ) (pm.wr.below hJ) (by omega) q5 q6 HS2.out).mono ?_
      rintro ee wk ⟨rfl, B⟩
      exact hK.out _ _ rfl B
    refine Jo.jcons (i := 8) (o := ⟨some 15, _, _, _, _, _⟩) (di := some 15) (L := [(some 72, 7)]) (f := Jo.Fact.eq (.bool true)) rfl rfl rfl rfl (fun vs wj hJ hd K hK => ?_) ?_
    · have d7 : (Jo.Fact.eq (.bool true)).P (vs 7) wj := hd 7 (by decide)
      clear hd
      simp only [Jo.putl, List.foldl_cons, List.foldl_nil, Act.put, List.setIfInBounds_toArray, List.set_cons_zero, List.set_cons_succ] at hK ⊢
      generalize vs 7 = u7 at hK d7 ⊢
      replace d7 : u7 = _ := d7
      subst d7
      go_simp
      exact hK.out _ _ rfl (Below.refl _ _)
    exact Jo.Steps.nil
  have d0 : (Jo.Fact.eq (.agg #[.bool sm, .slice Am nm cm, .int .i64 Q.2])).P (vs 0) wE := hd 0 (by decide)
  have d1 : (Jo.Fact.eq (.agg #[.int .i64 D0, .bool s0, .int .u64 M0, .int .i64 E0])).P (vs 1) wE := hd 1 (by decide)
  have d2 : (Jo.Fact.eq (.agg #[.int .i64 D1, .bool s1, .int .u64 M1, .int .i64 E1])).P (vs 2) wE := hd 2 (by decide)
  have d3 : (Jo.Fact.num m).P (vs 3) wE := hd 3 (by decide)
  have d4 : (Jo.Fact.eq (.agg #[.int .i64 D0, .bool s0, .int .u64 M0, .int .i64 E0])).P (vs 4) wE := hd 4 (by decide)
  have d5 : (Jo.Fact.eq (.agg #[.int .i64 D1, .bool s1, .int .u64 M1, .int .i64 E1])).P (vs 5) wE := hd 5 (by decide)
  have d6 : (Jo.Fact.num m2).P (vs 6) wE := hd 6 (by decide)
  have d7 : (Jo.Fact.eq (.bool true)).P (vs 7) wE := hd 7 (by decide)
  have d8 : (Jo.Fact.eq (.bool true)).P (vs 8) wE := hd 8 (by decide)
  clear hd
  simp only [Jo.putl, List.foldl_cons, List.foldl_nil, Act.put, List.setIfInBounds_toArray, List.set_cons_zero, List.set_cons_succ]
  generalize vs 0 = u0 at d0 ⊢
  generalize vs 1 = u1 at d1 ⊢
  generalize vs 2 = u2 at d2 ⊢
  generalize vs 3 = u3 at d3 ⊢
  generalize vs 4 = u4 at d4 ⊢
  generalize vs 5 = u5 at d5 ⊢
  generalize vs 6 = u6 at d6 ⊢
  generalize vs 7 = u7 at d7 ⊢
  generalize vs 8 = u8 at d8 ⊢
  clear vs
  replace d0 : u0 = _ := d0
  subst d0
  replace d1 : u1 = _ := d1
  subst d1
  replace d2 : u2 = _ := d2
  subst d2
  obtain ⟨K5, s5, M5, E5, rfl, _⟩ := d3
  replace d4 : u4 = _ := d4
  subst d4
  replace d5 : u5 = _ := d5
  subst d5
  obtain ⟨K6, s6, M6, E6, rfl, _⟩ := d6
  replace d7 : u7 = _ := d7
  subst d7
  replace d8 : u8 = _ := d8
  subst d8
  replace X0 := X0.below hJ
  replace X1 := X1.below hJ
  replace X8 := X8.below hJ
  replace X10 := X10.below hJ
  replace X12 := X12.below hJ
  replace X13 := X13.below hJ
  replace hT := hT.below hJ
  replace hT2 := hT2.below hJ
  replace ps := ps.below hJ
  replace pm := pm.below hJ
  replace HB := Lib.hid (bt HB.out hJ)
  refine Jo.jdone (by kernel_rfl) ?_
  go_wp2
  go_ret
  exact ⟨rfl, HB.out⟩

theorem arithHolds_walk (D0 : Int) (s0 : Bool) (M0 E0 : Int) (D1 : Int) (s1 : Bool) (M1 E1 : Int) (w : World) (hT : Tb w) (hT2 : Tab w) (w0 : 0 ≤ M0) (u0 : M0 < 18446744073709551616) (w1 : 0 ≤ M1) (u1 : M1 < 18446744073709551616) :
    Calls Tryd.prog 6 #[.agg #[.int .i64 D0, .bool s0, .int .u64 M0, .int .i64 E0], .agg #[.int .i64 D1, .bool s1, .int .u64 M1, .int .i64 E1]] w fun e w' => e = .returned (.bool true) ∧ Below w.heap.size w w' := by
  cases hp : fewq D0 E0
  · exact arithHolds_far0 D0 s0 M0 E0 D1 s1 M1 E1 w _ _ _ hT hT2 w0 u0 w1 u1 hp rfl rfl rfl
  · cases hq : fewq D1 E1
    · exact arithHolds_far1 D0 s0 M0 E0 D1 s1 M1 E1 w _ _ hT hT2 w0 u0 w1 u1 hp hq rfl rfl
    · cases ha : exb D0 s0 M0 E0
      · exact arithHolds_far2 D0 s0 M0 E0 D1 s1 M1 E1 w _ hT hT2 w0 u0 w1 u1 hp hq ha rfl
      · cases hb : exb D1 s1 M1 E1
        · exact arithHolds_far3 D0 s0 M0 E0 D1 s1 M1 E1 w hT hT2 w0 u0 w1 u1 hp hq ha hb
        · exact arithHolds_main D0 s0 M0 E0 D1 s1 M1 E1 w hT hT2 w0 u0 w1 u1 hp hq ha hb
end Go.Proofs.YtbhnpmkdmnnclaaDoor

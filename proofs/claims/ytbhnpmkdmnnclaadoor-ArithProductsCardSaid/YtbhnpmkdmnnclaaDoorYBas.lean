/-
  Contracts and words that the statement's proof rests on, several texts in one: Ej, Kl, Kq.
-/
import Derived.Below
import Derived.BigQuiet
import Derived.Carry
import Derived.Deep.DeepCutAuto
import Derived.Deep.Draws
import Derived.Deep.MidRow
import Derived.Deep.QuietTactic
import Derived.Deep.RegionHeld3
import Derived.Deep.RegionWith
import Derived.IntWalk
import Derived.Laws.CopyOwn
import Derived.Laws.MakeOwn
import Derived.Laws.OwnMore
import Derived.Laws.Rows
import Derived.Lib.BitFns
import Derived.Lib.Hide
import Derived.Maps.AppendAt
import Derived.StillTailTactics
import Derived.Test.YtbhnpmkdmnnclaaDoorRows
import Derived.WalkKit
import Derived.WalkLawsBesides
import Derived.WalkSpells
import Derived.Test.YtbhnpmkdmnnclaaDoorYBag
import Derived.Test.YtbhnpmkdmnnclaaDoorYBai
import Derived.Test.YtbhnpmkdmnnclaaDoorYBal
import Derived.Test.YtbhnpmkdmnnclaaDoorYBao
import Derived.Test.YtbhnpmkdmnnclaaDoorYBar
/-
  What pelorusref03.Two does: the sum of two.
-/
namespace Go.Proofs.YtbhnpmkdmnnclaaDoor
open Go.RowKit
set_option linter.unusedVariables false
set_option maxRecDepth 100000

set_option maxHeartbeats 4000000 in
theorem q3two_l {w : World} {A B : Option Addr} {n c m d : Nat} {s t : Bool} {z e y f N1 E1 N2 E2 : Int} (h : Wr w s A n c z) (k : Wr w t B m d y) (hn : n ≤ 20000) (hm : m ≤ 20000)
    (HN1 : Hid ((mk z e).1 = N1)) (HE1 : Hid ((mk z e).2 = E1)) (HN2 : Hid ((mk y f).1 = N2)) (HE2 : Hid ((mk y f).2 = E2)) (h1 : N1 = 0) :
    Calls Tryd.prog 43 #[.agg #[.bool s, .slice A n c, .int .i64 e], .agg #[.bool t, .slice B m d, .int .i64 f]] w (D1 w m N2 E2) := by
  go_enter Tryd.func43, Tryd.ntmps43
  go_upto_region 1 with (fail)
  have X1 := (Bo.newAt w (g := w.heap.size) (by simp) #[.bool s, .slice A n c, .int .i64 e] 39).below (bel2 _ (.cells #[.bool t, .slice B m d, .int .i64 f] 39) (.cells #[.bool false, .slice none 0 0, .int .i64 0] 39))
  have X2 := (Bo.newAt (w.alloc (.cells #[.bool s, .slice A n c, .int .i64 e] 39)) (g := w.heap.size + 1) (by simp) #[.bool t, .slice B m d, .int .i64 f] 39).below (bel1 _ (.cells #[.bool false, .slice none 0 0, .int .i64 0] 39))
  have XR := (Bo.newAt ((w.alloc (.cells #[.bool s, .slice A n c, .int .i64 e] 39)).alloc (.cells #[.bool t, .slice B m d, .int .i64 f] 39)) (g := w.heap.size + 1 + 1) (by simp) #[.bool false, .slice none 0 0, .int .i64 0] 39)
  have HB := Lib.hid (bel3 w (.cells #[.bool s, .slice A n c, .int .i64 e] 39) (.cells #[.bool t, .slice B m d, .int .i64 f] 39) (.cells #[.bool false, .slice none 0 0, .int .i64 0] 39))
  replace h := h.below HB.out
  replace k := k.below HB.out
  generalize hW1 : (((w.alloc (.cells #[.bool s, .slice A n c, .int .i64 e] 39)).alloc (.cells #[.bool t, .slice B m d, .int .i64 f] 39)).alloc (.cells #[.bool false, .slice none 0 0, .int .i64 0] 39)) = w1 at *
  clear hW1
  have xX10 := X1.at (i := 0) (v := .bool s) rfl
  have xX11 := X1.at (i := 1) (v := .slice A n c) rfl
  have xX12 := X1.at (i := 2) (v := .int .i64 e) rfl
  go_wp2_with fail
  refine (q3Make h (by omega) HN1.out HE1.out).mono ?_
  rintro ee w2 ⟨s1, A1, n1, c1, rfl, p1, k1, B⟩
  clear xX10 xX11 xX12
  replace X1 := X1.below B
  replace X2 := X2.below B
  replace XR := XR.below B
  replace h := h.below B
  replace k := k.below B
  replace HB := Lib.hid (bt HB.out B)
  clear B
  have xX20 := X2.at (i := 0) (v := .bool t) rfl
  have xX21 := X2.at (i := 1) (v := .slice B m d) rfl
  have xX22 := X2.at (i := 2) (v := .int .i64 f) rfl
  go_upto_region 2 with (fail)
  clear xX20 xX21 xX22
  have lX5 := Nat.le_refl (World.heap w2).size
  have nX5X2 := X2.lt
  have nX5XR := XR.lt
  replace X2 := X2.below (bel1 _ (.cells #[.bool s1, .slice A1 n1 c1, .int .i64 E1] 39))
  replace XR := XR.below (bel1 _ (.cells #[.bool s1, .slice A1 n1 c1, .int .i64 E1] 39))
  replace k := k.below (bel1 _ (.cells #[.bool s1, .slice A1 n1 c1, .int .i64 E1] 39))
  replace p1 := p1.below (bel1 _ (.cells #[.bool s1, .slice A1 n1 c1, .int .i64 E1] 39))
  replace HB := Lib.hid (bt HB.out (bel1 _ (.cells #[.bool s1, .slice A1 n1 c1, .int .i64 E1] 39)))
  have X5 := Bo.new w2 #[.bool s1, .slice A1 n1 c1, .int .i64 E1] 39
  generalize hWn : World.alloc w2 (.cells #[.bool s1, .slice A1 n1 c1, .int .i64 E1] 39) = w3 at *
  clear hWn
  have xX20 := X2.at (i := 0) (v := .bool t) rfl
  have xX21 := X2.at (i := 1) (v := .slice B m d) rfl
  have xX22 := X2.at (i := 2) (v := .int .i64 f) rfl
  go_wp2_with fail
  refine (q3Make k (by omega) HN2.out HE2.out).mono ?_
  rintro ee w4 ⟨s2, A2, n2, c2, rfl, p2, k2, B⟩
  clear xX20 xX21 xX22
  replace X2 := X2.below B
  replace XR := XR.below B
  replace X5 := X5.below B
  replace k := k.below B
  replace p1 := p1.below B
  replace HB := Lib.hid (bt HB.out B)
  clear B
  go_upto_region 3 with (fail)
  have lX6 := Nat.le_refl (World.heap w4).size
  have nX6XR := XR.lt
  have nX6X5 := X5.lt
  replace XR := XR.below (bel1 _ (.cells #[.bool s2, .slice A2 n2 c2, .int .i64 E2] 39))
  replace X5 := X5.below (bel1 _ (.cells #[.bool s2, .slice A2 n2 c2, .int .i64 E2] 39))
  replace p1 := p1.below (bel1 _ (.cells #[.bool s2, .slice A2 n2 c2, .int .i64 E2] 39))
  replace p2 := p2.below (bel1 _ (.cells #[.bool s2, .slice A2 n2 c2, .int .i64 E2] 39))
  replace HB := Lib.hid (bt HB.out (bel1 _ (.cells #[.bool s2, .slice A2 n2 c2, .int .i64 E2] 39)))
  have X6 := Bo.new w4 #[.bool s2, .slice A2 n2 c2, .int .i64 E2] 39
  generalize hWn : World.alloc w4 (.cells #[.bool s2, .slice A2 n2 c2, .int .i64 E2] 39) = w5 at *
  clear hWn
  clear lX6
  have hz : n1 = 0 := by have := p1.1.pos; omega
  subst hz
  have xX50 := X5.at (i := 0) (v := .bool s1) rfl
  have xX51 := X5.at (i := 1) (v := .slice A1 0 c1) rfl
  have xX52 := X5.at (i := 2) (v := .int .i64 E1) rfl
  have xX60 := X6.at (i := 0) (v := .bool s2) rfl
  have xX61 := X6.at (i := 1) (v := .slice A2 n2 c2) rfl
  have xX62 := X6.at (i := 2) (v := .int .i64 E2) rfl
  have xXR0 := XR.at (i := 0) (v := .bool false) rfl
  have zXR0 := XR.frozen 0
  have xXR1 := XR.at (i := 1) (v := .slice none 0 0) rfl
  have zXR1 := XR.frozen 1
  have xXR2 := XR.at (i := 2) (v := .int .i64 0) rfl
  have zXR2 := XR.frozen 2
  go_wp2
  clear xX50 xX51 xX52 xX60 xX61 xX62 xXR0 zXR0 xXR1 zXR1 xXR2 zXR2
  have SX := StN.mk3 XR (.bool s2) (.slice A2 n2 c2) (.int .i64 E2)
  replace p2 := p2.stn SX (by simp [no32])
  replace HB := Lib.hid (SX.below HB.out (by omega))
  replace XR := SX.box
  clear SX
  generalize (World.setCell (World.setCell (World.setCell w5 ⟨w.heap.size + 1 + 1, 0, none⟩ (.bool s2)) ⟨w.heap.size + 1 + 1, 1, none⟩ (.slice A2 n2 c2)) ⟨w.heap.size + 1 + 1, 2, none⟩ (.int .i64 E2)) = w6 at *
  have r0 := XR.cell 0
  have r1 := XR.cell 1
  have r2 := XR.cell 2
  exact bodyPost_ret (v := .agg #[.bool s2, .slice A2 n2 c2, .int .i64 E2]) (by simp [results, Tryd.results43, go_sem, r0, r1, r2]) rfl ⟨s2, _, _, _, rfl, p2, k2, HB.out⟩

set_option maxHeartbeats 4000000 in
theorem q3two_r {w : World} {A B : Option Addr} {n c m d : Nat} {s t : Bool} {z e y f N1 E1 N2 E2 : Int} (h : Wr w s A n c z) (k : Wr w t B m d y) (hn : n ≤ 20000) (hm : m ≤ 20000)
    (HN1 : Hid ((mk z e).1 = N1)) (HE1 : Hid ((mk z e).2 = E1)) (HN2 : Hid ((mk y f).1 = N2)) (HE2 : Hid ((mk y f).2 = E2)) (h1 : N1 ≠ 0) (h2 : N2 = 0) :
    Calls Tryd.prog 43 #[.agg #[.bool s, .slice A n c, .int .i64 e], .agg #[.bool t, .slice B m d, .int .i64 f]] w (D1 w n N1 E1) := by
  go_enter Tryd.func43, Tryd.ntmps43
  go_upto_region 1 with (fail)
  have X1 := (Bo.newAt w (g := w.heap.size) (by simp) #[.bool s, .slice A n c, .int .i64 e] 39).below (bel2 _ (.cells #[.bool t, .slice B m d, .int .i64 f] 39) (.cells #[.bool false, .slice none 0 0, .int .i64 0] 39))
  have X2 := (Bo.newAt (w.alloc (.cells #[.bool s, .slice A n c, .int .i64 e] 39)) (g := w.heap.size + 1) (by simp) #[.bool t, .slice B m d, .int .i64 f] 39).below (bel1 _ (.cells #[.bool false, .slice none 0 0, .int .i64 0] 39))
  have XR := (Bo.newAt ((w.alloc (.cells #[.bool s, .slice A n c, .int .i64 e] 39)).alloc (.cells #[.bool t, .slice B m d, .int .i64 f] 39)) (g := w.heap.size + 1 + 1) (by simp) #[.bool false, .slice none 0 0, .int .i64 0] 39)
  have HB := Lib.hid (bel3 w (.cells #[.bool s, .slice A n c, .int .i64 e] 39) (.cells #[.bool t, .slice B m d, .int .i64 f] 39) (.cells #[.bool false, .slice none 0 0, .int .i64 0] 39))
  replace h := h.below HB.out
  replace k := k.below HB.out
  generalize hW1 : (((w.alloc (.cells #[.bool s, .slice A n c, .int .i64 e] 39)).alloc (.cells #[.bool t, .slice B m d, .int .i64 f] 39)).alloc (.cells #[.bool false, .slice none 0 0, .int .i64 0] 39)) = w1 at *
  clear hW1
  have xX10 := X1.at (i := 0) (v := .bool s) rfl
  have xX11 := X1.at (i := 1) (v := .slice A n c) rfl
  have xX12 := X1.at (i := 2) (v := .int .i64 e) rfl
  go_wp2_with fail
  refine (q3Make h (by omega) HN1.out HE1.out).mono ?_
  rintro ee w2 ⟨s1, A1, n1, c1, rfl, p1, k1, B⟩
  clear xX10 xX11 xX12
  replace X1 := X1.below B
  replace X2 := X2.below B
  replace XR := XR.below B
  replace h := h.below B
  replace k := k.below B
  replace HB := Lib.hid (bt HB.out B)
  clear B
  have xX20 := X2.at (i := 0) (v := .bool t) rfl
  have xX21 := X2.at (i := 1) (v := .slice B m d) rfl
  have xX22 := X2.at (i := 2) (v := .int .i64 f) rfl
  go_upto_region 2 with (fail)
  clear xX20 xX21 xX22
  have lX5 := Nat.le_refl (World.heap w2).size
  have nX5X2 := X2.lt
  have nX5XR := XR.lt
  replace X2 := X2.below (bel1 _ (.cells #[.bool s1, .slice A1 n1 c1, .int .i64 E1] 39))
  replace XR := XR.below (bel1 _ (.cells #[.bool s1, .slice A1 n1 c1, .int .i64 E1] 39))
  replace k := k.below (bel1 _ (.cells #[.bool s1, .slice A1 n1 c1, .int .i64 E1] 39))
  replace p1 := p1.below (bel1 _ (.cells #[.bool s1, .slice A1 n1 c1, .int .i64 E1] 39))
  replace HB := Lib.hid (bt HB.out (bel1 _ (.cells #[.bool s1, .slice A1 n1 c1, .int .i64 E1] 39)))
  have X5 := Bo.new w2 #[.bool s1, .slice A1 n1 c1, .int .i64 E1] 39
  generalize hWn : World.alloc w2 (.cells #[.bool s1, .slice A1 n1 c1, .int .i64 E1] 39) = w3 at *
  clear hWn
  have xX20 := X2.at (i := 0) (v := .bool t) rfl
  have xX21 := X2.at (i := 1) (v := .slice B m d) rfl
  have xX22 := X2.at (i := 2) (v := .int .i64 f) rfl
  go_wp2_with fail
  refine (q3Make k (by omega) HN2.out HE2.out).mono ?_
  rintro ee w4 ⟨s2, A2, n2, c2, rfl, p2, k2, B⟩
  clear xX20 xX21 xX22
  replace X2 := X2.below B
  replace XR := XR.below B
  replace X5 := X5.below B
  replace k := k.below B
  replace p1 := p1.below B
  replace HB := Lib.hid (bt HB.out B)
  clear B
  go_upto_region 3 with (fail)
  have lX6 := Nat.le_refl (World.heap w4).size
  have nX6XR := XR.lt
  have nX6X5 := X5.lt
  replace XR := XR.below (bel1 _ (.cells #[.bool s2, .slice A2 n2 c2, .int .i64 E2] 39))
  replace X5 := X5.below (bel1 _ (.cells #[.bool s2, .slice A2 n2 c2, .int .i64 E2] 39))
  replace p1 := p1.below (bel1 _ (.cells #[.bool s2, .slice A2 n2 c2, .int .i64 E2] 39))
  replace p2 := p2.below (bel1 _ (.cells #[.bool s2, .slice A2 n2 c2, .int .i64 E2] 39))
  replace HB := Lib.hid (bt HB.out (bel1 _ (.cells #[.bool s2, .slice A2 n2 c2, .int .i64 E2] 39)))
  have X6 := Bo.new w4 #[.bool s2, .slice A2 n2 c2, .int .i64 E2] 39
  generalize hWn : World.alloc w4 (.cells #[.bool s2, .slice A2 n2 c2, .int .i64 E2] 39) = w5 at *
  clear hWn
  clear lX6
  have hpa : 0 < n1 := by have := p1.1.pos; omega
  have qa : ((n1 : Int) == 0) = false := by have : (n1 : Int) ≠ 0 := by omega
                                            simpa using this
  have la := p1.1.rd.big
  have hz : n2 = 0 := by have := p2.1.pos; omega
  subst hz
  have xX50 := X5.at (i := 0) (v := .bool s1) rfl
  have xX51 := X5.at (i := 1) (v := .slice A1 n1 c1) rfl
  have xX52 := X5.at (i := 2) (v := .int .i64 E1) rfl
  have xX60 := X6.at (i := 0) (v := .bool s2) rfl
  have xX61 := X6.at (i := 1) (v := .slice A2 0 c2) rfl
  have xX62 := X6.at (i := 2) (v := .int .i64 E2) rfl
  have xXR0 := XR.at (i := 0) (v := .bool false) rfl
  have zXR0 := XR.frozen 0
  have xXR1 := XR.at (i := 1) (v := .slice none 0 0) rfl
  have zXR1 := XR.frozen 1
  have xXR2 := XR.at (i := 2) (v := .int .i64 0) rfl
  have zXR2 := XR.frozen 2
  go_wp2
  clear xX50 xX51 xX52 xX60 xX61 xX62 xXR0 zXR0 xXR1 zXR1 xXR2 zXR2
  have SX := StN.mk3 XR (.bool s1) (.slice A1 n1 c1) (.int .i64 E1)
  replace p1 := p1.stn SX (by simp [no32])
  replace HB := Lib.hid (SX.below HB.out (by omega))
  replace XR := SX.box
  clear SX
  generalize (World.setCell (World.setCell (World.setCell w5 ⟨w.heap.size + 1 + 1, 0, none⟩ (.bool s1)) ⟨w.heap.size + 1 + 1, 1, none⟩ (.slice A1 n1 c1)) ⟨w.heap.size + 1 + 1, 2, none⟩ (.int .i64 E1)) = w6 at *
  have r0 := XR.cell 0
  have r1 := XR.cell 1
  have r2 := XR.cell 2
  exact bodyPost_ret (v := .agg #[.bool s1, .slice A1 n1 c1, .int .i64 E1]) (by simp [results, Tryd.results43, go_sem, r0, r1, r2]) rfl ⟨s1, _, _, _, rfl, p1, k1, HB.out⟩

set_option maxHeartbeats 8000000 in
theorem q3sum_up {w : World} {A B : Option Addr} {n c m d : Nat} {s t : Bool} {z e y f N1 E1 N2 E2 N E : Int} (h : Wr w s A n c z) (k : Wr w t B m d y) (hn : n ≤ 20000) (hm : m ≤ 20000)
    (HN1 : Hid ((mk z e).1 = N1)) (HE1 : Hid ((mk z e).2 = E1)) (HN2 : Hid ((mk y f).1 = N2)) (HE2 : Hid ((mk y f).2 = E2)) (h1 : N1 ≠ 0) (h2 : N2 ≠ 0) (hle : E1 ≤ E2) (hfar : E2 - E1 ≤ 640000) (b1 : -4194304 ≤ E1) (b2 : E2 ≤ 4194304)
    (HN : Hid ((mk (N1 + N2 * ((2 ^ (E2 - E1).toNat : Nat) : Int)) E1).1 = N)) (HE : Hid ((mk (N1 + N2 * ((2 ^ (E2 - E1).toNat : Nat) : Int)) E1).2 = E)) :
    Calls Tryd.prog 43 #[.agg #[.bool s, .slice A n c, .int .i64 e], .agg #[.bool t, .slice B m d, .int .i64 f]] w (D1 w (n + m + 20010) N E) := by
  obtain ⟨δ, hδ⟩ : ∃ x, E2 - E1 = x := ⟨_, rfl⟩
  have HW : Hid (IntKind.i64.wrap (E2 - E1) = δ) := Lib.hid (by rw [hδ]; exact IntWalk.i64_in _ (by omega))
  have hd0 : 0 ≤ δ := by omega
  rw [hδ] at hfar HN HE
  have tle : decide (E2 < E1) = false := by simp; omega
  clear hδ
  go_enter Tryd.func43, Tryd.ntmps43
  go_upto_region 1 with (fail)
  have X1 := (Bo.newAt w (g := w.heap.size) (by simp) #[.bool s, .slice A n c, .int .i64 e] 39).below (bel2 _ (.cells #[.bool t, .slice B m d, .int .i64 f] 39) (.cells #[.bool false, .slice none 0 0, .int .i64 0] 39))
  have X2 := (Bo.newAt (w.alloc (.cells #[.bool s, .slice A n c, .int .i64 e] 39)) (g := w.heap.size + 1) (by simp) #[.bool t, .slice B m d, .int .i64 f] 39).below (bel1 _ (.cells #[.bool false, .slice none 0 0, .int .i64 0] 39))
  have XR := (Bo.newAt ((w.alloc (.cells #[.bool s, .slice A n c, .int .i64 e] 39)).alloc (.cells #[.bool t, .slice B m d, .int .i64 f] 39)) (g := w.heap.size + 1 + 1) (by simp) #[.bool false, .slice none 0 0, .int .i64 0] 39)
  have HB := Lib.hid (bel3 w (.cells #[.bool s, .slice A n c, .int .i64 e] 39) (.cells #[.bool t, .slice B m d, .int .i64 f] 39) (.cells #[.bool false, .slice none 0 0, .int .i64 0] 39))
  replace h := h.below HB.out
  replace k := k.below HB.out
  generalize hW1 : (((w.alloc (.cells #[.bool s, .slice A n c, .int .i64 e] 39)).alloc (.cells #[.bool t, .slice B m d, .int .i64 f] 39)).alloc (.cells #[.bool false, .slice none 0 0, .int .i64 0] 39)) = w1 at *
  clear hW1
  have xX10 := X1.at (i := 0) (v := .bool s) rfl
  have xX11 := X1.at (i := 1) (v := .slice A n c) rfl
  have xX12 := X1.at (i := 2) (v := .int .i64 e) rfl
  go_wp2_with fail
  refine (q3Make h (by omega) HN1.out HE1.out).mono ?_
  rintro ee w2 ⟨s1, A1, n1, c1, rfl, p1, k1, B⟩
  clear xX10 xX11 xX12
  replace X1 := X1.below B
  replace X2 := X2.below B
  replace XR := XR.below B
  replace h := h.below B
  replace k := k.below B
  replace HB := Lib.hid (bt HB.out B)
  clear B
  have xX20 := X2.at (i := 0) (v := .bool t) rfl
  have xX21 := X2.at (i := 1) (v := .slice B m d) rfl
  have xX22 := X2.at (i := 2) (v := .int .i64 f) rfl
  go_upto_region 2 with (fail)
  clear xX20 xX21 xX22
  have lX5 := Nat.le_refl (World.heap w2).size
  have nX5X2 := X2.lt
  have nX5XR := XR.lt
  replace X2 := X2.below (bel1 _ (.cells #[.bool s1, .slice A1 n1 c1, .int .i64 E1] 39))
  replace XR := XR.below (bel1 _ (.cells #[.bool s1, .slice A1 n1 c1, .int .i64 E1] 39))
  replace k := k.below (bel1 _ (.cells #[.bool s1, .slice A1 n1 c1, .int .i64 E1] 39))
  replace p1 := p1.below (bel1 _ (.cells #[.bool s1, .slice A1 n1 c1, .int .i64 E1] 39))
  replace HB := Lib.hid (bt HB.out (bel1 _ (.cells #[.bool s1, .slice A1 n1 c1, .int .i64 E1] 39)))
  have X5 := Bo.new w2 #[.bool s1, .slice A1 n1 c1, .int .i64 E1] 39
  generalize hWn : World.alloc w2 (.cells #[.bool s1, .slice A1 n1 c1, .int .i64 E1] 39) = w3 at *
  clear hWn
  have xX20 := X2.at (i := 0) (v := .bool t) rfl
  have xX21 := X2.at (i := 1) (v := .slice B m d) rfl
  have xX22 := X2.at (i := 2) (v := .int .i64 f) rfl
  go_wp2_with fail
  refine (q3Make k (by omega) HN2.out HE2.out).mono ?_
  rintro ee w4 ⟨s2, A2, n2, c2, rfl, p2, k2, B⟩
  clear xX20 xX21 xX22
  replace X2 := X2.below B
  replace XR := XR.below B
  replace X5 := X5.below B
  replace k := k.below B
  replace p1 := p1.below B
  replace HB := Lib.hid (bt HB.out B)
  clear B
  go_upto_region 3 with (fail)
  have lX6 := Nat.le_refl (World.heap w4).size
  have nX6XR := XR.lt
  have nX6X5 := X5.lt
  replace XR := XR.below (bel1 _ (.cells #[.bool s2, .slice A2 n2 c2, .int .i64 E2] 39))
  replace X5 := X5.below (bel1 _ (.cells #[.bool s2, .slice A2 n2 c2, .int .i64 E2] 39))
  replace p1 := p1.below (bel1 _ (.cells #[.bool s2, .slice A2 n2 c2, .int .i64 E2] 39))
  replace p2 := p2.below (bel1 _ (.cells #[.bool s2, .slice A2 n2 c2, .int .i64 E2] 39))
  replace HB := Lib.hid (bt HB.out (bel1 _ (.cells #[.bool s2, .slice A2 n2 c2, .int .i64 E2] 39)))
  have X6 := Bo.new w4 #[.bool s2, .slice A2 n2 c2, .int .i64 E2] 39
  generalize hWn : World.alloc w4 (.cells #[.bool s2, .slice A2 n2 c2, .int .i64 E2] 39) = w5 at *
  clear hWn
  clear lX6
  have hpa : 0 < n1 := by have := p1.1.pos; omega
  have qa : ((n1 : Int) == 0) = false := by have : (n1 : Int) ≠ 0 := by omega
                                            simpa using this
  have la := p1.1.rd.big
  have hpb : 0 < n2 := by have := p2.1.pos; omega
  have qb : ((n2 : Int) == 0) = false := by have : (n2 : Int) ≠ 0 := by omega
                                            simpa using this
  have lb := p2.1.rd.big
  clear h1 h2
  have xX50 := X5.at (i := 0) (v := .bool s1) rfl
  have xX51 := X5.at (i := 1) (v := .slice A1 n1 c1) rfl
  have xX52 := X5.at (i := 2) (v := .int .i64 E1) rfl
  have xX60 := X6.at (i := 0) (v := .bool s2) rfl
  have xX61 := X6.at (i := 1) (v := .slice A2 n2 c2) rfl
  have xX62 := X6.at (i := 2) (v := .int .i64 E2) rfl
  go_upto_region 11 with (fail)
  clear xX50 xX51 xX52 xX60 xX61 xX62
  have HC := Lib.hid (sg_scale s2 N2 (2 ^ δ.toNat) p2.wr.eq)
  have lt5 := X5.lt
  have lt6 := X6.lt
  have ltR := XR.lt
  refine Jo.region_joint (T := [0, 1, 2, 3, 4, 5, 6, 7, 8, 9, 10, 11, 12, 13]) (ds := [some 39, some 40, some 41, some 42, some 43, some 44, some 45, some 46, some 47, some 48, some 49, some 50, some 51, some 8, none]) (ls := [[], [0], [1], [], [3], [4], [], [6], [], [8], [7, 9], [5, 10], [2, 11], [], []]) (k := 15) (L := [(some 39, 0), (some 40, 1), (some 41, 2), (some 42, 3), (some 43, 4), (some 44, 5), (some 45, 6), (some 46, 7), (some 47, 8), (some 48, 9), (some 49, 10), (some 50, 11), (some 51, 12), (some 8, 13)]) (fuel := 1) (J := fun wj => Below (World.heap w5).size w5 wj)
    (F := [Jo.Fact.eq (.pointer (some ⟨w4.heap.size, 0, none⟩)), Jo.Fact.eq (.pointer (some ⟨w4.heap.size, 0, none⟩)), Jo.Fact.eq (.bool s2), Jo.Fact.eq (.pointer (some ⟨w4.heap.size, 0, none⟩)), Jo.Fact.eq (.pointer (some ⟨w4.heap.size, 1, none⟩)), Jo.Fact.eq (.slice A2 n2 c2), Jo.Fact.eq (.pointer (some ⟨w4.heap.size, 2, none⟩)), Jo.Fact.eq (.int .i64 E2), Jo.Fact.eq (.pointer (some ⟨w2.heap.size, 2, none⟩)), Jo.Fact.eq (.int .i64 E1), Jo.Fact.eq (.int .i64 δ), Jo.Fact.nm (N2.natAbs * 2 ^ δ.toNat) (n2 + δ.toNat / 32 + 1), Jo.Fact.wn (N2 * ((2 ^ δ.toNat : Nat) : Int)) (n2 + δ.toNat / 32 + 1), Jo.Fact.bo w5.heap.size #[.bool false, .slice none 0 0] 37, Jo.Fact.any])
    (by kernel_rfl) (by kernel_rfl) (by decide) rfl rfl (fun _ _ h b => bt h b) ((Below.refl _ _).drew) ?_ (fun vs w9 hJ hd => ?_)
  · refine Jo.jcons (i := 0) (o := ⟨some 39, _, _, _, _, _⟩) (di := some 39) (L := []) (f := Jo.Fact.eq (.pointer (some ⟨w4.heap.size, 0, none⟩))) rfl rfl rfl rfl (fun vs wj hJ hd K hK => ?_) ?_
    · clear hd
      simp only [Jo.putl, List.foldl_nil, Act.put, List.setIfInBounds_toArray, List.set_cons_zero, List.set_cons_succ] at hK ⊢
      go_simp
      exact hK.out _ _ rfl (Below.refl _ _)
    refine Jo.jcons (i := 1) (o := ⟨some 40, _, _, _, _, _⟩) (di := some 40) (L := [(some 39, 0)]) (f := Jo.Fact.eq (.pointer (some ⟨w4.heap.size, 0, none⟩))) rfl rfl rfl rfl (fun vs wj hJ hd K hK => ?_) ?_
    · have d0 : (Jo.Fact.eq (.pointer (some ⟨w4.heap.size, 0, none⟩))).P (vs 0) wj := hd 0 (by decide)
      clear hd
      simp only [Jo.putl, List.foldl_cons, List.foldl_nil, Act.put, List.setIfInBounds_toArray, List.set_cons_zero, List.set_cons_succ] at hK ⊢
      generalize vs 0 = u0 at hK d0 ⊢
      replace d0 : u0 = _ := d0
      subst d0
      go_simp
      exact hK.out _ _ rfl (Below.refl _ _)
    refine Jo.jcons (i := 2) (o := ⟨some 41, _, _, _, _, _⟩) (di := some 41) (L := [(some 40, 1)]) (f := Jo.Fact.eq (.bool s2)) rfl rfl rfl rfl (fun vs wj hJ hd K hK => ?_) ?_
    · have d1 : (Jo.Fact.eq (.pointer (some ⟨w4.heap.size, 0, none⟩))).P (vs 1) wj := hd 1 (by decide)
      clear hd
      simp only [Jo.putl, List.foldl_cons, List.foldl_nil, Act.put, List.setIfInBounds_toArray, List.set_cons_zero, List.set_cons_succ] at hK ⊢
      generalize vs 1 = u1 at hK d1 ⊢
      replace d1 : u1 = _ := d1
      subst d1
      have xX60 : World.cell? wj ⟨w4.heap.size, 0, none⟩ = some (.bool s2) := (X6.below hJ).cell 0
      have xX61 : World.cell? wj ⟨w4.heap.size, 1, none⟩ = some (.slice A2 n2 c2) := (X6.below hJ).cell 1
      have xX62 : World.cell? wj ⟨w4.heap.size, 2, none⟩ = some (.int .i64 E2) := (X6.below hJ).cell 2
      go_simp
      exact hK.out _ _ rfl (Below.refl _ _)
    refine Jo.jcons (i := 3) (o := ⟨some 42, _, _, _, _, _⟩) (di := some 42) (L := []) (f := Jo.Fact.eq (.pointer (some ⟨w4.heap.size, 0, none⟩))) rfl rfl rfl rfl (fun vs wj hJ hd K hK => ?_) ?_
    · clear hd
      simp only [Jo.putl, List.foldl_nil, Act.put, List.setIfInBounds_toArray, List.set_cons_zero, List.set_cons_succ] at hK ⊢
      go_simp
      exact hK.out _ _ rfl (Below.refl _ _)
    refine Jo.jcons (i := 4) (o := ⟨some 43, _, _, _, _, _⟩) (di := some 43) (L := [(some 42, 3)]) (f := Jo.Fact.eq (.pointer (some ⟨w4.heap.size, 1, none⟩))) rfl rfl rfl rfl (fun vs wj hJ hd K hK => ?_) ?_
    · have d3 : (Jo.Fact.eq (.pointer (some ⟨w4.heap.size, 0, none⟩))).P (vs 3) wj := hd 3 (by decide)
      clear hd
      simp only [Jo.putl, List.foldl_cons, List.foldl_nil, Act.put, List.setIfInBounds_toArray, List.set_cons_zero, List.set_cons_succ] at hK ⊢
      generalize vs 3 = u3 at hK d3 ⊢
      replace d3 : u3 = _ := d3
      subst d3
      go_simp
      exact hK.out _ _ rfl (Below.refl _ _)
    refine Jo.jcons (i := 5) (o := ⟨some 44, _, _, _, _, _⟩) (di := some 44) (L := [(some 43, 4)]) (f := Jo.Fact.eq (.slice A2 n2 c2)) rfl rfl rfl rfl (fun vs wj hJ hd K hK => ?_) ?_
    · have d4 : (Jo.Fact.eq (.pointer (some ⟨w4.heap.size, 1, none⟩))).P (vs 4) wj := hd 4 (by decide)
      clear hd
      simp only [Jo.putl, List.foldl_cons, List.foldl_nil, Act.put, List.setIfInBounds_toArray, List.set_cons_zero, List.set_cons_succ] at hK ⊢
      generalize vs 4 = u4 at hK d4 ⊢
      replace d4 : u4 = _ := d4
      subst d4
      have xX60 : World.cell? wj ⟨w4.heap.size, 0, none⟩ = some (.bool s2) := (X6.below hJ).cell 0
      have xX61 : World.cell? wj ⟨w4.heap.size, 1, none⟩ = some (.slice A2 n2 c2) := (X6.below hJ).cell 1
      have xX62 : World.cell? wj ⟨w4.heap.size, 2, none⟩ = some (.int .i64 E2) := (X6.below hJ).cell 2
      go_simp
      exact hK.out _ _ rfl (Below.refl _ _)
    refine Jo.jcons (i := 6) (o := ⟨some 45, _, _, _, _, _⟩) (di := some 45) (L := []) (f := Jo.Fact.eq (.pointer (some ⟨w4.heap.size, 2, none⟩))) rfl rfl rfl rfl (fun vs wj hJ hd K hK => ?_) ?_
    · clear hd
      simp only [Jo.putl, List.foldl_nil, Act.put, List.setIfInBounds_toArray, List.set_cons_zero, List.set_cons_succ] at hK ⊢
      go_simp
      exact hK.out _ _ rfl (Below.refl _ _)
    refine Jo.jcons (i := 7) (o := ⟨some 46, _, _, _, _, _⟩) (di := some 46) (L := [(some 45, 6)]) (f := Jo.Fact.eq (.int .i64 E2)) rfl rfl rfl rfl (fun vs wj hJ hd K hK => ?_) ?_
    · have d6 : (Jo.Fact.eq (.pointer (some ⟨w4.heap.size, 2, none⟩))).P (vs 6) wj := hd 6 (by decide)
      clear hd
      simp only [Jo.putl, List.foldl_cons, List.foldl_nil, Act.put, List.setIfInBounds_toArray, List.set_cons_zero, List.set_cons_succ] at hK ⊢
      generalize vs 6 = u6 at hK d6 ⊢
      replace d6 : u6 = _ := d6
      subst d6
      have xX60 : World.cell? wj ⟨w4.heap.size, 0, none⟩ = some (.bool s2) := (X6.below hJ).cell 0
      have xX61 : World.cell? wj ⟨w4.heap.size, 1, none⟩ = some (.slice A2 n2 c2) := (X6.below hJ).cell 1
      have xX62 : World.cell? wj ⟨w4.heap.size, 2, none⟩ = some (.int .i64 E2) := (X6.below hJ).cell 2
      go_simp
      exact hK.out _ _ rfl (Below.refl _ _)
    refine Jo.jcons (i := 8) (o := ⟨some 47, _, _, _, _, _⟩) (di := some 47) (L := []) (f := Jo.Fact.eq (.pointer (some ⟨w2.heap.size, 2, none⟩))) rfl rfl rfl rfl (fun vs wj hJ hd K hK => ?_) ?_
    · clear hd
      simp only [Jo.putl, List.foldl_nil, Act.put, List.setIfInBounds_toArray, List.set_cons_zero, List.set_cons_succ] at hK ⊢
      go_simp
      exact hK.out _ _ rfl (Below.refl _ _)
    refine Jo.jcons (i := 9) (o := ⟨some 48, _, _, _, _, _⟩) (di := some 48) (L := [(some 47, 8)]) (f := Jo.Fact.eq (.int .i64 E1)) rfl rfl rfl rfl (fun vs wj hJ hd K hK => ?_) ?_
    · have d8 : (Jo.Fact.eq (.pointer (some ⟨w2.heap.size, 2, none⟩))).P (vs 8) wj := hd 8 (by decide)
      clear hd
      simp only [Jo.putl, List.foldl_cons, List.foldl_nil, Act.put, List.setIfInBounds_toArray, List.set_cons_zero, List.set_cons_succ] at hK ⊢
      generalize vs 8 = u8 at hK d8 ⊢
      replace d8 : u8 = _ := d8
      subst d8
      have xX50 : World.cell? wj ⟨w2.heap.size, 0, none⟩ = some (.bool s1) := (X5.below hJ).cell 0
      have xX51 : World.cell? wj ⟨w2.heap.size, 1, none⟩ = some (.slice A1 n1 c1) := (X5.below hJ).cell 1
      have xX52 : World.cell? wj ⟨w2.heap.size, 2, none⟩ = some (.int .i64 E1) := (X5.below hJ).cell 2
      go_simp
      exact hK.out _ _ rfl (Below.refl _ _)
    refine Jo.jcons (i := 10) (o := ⟨some 49, _, _, _, _, _⟩) (di := some 49) (L := [(some 46, 7), (some 48, 9)]) (f := Jo.Fact.eq (.int .i64 δ)) rfl rfl rfl rfl (fun vs wj hJ hd K hK => ?_) ?_
    · have d7 : (Jo.Fact.eq (.int .i64 E2)).P (vs 7) wj := hd 7 (by decide)
      have d9 : (Jo.Fact.eq (.int .i64 E1)).P (vs 9) wj := hd 9 (by decide)
      clear hd
      simp only [Jo.putl, List.foldl_cons, List.foldl_nil, Act.put, List.setIfInBounds_toArray, List.set_cons_zero, List.set_cons_succ] at hK ⊢
      generalize vs 7 = u7 at hK d7 ⊢
      generalize vs 9 = u9 at hK d9 ⊢
      replace d7 : u7 = _ := d7
      subst d7
      replace d9 : u9 = _ := d9
      subst d9
      have hw := HW.out
      go_simp
      exact hK.out _ _ rfl (Below.refl _ _)
    refine Jo.jcons (i := 11) (o := ⟨some 50, _, _, _, _, _⟩) (di := some 50) (L := [(some 44, 5), (some 49, 10)]) (f := Jo.Fact.nm (N2.natAbs * 2 ^ δ.toNat) (n2 + δ.toNat / 32 + 1)) rfl rfl rfl rfl (fun vs wj hJ hd K hK => ?_) ?_
    · have d5 : (Jo.Fact.eq (.slice A2 n2 c2)).P (vs 5) wj := hd 5 (by decide)
      have d10 : (Jo.Fact.eq (.int .i64 δ)).P (vs 10) wj := hd 10 (by decide)
      clear hd
      simp only [Jo.putl, List.foldl_cons, List.foldl_nil, Act.put, List.setIfInBounds_toArray, List.set_cons_zero, List.set_cons_succ] at hK ⊢
      generalize vs 5 = u5 at hK d5 ⊢
      generalize vs 10 = u10 at hK d10 ⊢
      replace d5 : u5 = _ := d5
      subst d5
      replace d10 : u10 = _ := d10
      subst d10
      go_simp
      refine (rShlN (p2.below hJ).1.rd (by omega) hd0 (by omega) rfl).mono ?_
      rintro ee wk ⟨A7, n7, c7, rfl, p7, k7, B⟩
      exact hK.out _ _ ⟨A7, n7, c7, rfl, p7, k7⟩ B
    refine Jo.jcons (i := 12) (o := ⟨some 51, _, _, _, _, _⟩) (di := some 51) (L := [(some 41, 2), (some 50, 11)]) (f := Jo.Fact.wn (N2 * ((2 ^ δ.toNat : Nat) : Int)) (n2 + δ.toNat / 32 + 1)) rfl rfl rfl rfl (fun vs wj hJ hd K hK => ?_) ?_
    · have d2 : (Jo.Fact.eq (.bool s2)).P (vs 2) wj := hd 2 (by decide)
      have d11 : (Jo.Fact.nm (N2.natAbs * 2 ^ δ.toNat) (n2 + δ.toNat / 32 + 1)).P (vs 11) wj := hd 11 (by decide)
      clear hd
      simp only [Jo.putl, List.foldl_cons, List.foldl_nil, Act.put, List.setIfInBounds_toArray, List.set_cons_zero, List.set_cons_succ] at hK ⊢
      generalize vs 2 = u2 at hK d2 ⊢
      generalize vs 11 = u11 at hK d11 ⊢
      replace d2 : u2 = _ := d2
      subst d2
      obtain ⟨A7, n7, c7, rfl, p7, k7⟩ := d11
      go_simp
      refine (qMake s2 p7.rd).mono ?_
      rintro ee wk ⟨s8, A8, n8, c8, rfl, p8, k8, B⟩
      exact hK.out _ _ ⟨s8, A8, n8, c8, rfl, HC.out ▸ p8, Nat.le_trans k8 k7⟩ B
    refine Jo.jcons (i := 13) (o := ⟨some 8, _, _, _, _, _⟩) (di := some 8) (L := []) (f := Jo.Fact.bo w5.heap.size #[.bool false, .slice none 0 0] 37) rfl rfl rfl rfl (fun vs wj hJ hd K hK => ?_) ?_
    · clear hd
      simp only [Jo.putl, List.foldl_nil, Act.put, List.setIfInBounds_toArray, List.set_cons_zero, List.set_cons_succ] at hK ⊢
      go_simp
      exact hK.out _ _ ⟨_, rfl, hJ.size, Bo.new _ _ _⟩ (bel1 _ _)
    exact Jo.Steps.nil
  have d0 : (Jo.Fact.eq (.pointer (some ⟨w4.heap.size, 0, none⟩))).P (vs 0) w9 := hd 0 (by decide)
  have d1 : (Jo.Fact.eq (.pointer (some ⟨w4.heap.size, 0, none⟩))).P (vs 1) w9 := hd 1 (by decide)
  have d2 : (Jo.Fact.eq (.bool s2)).P (vs 2) w9 := hd 2 (by decide)
  have d3 : (Jo.Fact.eq (.pointer (some ⟨w4.heap.size, 0, none⟩))).P (vs 3) w9 := hd 3 (by decide)
  have d4 : (Jo.Fact.eq (.pointer (some ⟨w4.heap.size, 1, none⟩))).P (vs 4) w9 := hd 4 (by decide)
  have d5 : (Jo.Fact.eq (.slice A2 n2 c2)).P (vs 5) w9 := hd 5 (by decide)
  have d6 : (Jo.Fact.eq (.pointer (some ⟨w4.heap.size, 2, none⟩))).P (vs 6) w9 := hd 6 (by decide)
  have d7 : (Jo.Fact.eq (.int .i64 E2)).P (vs 7) w9 := hd 7 (by decide)
  have d8 : (Jo.Fact.eq (.pointer (some ⟨w2.heap.size, 2, none⟩))).P (vs 8) w9 := hd 8 (by decide)
  have d9 : (Jo.Fact.eq (.int .i64 E1)).P (vs 9) w9 := hd 9 (by decide)
  have d10 : (Jo.Fact.eq (.int .i64 δ)).P (vs 10) w9 := hd 10 (by decide)
  have d11 : (Jo.Fact.nm (N2.natAbs * 2 ^ δ.toNat) (n2 + δ.toNat / 32 + 1)).P (vs 11) w9 := hd 11 (by decide)
  have d12 : (Jo.Fact.wn (N2 * ((2 ^ δ.toNat : Nat) : Int)) (n2 + δ.toNat / 32 + 1)).P (vs 12) w9 := hd 12 (by decide)
  have d13 : (Jo.Fact.bo w5.heap.size #[.bool false, .slice none 0 0] 37).P (vs 13) w9 := hd 13 (by decide)
  clear hd
  simp only [Jo.putl, List.foldl_cons, List.foldl_nil, Act.put, List.setIfInBounds_toArray, List.set_cons_zero, List.set_cons_succ]
  generalize vs 0 = u0 at d0 ⊢
  generalize vs 1 = u1 at d1 ⊢
  generalize vs 2 = u2 at d2 ⊢
  generalize vs 3 = u3 at d3 ⊢
  generalize vs 4 = u4 at d4 ⊢
  generalize vs 5 = u5 at d5 ⊢
  generalize vs 6 = u6 at d6 ⊢
  generalize vs 7 = u7 at d7 ⊢
  generalize vs 8 = u8 at d8 ⊢
  generalize vs 9 = u9 at d9 ⊢
  generalize vs 10 = u10 at d10 ⊢
  generalize vs 11 = u11 at d11 ⊢
  generalize vs 12 = u12 at d12 ⊢
  generalize vs 13 = u13 at d13 ⊢
  clear vs
  replace d0 : u0 = _ := d0
  subst d0
  replace d1 : u1 = _ := d1
  subst d1
  replace d2 : u2 = _ := d2
  subst d2
  replace d3 : u3 = _ := d3
  subst d3
  replace d4 : u4 = _ := d4
  subst d4
  replace d5 : u5 = _ := d5
  subst d5
  replace d6 : u6 = _ := d6
  subst d6
  replace d7 : u7 = _ := d7
  subst d7
  replace d8 : u8 = _ := d8
  subst d8
  replace d9 : u9 = _ := d9
  subst d9
  replace d10 : u10 = _ := d10
  subst d10
  obtain ⟨A7, n7, c7, rfl, _, _⟩ := d11
  obtain ⟨s8, A8, n8, c8, rfl, p8, k8⟩ := d12
  obtain ⟨g8, rfl, hg8, X8⟩ := d13
  replace XR := XR.below hJ
  replace X5 := X5.below hJ
  replace X6 := X6.below hJ
  replace p1 := p1.below hJ
  replace p2 := p2.below hJ
  replace HB := Lib.hid (bt HB.out hJ)
  have xX80 := X8.at (i := 0) (v := .bool false) rfl
  have zX80 := X8.frozen 0
  have xX81 := X8.at (i := 1) (v := .slice none 0 0) rfl
  have zX81 := X8.frozen 1
  refine Jo.jnext (i := 14) (o := ⟨none, _, _, _, _, _⟩) (by kernel_rfl) rfl (fun K hK => ?_)
  go_simp
  refine hK.out _ _ ?_
  clear hK K xX80 zX80 xX81 zX81
  have SX := StN.mk2 X8 (.bool s8) (.slice A8 n8 c8)
  replace XR := XR.stn SX (by omega)
  replace X5 := X5.stn SX (by omega)
  replace X6 := X6.stn SX (by omega)
  replace p1 := p1.stn SX (by simp [no32])
  replace p2 := p2.stn SX (by simp [no32])
  replace p8 := p8.stn SX (by simp [no32])
  replace HB := Lib.hid (SX.below HB.out (by omega))
  replace X8 := SX.box
  clear SX
  generalize (World.setCell (World.setCell w9 ⟨g8, 0, none⟩ (.bool s8)) ⟨g8, 1, none⟩ (.slice A8 n8 c8)) = w10 at *
  refine Jo.jdone (by kernel_rfl) ?_
  go_upto_region 12 with (fail)
  refine Jo.region_joint (T := [0, 1, 2, 3, 4, 5, 6]) (ds := [some 52, some 53, some 54, some 55, some 56, some 57, some 58, none]) (ls := [[], [0], [], [1, 2], [], [4], [3, 5], []]) (k := 8) (L := [(some 52, 0), (some 53, 1), (some 54, 2), (some 55, 3), (some 56, 4), (some 57, 5), (some 58, 6)]) (fuel := 1) (J := fun wj => Below (World.heap w10).size w10 wj)
    (F := [Jo.Fact.eq (.pointer (some ⟨w2.heap.size, 0, none⟩)), Jo.Fact.eq (.agg #[.bool s1, .slice A1 n1 c1]), Jo.Fact.eq (.agg #[.bool s8, .slice A8 n8 c8]), Jo.Fact.wn (N1 + N2 * ((2 ^ δ.toNat : Nat) : Int)) (n + m + 20010), Jo.Fact.eq (.pointer (some ⟨w2.heap.size, 2, none⟩)), Jo.Fact.eq (.int .i64 E1), Jo.Fact.dy N E (n + m + 20010), Jo.Fact.any])
    (by kernel_rfl) (by kernel_rfl) (by decide) rfl rfl (fun _ _ h b => bt h b) ((Below.refl _ _).drew) ?_ (fun vs w11 hJ hd => ?_)
  · refine Jo.jcons (i := 0) (o := ⟨some 52, _, _, _, _, _⟩) (di := some 52) (L := []) (f := Jo.Fact.eq (.pointer (some ⟨w2.heap.size, 0, none⟩))) rfl rfl rfl rfl (fun vs wj hJ hd K hK => ?_) ?_
    · clear hd
      simp only [Jo.putl, List.foldl_nil, Act.put, List.setIfInBounds_toArray, List.set_cons_zero, List.set_cons_succ] at hK ⊢
      go_simp
      exact hK.out _ _ rfl (Below.refl _ _)
    refine Jo.jcons (i := 1) (o := ⟨some 53, _, _, _, _, _⟩) (di := some 53) (L := [(some 52, 0)]) (f := Jo.Fact.eq (.agg #[.bool s1, .slice A1 n1 c1])) rfl rfl rfl rfl (fun vs wj hJ hd K hK => ?_) ?_
    · have d0 : (Jo.Fact.eq (.pointer (some ⟨w2.heap.size, 0, none⟩))).P (vs 0) wj := hd 0 (by decide)
      clear hd
      simp only [Jo.putl, List.foldl_cons, List.foldl_nil, Act.put, List.setIfInBounds_toArray, List.set_cons_zero, List.set_cons_succ] at hK ⊢
      generalize vs 0 = u0 at hK d0 ⊢
      replace d0 : u0 = _ := d0
      subst d0
      have xX50 : World.cell? wj ⟨w2.heap.size, 0, none⟩ = some (.bool s1) := (X5.below hJ).cell 0
      have xX51 : World.cell? wj ⟨w2.heap.size, 1, none⟩ = some (.slice A1 n1 c1) := (X5.below hJ).cell 1
      have xX52 : World.cell? wj ⟨w2.heap.size, 2, none⟩ = some (.int .i64 E1) := (X5.below hJ).cell 2
      go_simp
      exact hK.out _ _ rfl (Below.refl _ _)
    refine Jo.jcons (i := 2) (o := ⟨some 54, _, _, _, _, _⟩) (di := some 54) (L := []) (f := Jo.Fact.eq (.agg #[.bool s8, .slice A8 n8 c8])) rfl rfl rfl rfl (fun vs wj hJ hd K hK => ?_) ?_
    · clear hd
      simp only [Jo.putl, List.foldl_nil, Act.put, List.setIfInBounds_toArray, List.set_cons_zero, List.set_cons_succ] at hK ⊢
      have xX80 : World.cell? wj ⟨g8, 0, none⟩ = some (.bool s8) := (X8.below hJ).cell 0
      have xX81 : World.cell? wj ⟨g8, 1, none⟩ = some (.slice A8 n8 c8) := (X8.below hJ).cell 1
      go_simp
      exact hK.out _ _ rfl (Below.refl _ _)
    refine Jo.jcons (i := 3) (o := ⟨some 55, _, _, _, _, _⟩) (di := some 55) (L := [(some 53, 1), (some 54, 2)]) (f := Jo.Fact.wn (N1 + N2 * ((2 ^ δ.toNat : Nat) : Int)) (n + m + 20010)) rfl rfl rfl rfl (fun vs wj hJ hd K hK => ?_) ?_
    · have d1 : (Jo.Fact.eq (.agg #[.bool s1, .slice A1 n1 c1])).P (vs 1) wj := hd 1 (by decide)
      have d2 : (Jo.Fact.eq (.agg #[.bool s8, .slice A8 n8 c8])).P (vs 2) wj := hd 2 (by decide)
      clear hd
      simp only [Jo.putl, List.foldl_cons, List.foldl_nil, Act.put, List.setIfInBounds_toArray, List.set_cons_zero, List.set_cons_succ] at hK ⊢
      generalize vs 1 = u1 at hK d1 ⊢
      generalize vs 2 = u2 at hK d2 ⊢
      replace d1 : u1 = _ := d1
      subst d1
      replace d2 : u2 = _ := d2
      subst d2
      go_simp
      refine (qAdd (p1.below hJ).wr (p8.below hJ).wr (by omega) (by omega) rfl).mono ?_
      rintro ee wk ⟨s3, A3, n3, c3, rfl, p3, k3, B⟩
      exact hK.out _ _ ⟨s3, A3, n3, c3, rfl, p3, by omega⟩ B
    refine Jo.jcons (i := 4) (o := ⟨some 56, _, _, _, _, _⟩) (di := some 56) (L := []) (f := Jo.Fact.eq (.pointer (some ⟨w2.heap.size, 2, none⟩))) rfl rfl rfl rfl (fun vs wj hJ hd K hK => ?_) ?_
    · clear hd
      simp only [Jo.putl, List.foldl_nil, Act.put, List.setIfInBounds_toArray, List.set_cons_zero, List.set_cons_succ] at hK ⊢
      go_simp
      exact hK.out _ _ rfl (Below.refl _ _)
    refine Jo.jcons (i := 5) (o := ⟨some 57, _, _, _, _, _⟩) (di := some 57) (L := [(some 56, 4)]) (f := Jo.Fact.eq (.int .i64 E1)) rfl rfl rfl rfl (fun vs wj hJ hd K hK => ?_) ?_
    · have d4 : (Jo.Fact.eq (.pointer (some ⟨w2.heap.size, 2, none⟩))).P (vs 4) wj := hd 4 (by decide)
      clear hd
      simp only [Jo.putl, List.foldl_cons, List.foldl_nil, Act.put, List.setIfInBounds_toArray, List.set_cons_zero, List.set_cons_succ] at hK ⊢
      generalize vs 4 = u4 at hK d4 ⊢
      replace d4 : u4 = _ := d4
      subst d4
      have xX50 : World.cell? wj ⟨w2.heap.size, 0, none⟩ = some (.bool s1) := (X5.below hJ).cell 0
      have xX51 : World.cell? wj ⟨w2.heap.size, 1, none⟩ = some (.slice A1 n1 c1) := (X5.below hJ).cell 1
      have xX52 : World.cell? wj ⟨w2.heap.size, 2, none⟩ = some (.int .i64 E1) := (X5.below hJ).cell 2
      go_simp
      exact hK.out _ _ rfl (Below.refl _ _)
    refine Jo.jcons (i := 6) (o := ⟨some 58, _, _, _, _, _⟩) (di := some 58) (L := [(some 55, 3), (some 57, 5)]) (f := Jo.Fact.dy N E (n + m + 20010)) rfl rfl rfl rfl (fun vs wj hJ hd K hK => ?_) ?_
    · have d3 : (Jo.Fact.wn (N1 + N2 * ((2 ^ δ.toNat : Nat) : Int)) (n + m + 20010)).P (vs 3) wj := hd 3 (by decide)
      have d5 : (Jo.Fact.eq (.int .i64 E1)).P (vs 5) wj := hd 5 (by decide)
      clear hd
      simp only [Jo.putl, List.foldl_cons, List.foldl_nil, Act.put, List.setIfInBounds_toArray, List.set_cons_zero, List.set_cons_succ] at hK ⊢
      generalize vs 3 = u3 at hK d3 ⊢
      generalize vs 5 = u5 at hK d5 ⊢
      obtain ⟨s3, A3, n3, c3, rfl, p3, k3⟩ := d3
      replace d5 : u5 = _ := d5
      subst d5
      go_simp
      refine (q3Make p3.wr (by omega) HN.out HE.out).mono ?_
      rintro ee wk ⟨s4, A4, n4, c4, rfl, p4, k4, B⟩
      exact hK.out _ _ ⟨s4, A4, n4, c4, rfl, p4, Nat.le_trans k4 k3⟩ B
    exact Jo.Steps.nil
  have d0 : (Jo.Fact.eq (.pointer (some ⟨w2.heap.size, 0, none⟩))).P (vs 0) w11 := hd 0 (by decide)
  have d1 : (Jo.Fact.eq (.agg #[.bool s1, .slice A1 n1 c1])).P (vs 1) w11 := hd 1 (by decide)
  have d2 : (Jo.Fact.eq (.agg #[.bool s8, .slice A8 n8 c8])).P (vs 2) w11 := hd 2 (by decide)
  have d3 : (Jo.Fact.wn (N1 + N2 * ((2 ^ δ.toNat : Nat) : Int)) (n + m + 20010)).P (vs 3) w11 := hd 3 (by decide)
  have d4 : (Jo.Fact.eq (.pointer (some ⟨w2.heap.size, 2, none⟩))).P (vs 4) w11 := hd 4 (by decide)
  have d5 : (Jo.Fact.eq (.int .i64 E1)).P (vs 5) w11 := hd 5 (by decide)
  have d6 : (Jo.Fact.dy N E (n + m + 20010)).P (vs 6) w11 := hd 6 (by decide)
  clear hd
  simp only [Jo.putl, List.foldl_cons, List.foldl_nil, Act.put, List.setIfInBounds_toArray, List.set_cons_zero, List.set_cons_succ]
  generalize vs 0 = u0 at d0 ⊢
  generalize vs 1 = u1 at d1 ⊢
  generalize vs 2 = u2 at d2 ⊢
  generalize vs 3 = u3 at d3 ⊢
  generalize vs 4 = u4 at d4 ⊢
  generalize vs 5 = u5 at d5 ⊢
  generalize vs 6 = u6 at d6 ⊢
  clear vs
  replace d0 : u0 = _ := d0
  subst d0
  replace d1 : u1 = _ := d1
  subst d1
  replace d2 : u2 = _ := d2
  subst d2
  obtain ⟨s3, A3, n3, c3, rfl, _, _⟩ := d3
  replace d4 : u4 = _ := d4
  subst d4
  replace d5 : u5 = _ := d5
  subst d5
  obtain ⟨s4, A4, n4, c4, rfl, p4, k4⟩ := d6
  replace XR := XR.below hJ
  replace X5 := X5.below hJ
  replace X6 := X6.below hJ
  replace X8 := X8.below hJ
  replace p1 := p1.below hJ
  replace p2 := p2.below hJ
  replace p8 := p8.below hJ
  replace HB := Lib.hid (bt HB.out hJ)
  have xXR0 := XR.at (i := 0) (v := .bool false) rfl
  have zXR0 := XR.frozen 0
  have xXR1 := XR.at (i := 1) (v := .slice none 0 0) rfl
  have zXR1 := XR.frozen 1
  have xXR2 := XR.at (i := 2) (v := .int .i64 0) rfl
  have zXR2 := XR.frozen 2
  refine Jo.jnext (i := 7) (o := ⟨none, _, _, _, _, _⟩) (by kernel_rfl) rfl (fun K hK => ?_)
  go_simp
  refine hK.out _ _ ?_
  clear hK K xXR0 zXR0 xXR1 zXR1 xXR2 zXR2
  have SX := StN.mk3 XR (.bool s4) (.slice A4 n4 c4) (.int .i64 E)
  replace p4 := p4.stn SX (by simp [no32])
  replace HB := Lib.hid (SX.below HB.out (by omega))
  replace XR := SX.box
  clear SX
  generalize (World.setCell (World.setCell (World.setCell w11 ⟨w.heap.size + 1 + 1, 0, none⟩ (.bool s4)) ⟨w.heap.size + 1 + 1, 1, none⟩ (.slice A4 n4 c4)) ⟨w.heap.size + 1 + 1, 2, none⟩ (.int .i64 E)) = w12 at *
  refine Jo.jdone (by kernel_rfl) ?_
  go_wp2
  have r0 := XR.cell 0
  have r1 := XR.cell 1
  have r2 := XR.cell 2
  exact bodyPost_ret (v := .agg #[.bool s4, .slice A4 n4 c4, .int .i64 E]) (by simp [results, Tryd.results43, go_sem, r0, r1, r2]) rfl ⟨s4, _, _, _, rfl, p4, k4, HB.out⟩

set_option maxHeartbeats 8000000 in
theorem q3sum_dn {w : World} {A B : Option Addr} {n c m d : Nat} {s t : Bool} {z e y f N1 E1 N2 E2 N E : Int} (h : Wr w s A n c z) (k : Wr w t B m d y) (hn : n ≤ 20000) (hm : m ≤ 20000)
    (HN1 : Hid ((mk z e).1 = N1)) (HE1 : Hid ((mk z e).2 = E1)) (HN2 : Hid ((mk y f).1 = N2)) (HE2 : Hid ((mk y f).2 = E2)) (h1 : N1 ≠ 0) (h2 : N2 ≠ 0) (hle : E2 < E1) (hfar : E1 - E2 ≤ 640000) (b1 : -4194304 ≤ E2) (b2 : E1 ≤ 4194304)
    (HN : Hid ((mk (N2 + N1 * ((2 ^ (E1 - E2).toNat : Nat) : Int)) E2).1 = N)) (HE : Hid ((mk (N2 + N1 * ((2 ^ (E1 - E2).toNat : Nat) : Int)) E2).2 = E)) :
    Calls Tryd.prog 43 #[.agg #[.bool s, .slice A n c, .int .i64 e], .agg #[.bool t, .slice B m d, .int .i64 f]] w (D1 w (n + m + 20010) N E) := by
  obtain ⟨δ, hδ⟩ : ∃ x, E1 - E2 = x := ⟨_, rfl⟩
  have HW : Hid (IntKind.i64.wrap (E1 - E2) = δ) := Lib.hid (by rw [hδ]; exact IntWalk.i64_in _ (by omega))
  have hd0 : 0 ≤ δ := by omega
  rw [hδ] at hfar HN HE
  have tle : decide (E2 < E1) = true := by simp; omega
  clear hδ
  go_enter Tryd.func43, Tryd.ntmps43
  go_upto_region 1 with (fail)
  have X1 := (Bo.newAt w (g := w.heap.size) (by simp) #[.bool s, .slice A n c, .int .i64 e] 39).below (bel2 _ (.cells #[.bool t, .slice B m d, .int .i64 f] 39) (.cells #[.bool false, .slice none 0 0, .int .i64 0] 39))
  have X2 := (Bo.newAt (w.alloc (.cells #[.bool s, .slice A n c, .int .i64 e] 39)) (g := w.heap.size + 1) (by simp) #[.bool t, .slice B m d, .int .i64 f] 39).below (bel1 _ (.cells #[.bool false, .slice none 0 0, .int .i64 0] 39))
  have XR := (Bo.newAt ((w.alloc (.cells #[.bool s, .slice A n c, .int .i64 e] 39)).alloc (.cells #[.bool t, .slice B m d, .int .i64 f] 39)) (g := w.heap.size + 1 + 1) (by simp) #[.bool false, .slice none 0 0, .int .i64 0] 39)
  have HB := Lib.hid (bel3 w (.cells #[.bool s, .slice A n c, .int .i64 e] 39) (.cells #[.bool t, .slice B m d, .int .i64 f] 39) (.cells #[.bool false, .slice none 0 0, .int .i64 0] 39))
  replace h := h.below HB.out
  replace k := k.below HB.out
  generalize hW1 : (((w.alloc (.cells #[.bool s, .slice A n c, .int .i64 e] 39)).alloc (.cells #[.bool t, .slice B m d, .int .i64 f] 39)).alloc (.cells #[.bool false, .slice none 0 0, .int .i64 0] 39)) = w1 at *
  clear hW1
  have xX10 := X1.at (i := 0) (v := .bool s) rfl
  have xX11 := X1.at (i := 1) (v := .slice A n c) rfl
  have xX12 := X1.at (i := 2) (v := .int .i64 e) rfl
  go_wp2_with fail
  refine (q3Make h (by omega) HN1.out HE1.out).mono ?_
  rintro ee w2 ⟨s1, A1, n1, c1, rfl, p1, k1, B⟩
  clear xX10 xX11 xX12
  replace X1 := X1.below B
  replace X2 := X2.below B
  replace XR := XR.below B
  replace h := h.below B
  replace k := k.below B
  replace HB := Lib.hid (bt HB.out B)
  clear B
  have xX20 := X2.at (i := 0) (v := .bool t) rfl
  have xX21 := X2.at (i := 1) (v := .slice B m d) rfl
  have xX22 := X2.at (i := 2) (v := .int .i64 f) rfl
  go_upto_region 2 with (fail)
  clear xX20 xX21 xX22
  have lX5 := Nat.le_refl (World.heap w2).size
  have nX5X2 := X2.lt
  have nX5XR := XR.lt
  replace X2 := X2.below (bel1 _ (.cells #[.bool s1, .slice A1 n1 c1, .int .i64 E1] 39))
  replace XR := XR.below (bel1 _ (.cells #[.bool s1, .slice A1 n1 c1, .int .i64 E1] 39))
  replace k := k.below (bel1 _ (.cells #[.bool s1, .slice A1 n1 c1, .int .i64 E1] 39))
  replace p1 := p1.below (bel1 _ (.cells #[.bool s1, .slice A1 n1 c1, .int .i64 E1] 39))
  replace HB := Lib.hid (bt HB.out (bel1 _ (.cells #[.bool s1, .slice A1 n1 c1, .int .i64 E1] 39)))
  have X5 := Bo.new w2 #[.bool s1, .slice A1 n1 c1, .int .i64 E1] 39
  generalize hWn : World.alloc w2 (.cells #[.bool s1, .slice A1 n1 c1, .int .i64 E1] 39) = w3 at *
  clear hWn
  have xX20 := X2.at (i := 0) (v := .bool t) rfl
  have xX21 := X2.at (i := 1) (v := .slice B m d) rfl
  have xX22 := X2.at (i := 2) (v := .int .i64 f) rfl
  go_wp2_with fail
  refine (q3Make k (by omega) HN2.out HE2.out).mono ?_
  rintro ee w4 ⟨s2, A2, n2, c2, rfl, p2, k2, B⟩
  clear xX20 xX21 xX22
  replace X2 := X2.below B
  replace XR := XR.below B
  replace X5 := X5.below B
  replace k := k.below B
  replace p1 := p1.below B
  replace HB := Lib.hid (bt HB.out B)
  clear B
  go_upto_region 3 with (fail)
  have lX6 := Nat.le_refl (World.heap w4).size
  have nX6XR := XR.lt
  have nX6X5 := X5.lt
  replace XR := XR.below (bel1 _ (.cells #[.bool s2, .slice A2 n2 c2, .int .i64 E2] 39))
  replace X5 := X5.below (bel1 _ (.cells #[.bool s2, .slice A2 n2 c2, .int .i64 E2] 39))
  replace p1 := p1.below (bel1 _ (.cells #[.bool s2, .slice A2 n2 c2, .int .i64 E2] 39))
  replace p2 := p2.below (bel1 _ (.cells #[.bool s2, .slice A2 n2 c2, .int .i64 E2] 39))
  replace HB := Lib.hid (bt HB.out (bel1 _ (.cells #[.bool s2, .slice A2 n2 c2, .int .i64 E2] 39)))
  have X6 := Bo.new w4 #[.bool s2, .slice A2 n2 c2, .int .i64 E2] 39
  generalize hWn : World.alloc w4 (.cells #[.bool s2, .slice A2 n2 c2, .int .i64 E2] 39) = w5 at *
  clear hWn
  clear lX6
  have hpa : 0 < n1 := by have := p1.1.pos; omega
  have qa : ((n1 : Int) == 0) = false := by have : (n1 : Int) ≠ 0 := by omega
                                            simpa using this
  have la := p1.1.rd.big
  have hpb : 0 < n2 := by have := p2.1.pos; omega
  have qb : ((n2 : Int) == 0) = false := by have : (n2 : Int) ≠ 0 := by omega
                                            simpa using this
  have lb := p2.1.rd.big
  clear h1 h2
  have xX50 := X5.at (i := 0) (v := .bool s1) rfl
  have xX51 := X5.at (i := 1) (v := .slice A1 n1 c1) rfl
  have xX52 := X5.at (i := 2) (v := .int .i64 E1) rfl
  have xX60 := X6.at (i := 0) (v := .bool s2) rfl
  have xX61 := X6.at (i := 1) (v := .slice A2 n2 c2) rfl
  have xX62 := X6.at (i := 2) (v := .int .i64 E2) rfl
  go_upto_region 9 with (fail)
  clear xX50 xX51 xX52 xX60 xX61 xX62
  have lX7 := Nat.le_refl (World.heap w5).size
  have nX7XR := XR.lt
  have nX7X5 := X5.lt
  have nX7X6 := X6.lt
  replace XR := XR.below (bel1 _ (.cells #[.bool s1, .slice A1 n1 c1, .int .i64 E1] 39))
  replace X5 := X5.below (bel1 _ (.cells #[.bool s1, .slice A1 n1 c1, .int .i64 E1] 39))
  replace X6 := X6.below (bel1 _ (.cells #[.bool s1, .slice A1 n1 c1, .int .i64 E1] 39))
  replace p1 := p1.below (bel1 _ (.cells #[.bool s1, .slice A1 n1 c1, .int .i64 E1] 39))
  replace p2 := p2.below (bel1 _ (.cells #[.bool s1, .slice A1 n1 c1, .int .i64 E1] 39))
  replace HB := Lib.hid (bt HB.out (bel1 _ (.cells #[.bool s1, .slice A1 n1 c1, .int .i64 E1] 39)))
  have X7 := Bo.new w5 #[.bool s1, .slice A1 n1 c1, .int .i64 E1] 39
  generalize hWn : World.alloc w5 (.cells #[.bool s1, .slice A1 n1 c1, .int .i64 E1] 39) = w6 at *
  clear hWn
  have xX60 := X6.at (i := 0) (v := .bool s2) rfl
  have xX61 := X6.at (i := 1) (v := .slice A2 n2 c2) rfl
  have xX62 := X6.at (i := 2) (v := .int .i64 E2) rfl
  have xX50 := X5.at (i := 0) (v := .bool s1) rfl
  have zX50 := X5.frozen 0
  have xX51 := X5.at (i := 1) (v := .slice A1 n1 c1) rfl
  have zX51 := X5.frozen 1
  have xX52 := X5.at (i := 2) (v := .int .i64 E1) rfl
  have zX52 := X5.frozen 2
  go_upto_region 10 with (fail)
  clear xX60 xX61 xX62 xX50 zX50 xX51 zX51 xX52 zX52
  have SX := StN.mk3 X5 (.bool s2) (.slice A2 n2 c2) (.int .i64 E2)
  replace XR := XR.stn SX (by omega)
  replace X6 := X6.stn SX (by omega)
  replace X7 := X7.stn SX (by omega)
  replace p1 := p1.stn SX (by simp [no32])
  replace p2 := p2.stn SX (by simp [no32])
  replace HB := Lib.hid (SX.below HB.out (by omega))
  replace X5 := SX.box
  clear SX
  generalize (World.setCell (World.setCell (World.setCell w6 ⟨w2.heap.size, 0, none⟩ (.bool s2)) ⟨w2.heap.size, 1, none⟩ (.slice A2 n2 c2)) ⟨w2.heap.size, 2, none⟩ (.int .i64 E2)) = w7 at *
  have xX70 := X7.at (i := 0) (v := .bool s1) rfl
  have xX71 := X7.at (i := 1) (v := .slice A1 n1 c1) rfl
  have xX72 := X7.at (i := 2) (v := .int .i64 E1) rfl
  have xX60 := X6.at (i := 0) (v := .bool s2) rfl
  have zX60 := X6.frozen 0
  have xX61 := X6.at (i := 1) (v := .slice A2 n2 c2) rfl
  have zX61 := X6.frozen 1
  have xX62 := X6.at (i := 2) (v := .int .i64 E2) rfl
  have zX62 := X6.frozen 2
  go_upto_region 11 with (fail)
  clear xX70 xX71 xX72 xX60 zX60 xX61 zX61 xX62 zX62
  have SX := StN.mk3 X6 (.bool s1) (.slice A1 n1 c1) (.int .i64 E1)
  replace XR := XR.stn SX (by omega)
  replace X5 := X5.stn SX (by omega)
  replace X7 := X7.stn SX (by omega)
  replace p1 := p1.stn SX (by simp [no32])
  replace p2 := p2.stn SX (by simp [no32])
  replace HB := Lib.hid (SX.below HB.out (by omega))
  replace X6 := SX.box
  clear SX
  generalize (World.setCell (World.setCell (World.setCell w7 ⟨w4.heap.size, 0, none⟩ (.bool s1)) ⟨w4.heap.size, 1, none⟩ (.slice A1 n1 c1)) ⟨w4.heap.size, 2, none⟩ (.int .i64 E1)) = w8 at *
  have HC := Lib.hid (sg_scale s1 N1 (2 ^ δ.toNat) p1.wr.eq)
  have lt5 := X5.lt
  have lt6 := X6.lt
  have ltR := XR.lt
  refine Jo.region_joint (T := [0, 1, 2, 3, 4, 5, 6, 7, 8, 9, 10, 11, 12, 13]) (ds := [some 39, some 40, some 41, some 42, some 43, some 44, some 45, some 46, some 47, some 48, some 49, some 50, some 51, some 8, none]) (ls := [[], [0], [1], [], [3], [4], [], [6], [], [8], [7, 9], [5, 10], [2, 11], [], []]) (k := 15) (L := [(some 39, 0), (some 40, 1), (some 41, 2), (some 42, 3), (some 43, 4), (some 44, 5), (some 45, 6), (some 46, 7), (some 47, 8), (some 48, 9), (some 49, 10), (some 50, 11), (some 51, 12), (some 8, 13)]) (fuel := 1) (J := fun wj => Below (World.heap w8).size w8 wj)
    (F := [Jo.Fact.eq (.pointer (some ⟨w4.heap.size, 0, none⟩)), Jo.Fact.eq (.pointer (some ⟨w4.heap.size, 0, none⟩)), Jo.Fact.eq (.bool s1), Jo.Fact.eq (.pointer (some ⟨w4.heap.size, 0, none⟩)), Jo.Fact.eq (.pointer (some ⟨w4.heap.size, 1, none⟩)), Jo.Fact.eq (.slice A1 n1 c1), Jo.Fact.eq (.pointer (some ⟨w4.heap.size, 2, none⟩)), Jo.Fact.eq (.int .i64 E1), Jo.Fact.eq (.pointer (some ⟨w2.heap.size, 2, none⟩)), Jo.Fact.eq (.int .i64 E2), Jo.Fact.eq (.int .i64 δ), Jo.Fact.nm (N1.natAbs * 2 ^ δ.toNat) (n1 + δ.toNat / 32 + 1), Jo.Fact.wn (N1 * ((2 ^ δ.toNat : Nat) : Int)) (n1 + δ.toNat / 32 + 1), Jo.Fact.bo w8.heap.size #[.bool false, .slice none 0 0] 37, Jo.Fact.any])
    (by kernel_rfl) (by kernel_rfl) (by decide) rfl rfl (fun _ _ h b => bt h b) ((Below.refl _ _).drew) ?_ (fun vs w9 hJ hd => ?_)
  · refine Jo.jcons (i := 0) (o := ⟨some 39, _, _, _, _, _⟩) (di := some 39) (L := []) (f := Jo.Fact.eq (.pointer (some ⟨w4.heap.size, 0, none⟩))) rfl rfl rfl rfl (fun vs wj hJ hd K hK => ?_) ?_
    · clear hd
      simp only [Jo.putl, List.foldl_nil, Act.put, List.setIfInBounds_toArray, List.set_cons_zero, List.set_cons_succ] at hK ⊢
      go_simp
      exact hK.out _ _ rfl (Below.refl _ _)
    refine Jo.jcons (i := 1) (o := ⟨some 40, _, _, _, _, _⟩) (di := some 40) (L := [(some 39, 0)]) (f := Jo.Fact.eq (.pointer (some ⟨w4.heap.size, 0, none⟩))) rfl rfl rfl rfl (fun vs wj hJ hd K hK => ?_) ?_
    · have d0 : (Jo.Fact.eq (.pointer (some ⟨w4.heap.size, 0, none⟩))).P (vs 0) wj := hd 0 (by decide)
      clear hd
      simp only [Jo.putl, List.foldl_cons, List.foldl_nil, Act.put, List.setIfInBounds_toArray, List.set_cons_zero, List.set_cons_succ] at hK ⊢
      generalize vs 0 = u0 at hK d0 ⊢
      replace d0 : u0 = _ := d0
      subst d0
      go_simp
      exact hK.out _ _ rfl (Below.refl _ _)
    refine Jo.jcons (i := 2) (o := ⟨some 41, _, _, _, _, _⟩) (di := some 41) (L := [(some 40, 1)]) (f := Jo.Fact.eq (.bool s1)) rfl rfl rfl rfl (fun vs wj hJ hd K hK => ?_) ?_
    · have d1 : (Jo.Fact.eq (.pointer (some ⟨w4.heap.size, 0, none⟩))).P (vs 1) wj := hd 1 (by decide)
      clear hd
      simp only [Jo.putl, List.foldl_cons, List.foldl_nil, Act.put, List.setIfInBounds_toArray, List.set_cons_zero, List.set_cons_succ] at hK ⊢
      generalize vs 1 = u1 at hK d1 ⊢
      replace d1 : u1 = _ := d1
      subst d1
      have xX60 : World.cell? wj ⟨w4.heap.size, 0, none⟩ = some (.bool s1) := (X6.below hJ).cell 0
      have xX61 : World.cell? wj ⟨w4.heap.size, 1, none⟩ = some (.slice A1 n1 c1) := (X6.below hJ).cell 1
      have xX62 : World.cell? wj ⟨w4.heap.size, 2, none⟩ = some (.int .i64 E1) := (X6.below hJ).cell 2
      go_simp
      exact hK.out _ _ rfl (Below.refl _ _)
    refine Jo.jcons (i := 3) (o := ⟨some 42, _, _, _, _, _⟩) (di := some 42) (L := []) (f := Jo.Fact.eq (.pointer (some ⟨w4.heap.size, 0, none⟩))) rfl rfl rfl rfl (fun vs wj hJ hd K hK => ?_) ?_
    · clear hd
      simp only [Jo.putl, List.foldl_nil, Act.put, List.setIfInBounds_toArray, List.set_cons_zero, List.set_cons_succ] at hK ⊢
      go_simp
      exact hK.out _ _ rfl (Below.refl _ _)
    refine Jo.jcons (i := 4) (o := ⟨some 43, _, _, _, _, _⟩) (di := some 43) (L := [(some 42, 3)]) (f := Jo.Fact.eq (.pointer (some ⟨w4.heap.size, 1, none⟩))) rfl rfl rfl rfl (fun vs wj hJ hd K hK => ?_) ?_
    · have d3 : (Jo.Fact.eq (.pointer (some ⟨w4.heap.size, 0, none⟩))).P (vs 3) wj := hd 3 (by decide)
      clear hd
      simp only [Jo.putl, List.foldl_cons, List.foldl_nil, Act.put, List.setIfInBounds_toArray, List.set_cons_zero, List.set_cons_succ] at hK ⊢
      generalize vs 3 = u3 at hK d3 ⊢
      replace d3 : u3 = _ := d3
      subst d3
      go_simp
      exact hK.out _ _ rfl (Below.refl _ _)
    refine Jo.jcons (i := 5) (o := ⟨some 44, _, _, _, _, _⟩) (di := some 44) (L := [(some 43, 4)]) (f := Jo.Fact.eq (.slice A1 n1 c1)) rfl rfl rfl rfl (fun vs wj hJ hd K hK => ?_) ?_
    · have d4 : (Jo.Fact.eq (.pointer (some ⟨w4.heap.size, 1, none⟩))).P (vs 4) wj := hd 4 (by decide)
      clear hd
      simp only [Jo.putl, List.foldl_cons, List.foldl_nil, Act.put, List.setIfInBounds_toArray, List.set_cons_zero, List.set_cons_succ] at hK ⊢
      generalize vs 4 = u4 at hK d4 ⊢
      replace d4 : u4 = _ := d4
      subst d4
      have xX60 : World.cell? wj ⟨w4.heap.size, 0, none⟩ = some (.bool s1) := (X6.below hJ).cell 0
      have xX61 : World.cell? wj ⟨w4.heap.size, 1, none⟩ = some (.slice A1 n1 c1) := (X6.below hJ).cell 1
      have xX62 : World.cell? wj ⟨w4.heap.size, 2, none⟩ = some (.int .i64 E1) := (X6.below hJ).cell 2
      go_simp
      exact hK.out _ _ rfl (Below.refl _ _)
    refine Jo.jcons (i := 6) (o := ⟨some 45, _, _, _, _, _⟩) (di := some 45) (L := []) (f := Jo.Fact.eq (.pointer (some ⟨w4.heap.size, 2, none⟩))) rfl rfl rfl rfl (fun vs wj hJ hd K hK => ?_) ?_
    · clear hd
      simp only [Jo.putl, List.foldl_nil, Act.put, List.setIfInBounds_toArray, List.set_cons_zero, List.set_cons_succ] at hK ⊢
      go_simp
      exact hK.out _ _ rfl (Below.refl _ _)
    refine Jo.jcons (i := 7) (o := ⟨some 46, _, _, _, _, _⟩) (di := some 46) (L := [(some 45, 6)]) (f := Jo.Fact.eq (.int .i64 E1)) rfl rfl rfl rfl (fun vs wj hJ hd K hK => ?_) ?_
    · have d6 : (Jo.Fact.eq (.pointer (some ⟨w4.heap.size, 2, none⟩))).P (vs 6) wj := hd 6 (by decide)
      clear hd
      simp only [Jo.putl, List.foldl_cons, List.foldl_nil, Act.put, List.setIfInBounds_toArray, List.set_cons_zero, List.set_cons_succ] at hK ⊢
      generalize vs 6 = u6 at hK d6 ⊢
      replace d6 : u6 = _ := d6
      subst d6
      have xX60 : World.cell? wj ⟨w4.heap.size, 0, none⟩ = some (.bool s1) := (X6.below hJ).cell 0
      have xX61 : World.cell? wj ⟨w4.heap.size, 1, none⟩ = some (.slice A1 n1 c1) := (X6.below hJ).cell 1
      have xX62 : World.cell? wj ⟨w4.heap.size, 2, none⟩ = some (.int .i64 E1) := (X6.below hJ).cell 2
      go_simp
      exact hK.out _ _ rfl (Below.refl _ _)
    refine Jo.jcons (i := 8) (o := ⟨some 47, _, _, _, _, _⟩) (di := some 47) (L := []) (f := Jo.Fact.eq (.pointer (some ⟨w2.heap.size, 2, none⟩))) rfl rfl rfl rfl (fun vs wj hJ hd K hK => ?_) ?_
    · clear hd
      simp only [Jo.putl, List.foldl_nil, Act.put, List.setIfInBounds_toArray, List.set_cons_zero, List.set_cons_succ] at hK ⊢
      go_simp
      exact hK.out _ _ rfl (Below.refl _ _)
    refine Jo.jcons (i := 9) (o := ⟨some 48, _, _, _, _, _⟩) (di := some 48) (L := [(some 47, 8)]) (f := Jo.Fact.eq (.int .i64 E2)) rfl rfl rfl rfl (fun vs wj hJ hd K hK => ?_) ?_
    · have d8 : (Jo.Fact.eq (.pointer (some ⟨w2.heap.size, 2, none⟩))).P (vs 8) wj := hd 8 (by decide)
      clear hd
      simp only [Jo.putl, List.foldl_cons, List.foldl_nil, Act.put, List.setIfInBounds_toArray, List.set_cons_zero, List.set_cons_succ] at hK ⊢
      generalize vs 8 = u8 at hK d8 ⊢
      replace d8 : u8 = _ := d8
      subst d8
      have xX50 : World.cell? wj ⟨w2.heap.size, 0, none⟩ = some (.bool s2) := (X5.below hJ).cell 0
      have xX51 : World.cell? wj ⟨w2.heap.size, 1, none⟩ = some (.slice A2 n2 c2) := (X5.below hJ).cell 1
      have xX52 : World.cell? wj ⟨w2.heap.size, 2, none⟩ = some (.int .i64 E2) := (X5.below hJ).cell 2
      go_simp
      exact hK.out _ _ rfl (Below.refl _ _)
    refine Jo.jcons (i := 10) (o := ⟨some 49, _, _, _, _, _⟩) (di := some 49) (L := [(some 46, 7), (some 48, 9)]) (f := Jo.Fact.eq (.int .i64 δ)) rfl rfl rfl rfl (fun vs wj hJ hd K hK => ?_) ?_
    · have d7 : (Jo.Fact.eq (.int .i64 E1)).P (vs 7) wj := hd 7 (by decide)
      have d9 : (Jo.Fact.eq (.int .i64 E2)).P (vs 9) wj := hd 9 (by decide)
      clear hd
      simp only [Jo.putl, List.foldl_cons, List.foldl_nil, Act.put, List.setIfInBounds_toArray, List.set_cons_zero, List.set_cons_succ] at hK ⊢
      generalize vs 7 = u7 at hK d7 ⊢
      generalize vs 9 = u9 at hK d9 ⊢
      replace d7 : u7 = _ := d7
      subst d7
      replace d9 : u9 = _ := d9
      subst d9
      have hw := HW.out
      go_simp
      exact hK.out _ _ rfl (Below.refl _ _)
    refine Jo.jcons (i := 11) (o := ⟨some 50, _, _, _, _, _⟩) (di := some 50) (L := [(some 44, 5), (some 49, 10)]) (f := Jo.Fact.nm (N1.natAbs * 2 ^ δ.toNat) (n1 + δ.toNat / 32 + 1)) rfl rfl rfl rfl (fun vs wj hJ hd K hK => ?_) ?_
    · have d5 : (Jo.Fact.eq (.slice A1 n1 c1)).P (vs 5) wj := hd 5 (by decide)
      have d10 : (Jo.Fact.eq (.int .i64 δ)).P (vs 10) wj := hd 10 (by decide)
      clear hd
      simp only [Jo.putl, List.foldl_cons, List.foldl_nil, Act.put, List.setIfInBounds_toArray, List.set_cons_zero, List.set_cons_succ] at hK ⊢
      generalize vs 5 = u5 at hK d5 ⊢
      generalize vs 10 = u10 at hK d10 ⊢
      replace d5 : u5 = _ := d5
      subst d5
      replace d10 : u10 = _ := d10
      subst d10
      go_simp
      refine (rShlN (p1.below hJ).1.rd (by omega) hd0 (by omega) rfl).mono ?_
      rintro ee wk ⟨A7, n7, c7, rfl, p7, k7, B⟩
      exact hK.out _ _ ⟨A7, n7, c7, rfl, p7, k7⟩ B
    refine Jo.jcons (i := 12) (o := ⟨some 51, _, _, _, _, _⟩) (di := some 51) (L := [(some 41, 2), (some 50, 11)]) (f := Jo.Fact.wn (N1 * ((2 ^ δ.toNat : Nat) : Int)) (n1 + δ.toNat / 32 + 1)) rfl rfl rfl rfl (fun vs wj hJ hd K hK => ?_) ?_
    · have d2 : (Jo.Fact.eq (.bool s1)).P (vs 2) wj := hd 2 (by decide)
      have d11 : (Jo.Fact.nm (N1.natAbs * 2 ^ δ.toNat) (n1 + δ.toNat / 32 + 1)).P (vs 11) wj := hd 11 (by decide)
      clear hd
      simp only [Jo.putl, List.foldl_cons, List.foldl_nil, Act.put, List.setIfInBounds_toArray, List.set_cons_zero, List.set_cons_succ] at hK ⊢
      generalize vs 2 = u2 at hK d2 ⊢
      generalize vs 11 = u11 at hK d11 ⊢
      replace d2 : u2 = _ := d2
      subst d2
      obtain ⟨A7, n7, c7, rfl, p7, k7⟩ := d11
      go_simp
      refine (qMake s1 p7.rd).mono ?_
      rintro ee wk ⟨s8, A8, n8, c8, rfl, p8, k8, B⟩
      exact hK.out _ _ ⟨s8, A8, n8, c8, rfl, HC.out ▸ p8, Nat.le_trans k8 k7⟩ B
    refine Jo.jcons (i := 13) (o := ⟨some 8, _, _, _, _, _⟩) (di := some 8) (L := []) (f := Jo.Fact.bo w8.heap.size #[.bool false, .slice none 0 0] 37) rfl rfl rfl rfl (fun vs wj hJ hd K hK => ?_) ?_
    · clear hd
      simp only [Jo.putl, List.foldl_nil, Act.put, List.setIfInBounds_toArray, List.set_cons_zero, List.set_cons_succ] at hK ⊢
      go_simp
      exact hK.out _ _ ⟨_, rfl, hJ.size, Bo.new _ _ _⟩ (bel1 _ _)
    exact Jo.Steps.nil
  have d0 : (Jo.Fact.eq (.pointer (some ⟨w4.heap.size, 0, none⟩))).P (vs 0) w9 := hd 0 (by decide)
  have d1 : (Jo.Fact.eq (.pointer (some ⟨w4.heap.size, 0, none⟩))).P (vs 1) w9 := hd 1 (by decide)
  have d2 : (Jo.Fact.eq (.bool s1)).P (vs 2) w9 := hd 2 (by decide)
  have d3 : (Jo.Fact.eq (.pointer (some ⟨w4.heap.size, 0, none⟩))).P (vs 3) w9 := hd 3 (by decide)
  have d4 : (Jo.Fact.eq (.pointer (some ⟨w4.heap.size, 1, none⟩))).P (vs 4) w9 := hd 4 (by decide)
  have d5 : (Jo.Fact.eq (.slice A1 n1 c1)).P (vs 5) w9 := hd 5 (by decide)
  have d6 : (Jo.Fact.eq (.pointer (some ⟨w4.heap.size, 2, none⟩))).P (vs 6) w9 := hd 6 (by decide)
  have d7 : (Jo.Fact.eq (.int .i64 E1)).P (vs 7) w9 := hd 7 (by decide)
  have d8 : (Jo.Fact.eq (.pointer (some ⟨w2.heap.size, 2, none⟩))).P (vs 8) w9 := hd 8 (by decide)
  have d9 : (Jo.Fact.eq (.int .i64 E2)).P (vs 9) w9 := hd 9 (by decide)
  have d10 : (Jo.Fact.eq (.int .i64 δ)).P (vs 10) w9 := hd 10 (by decide)
  have d11 : (Jo.Fact.nm (N1.natAbs * 2 ^ δ.toNat) (n1 + δ.toNat / 32 + 1)).P (vs 11) w9 := hd 11 (by decide)
  have d12 : (Jo.Fact.wn (N1 * ((2 ^ δ.toNat : Nat) : Int)) (n1 + δ.toNat / 32 + 1)).P (vs 12) w9 := hd 12 (by decide)
  have d13 : (Jo.Fact.bo w8.heap.size #[.bool false, .slice none 0 0] 37).P (vs 13) w9 := hd 13 (by decide)
  clear hd
  simp only [Jo.putl, List.foldl_cons, List.foldl_nil, Act.put, List.setIfInBounds_toArray, List.set_cons_zero, List.set_cons_succ]
  generalize vs 0 = u0 at d0 ⊢
  generalize vs 1 = u1 at d1 ⊢
  generalize vs 2 = u2 at d2 ⊢
  generalize vs 3 = u3 at d3 ⊢
  generalize vs 4 = u4 at d4 ⊢
  generalize vs 5 = u5 at d5 ⊢
  generalize vs 6 = u6 at d6 ⊢
  generalize vs 7 = u7 at d7 ⊢
  generalize vs 8 = u8 at d8 ⊢
  generalize vs 9 = u9 at d9 ⊢
  generalize vs 10 = u10 at d10 ⊢
  generalize vs 11 = u11 at d11 ⊢
  generalize vs 12 = u12 at d12 ⊢
  generalize vs 13 = u13 at d13 ⊢
  clear vs
  replace d0 : u0 = _ := d0
  subst d0
  replace d1 : u1 = _ := d1
  subst d1
  replace d2 : u2 = _ := d2
  subst d2
  replace d3 : u3 = _ := d3
  subst d3
  replace d4 : u4 = _ := d4
  subst d4
  replace d5 : u5 = _ := d5
  subst d5
  replace d6 : u6 = _ := d6
  subst d6
  replace d7 : u7 = _ := d7
  subst d7
  replace d8 : u8 = _ := d8
  subst d8
  replace d9 : u9 = _ := d9
  subst d9
  replace d10 : u10 = _ := d10
  subst d10
  obtain ⟨A7, n7, c7, rfl, _, _⟩ := d11
  obtain ⟨s8, A8, n8, c8, rfl, p8, k8⟩ := d12
  obtain ⟨g8, rfl, hg8, X8⟩ := d13
  replace XR := XR.below hJ
  replace X5 := X5.below hJ
  replace X6 := X6.below hJ
  replace p1 := p1.below hJ
  replace p2 := p2.below hJ
  replace HB := Lib.hid (bt HB.out hJ)
  have xX80 := X8.at (i := 0) (v := .bool false) rfl
  have zX80 := X8.frozen 0
  have xX81 := X8.at (i := 1) (v := .slice none 0 0) rfl
  have zX81 := X8.frozen 1
  refine Jo.jnext (i := 14) (o := ⟨none, _, _, _, _, _⟩) (by kernel_rfl) rfl (fun K hK => ?_)
  go_simp
  refine hK.out _ _ ?_
  clear hK K xX80 zX80 xX81 zX81
  have SX := StN.mk2 X8 (.bool s8) (.slice A8 n8 c8)
  replace XR := XR.stn SX (by omega)
  replace X5 := X5.stn SX (by omega)
  replace X6 := X6.stn SX (by omega)
  replace p1 := p1.stn SX (by simp [no32])
  replace p2 := p2.stn SX (by simp [no32])
  replace p8 := p8.stn SX (by simp [no32])
  replace HB := Lib.hid (SX.below HB.out (by omega))
  replace X8 := SX.box
  clear SX
  generalize (World.setCell (World.setCell w9 ⟨g8, 0, none⟩ (.bool s8)) ⟨g8, 1, none⟩ (.slice A8 n8 c8)) = w10 at *
  refine Jo.jdone (by kernel_rfl) ?_
  go_upto_region 12 with (fail)
  refine Jo.region_joint (T := [0, 1, 2, 3, 4, 5, 6]) (ds := [some 52, some 53, some 54, some 55, some 56, some 57, some 58, none]) (ls := [[], [0], [], [1, 2], [], [4], [3, 5], []]) (k := 8) (L := [(some 52, 0), (some 53, 1), (some 54, 2), (some 55, 3), (some 56, 4), (some 57, 5), (some 58, 6)]) (fuel := 1) (J := fun wj => Below (World.heap w10).size w10 wj)
    (F := [Jo.Fact.eq (.pointer (some ⟨w2.heap.size, 0, none⟩)), Jo.Fact.eq (.agg #[.bool s2, .slice A2 n2 c2]), Jo.Fact.eq (.agg #[.bool s8, .slice A8 n8 c8]), Jo.Fact.wn (N2 + N1 * ((2 ^ δ.toNat : Nat) : Int)) (n + m + 20010), Jo.Fact.eq (.pointer (some ⟨w2.heap.size, 2, none⟩)), Jo.Fact.eq (.int .i64 E2), Jo.Fact.dy N E (n + m + 20010), Jo.Fact.any])
    (by kernel_rfl) (by kernel_rfl) (by decide) rfl rfl (fun _ _ h b => bt h b) ((Below.refl _ _).drew) ?_ (fun vs w11 hJ hd => ?_)
  · refine Jo.jcons (i := 0) (o := ⟨some 52, _, _, _, _, _⟩) (di := some 52) (L := []) (f := Jo.Fact.eq (.pointer (some ⟨w2.heap.size, 0, none⟩))) rfl rfl rfl rfl (fun vs wj hJ hd K hK => ?_) ?_
    · clear hd
      simp only [Jo.putl, List.foldl_nil, Act.put, List.setIfInBounds_toArray, List.set_cons_zero, List.set_cons_succ] at hK ⊢
      go_simp
      exact hK.out _ _ rfl (Below.refl _ _)
    refine Jo.jcons (i := 1) (o := ⟨some 53, _, _, _, _, _⟩) (di := some 53) (L := [(some 52, 0)]) (f := Jo.Fact.eq (.agg #[.bool s2, .slice A2 n2 c2])) rfl rfl rfl rfl (fun vs wj hJ hd K hK => ?_) ?_
    · have d0 : (Jo.Fact.eq (.pointer (some ⟨w2.heap.size, 0, none⟩))).P (vs 0) wj := hd 0 (by decide)
      clear hd
      simp only [Jo.putl, List.foldl_cons, List.foldl_nil, Act.put, List.setIfInBounds_toArray, List.set_cons_zero, List.set_cons_succ] at hK ⊢
      generalize vs 0 = u0 at hK d0 ⊢
      replace d0 : u0 = _ := d0
      subst d0
      have xX50 : World.cell? wj ⟨w2.heap.size, 0, none⟩ = some (.bool s2) := (X5.below hJ).cell 0
      have xX51 : World.cell? wj ⟨w2.heap.size, 1, none⟩ = some (.slice A2 n2 c2) := (X5.below hJ).cell 1
      have xX52 : World.cell? wj ⟨w2.heap.size, 2, none⟩ = some (.int .i64 E2) := (X5.below hJ).cell 2
      go_simp
      exact hK.out _ _ rfl (Below.refl _ _)
    refine Jo.jcons (i := 2) (o := ⟨some 54, _, _, _, _, _⟩) (di := some 54) (L := []) (f := Jo.Fact.eq (.agg #[.bool s8, .slice A8 n8 c8])) rfl rfl rfl rfl (fun vs wj hJ hd K hK => ?_) ?_
    · clear hd
      simp only [Jo.putl, List.foldl_nil, Act.put, List.setIfInBounds_toArray, List.set_cons_zero, List.set_cons_succ] at hK ⊢
      have xX80 : World.cell? wj ⟨g8, 0, none⟩ = some (.bool s8) := (X8.below hJ).cell 0
      have xX81 : World.cell? wj ⟨g8, 1, none⟩ = some (.slice A8 n8 c8) := (X8.below hJ).cell 1
      go_simp
      exact hK.out _ _ rfl (Below.refl _ _)
    refine Jo.jcons (i := 3) (o := ⟨some 55, _, _, _, _, _⟩) (di := some 55) (L := [(some 53, 1), (some 54, 2)]) (f := Jo.Fact.wn (N2 + N1 * ((2 ^ δ.toNat : Nat) : Int)) (n + m + 20010)) rfl rfl rfl rfl (fun vs wj hJ hd K hK => ?_) ?_
    · have d1 : (Jo.Fact.eq (.agg #[.bool s2, .slice A2 n2 c2])).P (vs 1) wj := hd 1 (by decide)
      have d2 : (Jo.Fact.eq (.agg #[.bool s8, .slice A8 n8 c8])).P (vs 2) wj := hd 2 (by decide)
      clear hd
      simp only [Jo.putl, List.foldl_cons, List.foldl_nil, Act.put, List.setIfInBounds_toArray, List.set_cons_zero, List.set_cons_succ] at hK ⊢
      generalize vs 1 = u1 at hK d1 ⊢
      generalize vs 2 = u2 at hK d2 ⊢
      replace d1 : u1 = _ := d1
      subst d1
      replace d2 : u2 = _ := d2
      subst d2
      go_simp
      refine (qAdd (p2.below hJ).wr (p8.below hJ).wr (by omega) (by omega) rfl).mono ?_
      rintro ee wk ⟨s3, A3, n3, c3, rfl, p3, k3, B⟩
      exact hK.out _ _ ⟨s3, A3, n3, c3, rfl, p3, by omega⟩ B
    refine Jo.jcons (i := 4) (o := ⟨some 56, _, _, _, _, _⟩) (di := some 56) (L := []) (f := Jo.Fact.eq (.pointer (some ⟨w2.heap.size, 2, none⟩))) rfl rfl rfl rfl (fun vs wj hJ hd K hK => ?_) ?_
    · clear hd
      simp only [Jo.putl, List.foldl_nil, Act.put, List.setIfInBounds_toArray, List.set_cons_zero, List.set_cons_succ] at hK ⊢
      go_simp
      exact hK.out _ _ rfl (Below.refl _ _)
    refine Jo.jcons (i := 5) (o := ⟨some 57, _, _, _, _, _⟩) (di := some 57) (L := [(some 56, 4)]) (f := Jo.Fact.eq (.int .i64 E2)) rfl rfl rfl rfl (fun vs wj hJ hd K hK => ?_) ?_
    · have d4 : (Jo.Fact.eq (.pointer (some ⟨w2.heap.size, 2, none⟩))).P (vs 4) wj := hd 4 (by decide)
      clear hd
      simp only [Jo.putl, List.foldl_cons, List.foldl_nil, Act.put, List.setIfInBounds_toArray, List.set_cons_zero, List.set_cons_succ] at hK ⊢
      generalize vs 4 = u4 at hK d4 ⊢
      replace d4 : u4 = _ := d4
      subst d4
      have xX50 : World.cell? wj ⟨w2.heap.size, 0, none⟩ = some (.bool s2) := (X5.below hJ).cell 0
      have xX51 : World.cell? wj ⟨w2.heap.size, 1, none⟩ = some (.slice A2 n2 c2) := (X5.below hJ).cell 1
      have xX52 : World.cell? wj ⟨w2.heap.size, 2, none⟩ = some (.int .i64 E2) := (X5.below hJ).cell 2
      go_simp
      exact hK.out _ _ rfl (Below.refl _ _)
    refine Jo.jcons (i := 6) (o := ⟨some 58, _, _, _, _, _⟩) (di := some 58) (L := [(some 55, 3), (some 57, 5)]) (f := Jo.Fact.dy N E (n + m + 20010)) rfl rfl rfl rfl (fun vs wj hJ hd K hK => ?_) ?_
    · have d3 : (Jo.Fact.wn (N2 + N1 * ((2 ^ δ.toNat : Nat) : Int)) (n + m + 20010)).P (vs 3) wj := hd 3 (by decide)
      have d5 : (Jo.Fact.eq (.int .i64 E2)).P (vs 5) wj := hd 5 (by decide)
      clear hd
      simp only [Jo.putl, List.foldl_cons, List.foldl_nil, Act.put, List.setIfInBounds_toArray, List.set_cons_zero, List.set_cons_succ] at hK ⊢
      generalize vs 3 = u3 at hK d3 ⊢
      generalize vs 5 = u5 at hK d5 ⊢
      obtain ⟨s3, A3, n3, c3, rfl, p3, k3⟩ := d3
      replace d5 : u5 = _ := d5
      subst d5
      go_simp
      refine (q3Make p3.wr (by omega) HN.out HE.out).mono ?_
      rintro ee wk ⟨s4, A4, n4, c4, rfl, p4, k4, B⟩
      exact hK.out _ _ ⟨s4, A4, n4, c4, rfl, p4, Nat.le_trans k4 k3⟩ B
    exact Jo.Steps.nil
  have d0 : (Jo.Fact.eq (.pointer (some ⟨w2.heap.size, 0, none⟩))).P (vs 0) w11 := hd 0 (by decide)
  have d1 : (Jo.Fact.eq (.agg #[.bool s2, .slice A2 n2 c2])).P (vs 1) w11 := hd 1 (by decide)
  have d2 : (Jo.Fact.eq (.agg #[.bool s8, .slice A8 n8 c8])).P (vs 2) w11 := hd 2 (by decide)
  have d3 : (Jo.Fact.wn (N2 + N1 * ((2 ^ δ.toNat : Nat) : Int)) (n + m + 20010)).P (vs 3) w11 := hd 3 (by decide)
  have d4 : (Jo.Fact.eq (.pointer (some ⟨w2.heap.size, 2, none⟩))).P (vs 4) w11 := hd 4 (by decide)
  have d5 : (Jo.Fact.eq (.int .i64 E2)).P (vs 5) w11 := hd 5 (by decide)
  have d6 : (Jo.Fact.dy N E (n + m + 20010)).P (vs 6) w11 := hd 6 (by decide)
  clear hd
  simp only [Jo.putl, List.foldl_cons, List.foldl_nil, Act.put, List.setIfInBounds_toArray, List.set_cons_zero, List.set_cons_succ]
  generalize vs 0 = u0 at d0 ⊢
  generalize vs 1 = u1 at d1 ⊢
  generalize vs 2 = u2 at d2 ⊢
  generalize vs 3 = u3 at d3 ⊢
  generalize vs 4 = u4 at d4 ⊢
  generalize vs 5 = u5 at d5 ⊢
  generalize vs 6 = u6 at d6 ⊢
  clear vs
  replace d0 : u0 = _ := d0
  subst d0
  replace d1 : u1 = _ := d1
  subst d1
  replace d2 : u2 = _ := d2
  subst d2
  obtain ⟨s3, A3, n3, c3, rfl, _, _⟩ := d3
  replace d4 : u4 = _ := d4
  subst d4
  replace d5 : u5 = _ := d5
  subst d5
  obtain ⟨s4, A4, n4, c4, rfl, p4, k4⟩ := d6
  replace XR := XR.below hJ
  replace X5 := X5.below hJ
  replace X6 := X6.below hJ
  replace X8 := X8.below hJ
  replace p1 := p1.below hJ
  replace p2 := p2.below hJ
  replace p8 := p8.below hJ
  replace HB := Lib.hid (bt HB.out hJ)
  have xXR0 := XR.at (i := 0) (v := .bool false) rfl
  have zXR0 := XR.frozen 0
  have xXR1 := XR.at (i := 1) (v := .slice none 0 0) rfl
  have zXR1 := XR.frozen 1
  have xXR2 := XR.at (i := 2) (v := .int .i64 0) rfl
  have zXR2 := XR.frozen 2
  refine Jo.jnext (i := 7) (o := ⟨none, _, _, _, _, _⟩) (by kernel_rfl) rfl (fun K hK => ?_)
  go_simp
  refine hK.out _ _ ?_
  clear hK K xXR0 zXR0 xXR1 zXR1 xXR2 zXR2
  have SX := StN.mk3 XR (.bool s4) (.slice A4 n4 c4) (.int .i64 E)
  replace p4 := p4.stn SX (by simp [no32])
  replace HB := Lib.hid (SX.below HB.out (by omega))
  replace XR := SX.box
  clear SX
  generalize (World.setCell (World.setCell (World.setCell w11 ⟨w.heap.size + 1 + 1, 0, none⟩ (.bool s4)) ⟨w.heap.size + 1 + 1, 1, none⟩ (.slice A4 n4 c4)) ⟨w.heap.size + 1 + 1, 2, none⟩ (.int .i64 E)) = w12 at *
  refine Jo.jdone (by kernel_rfl) ?_
  go_wp2
  have r0 := XR.cell 0
  have r1 := XR.cell 1
  have r2 := XR.cell 2
  exact bodyPost_ret (v := .agg #[.bool s4, .slice A4 n4 c4, .int .i64 E]) (by simp [results, Tryd.results43, go_sem, r0, r1, r2]) rfl ⟨s4, _, _, _, rfl, p4, k4, HB.out⟩

theorem q3Two {w : World} {A B : Option Addr} {n c m d : Nat} {s t : Bool} {z e y f N E : Int} (h : Wr w s A n c z) (k : Wr w t B m d y) (hn : n ≤ 20000) (hm : m ≤ 20000) (hf : Near (mk z e) (mk y f))
    (hN : (pl (mk z e) (mk y f)).1 = N) (hE : (pl (mk z e) (mk y f)).2 = E) :
    Calls Tryd.prog 43 #[.agg #[.bool s, .slice A n c, .int .i64 e], .agg #[.bool t, .slice B m d, .int .i64 f]] w (D1 w (n + m + 20010) N E) := by
  have mono : ∀ K, K ≤ n + m + 20010 → ∀ N E e w', D1 w K N E e w' → D1 w (n + m + 20010) N E e w' := fun K hK N E e w' ⟨s, A, n, c, e1, p, q, b⟩ => ⟨s, A, n, c, e1, p, Nat.le_trans q hK, b⟩
  obtain ⟨b1, b2⟩ := mk_bd z e
  obtain ⟨b3, b4⟩ := mk_bd y f
  unfold pl at hN hE
  by_cases h1 : (mk z e).1 = 0
  · rw [if_pos h1] at hN hE
    subst hN; subst hE
    exact (q3two_l h k hn hm (Lib.hid rfl) (Lib.hid rfl) (Lib.hid rfl) (Lib.hid rfl) h1).mono (mono _ (by omega) _ _)
  · rw [if_neg h1] at hN hE
    by_cases h2 : (mk y f).1 = 0
    · rw [if_pos h2] at hN hE
      subst hN; subst hE
      exact (q3two_r h k hn hm (Lib.hid rfl) (Lib.hid rfl) (Lib.hid rfl) (Lib.hid rfl) h1 h2).mono (mono _ (by omega) _ _)
    · rw [if_neg h2] at hN hE
      obtain ⟨g1, g2⟩ := hf h1 h2
      by_cases hle : (mk z e).2 ≤ (mk y f).2
      · rw [Int.min_eq_left hle] at hN hE
        exact q3sum_up h k hn hm (Lib.hid rfl) (Lib.hid rfl) (Lib.hid rfl) (Lib.hid rfl) h1 h2 hle g2 b1 b4 (Lib.hid (by simpa using hN)) (Lib.hid (by simpa using hE))
      · rw [Int.min_eq_right (by omega), Int.add_comm] at hN hE
        exact q3sum_dn h k hn hm (Lib.hid rfl) (Lib.hid rfl) (Lib.hid rfl) (Lib.hid rfl) h1 h2 (by omega) g1 b3 b2 (Lib.hid (by simpa using hN)) (Lib.hid (by simpa using hE))
end Go.Proofs.YtbhnpmkdmnnclaaDoor

/-
  What the statements of layer 5 rest on: how numbers that are rounded lie beside what they are rounded of. Plain arithmetic; no Go text.
-/
namespace Go.Proofs.YtbhnpmkdmnnclaaDoor
open Go.RowKit
set_option linter.unusedVariables false

theorem sgi_mul (s : Bool) (x y : Int) : sgi s x * y = sgi s (x * y) := by
  cases s
  · rfl
  · exact Int.neg_mul _ _
theorem vp_vr {x : Int} (s : Bool) (h : 0 < x) : vr (sgi s x) = sgi s (vp x) := by
  rw [vr_sgi]
  congr 1
  unfold vr
  rw [if_neg (by omega)]
/-- A number's worth is that of the dyadic one. -/
theorem exq_vl {D : Int} {s : Bool} {M E r : Int} (q : Fq D s M E r) (h1 : -19342822337206103650074625 < r) (h2 : r < 19342822337206103650074625) : exb D s M E = true ∧ vl (exq D s M E) = vr r := by
  have hb : exb D s M E = true := by
    unfold exb
    rw [decide_eq_true q.1, Bool.true_and]
    rcases q.cases with ⟨rfl, rfl, rfl, rfl, h0⟩ | ⟨rfl, _⟩ | ⟨rfl, rfl, rfl, ⟨rfl, h5⟩ | ⟨rfl, h5⟩⟩
    · rfl
    · rfl
    · omega
    · omega
  refine ⟨hb, ?_⟩
  unfold exq
  rw [if_pos hb]
  have hr := q.2.2
  rcases q.1 with ⟨rfl, rfl, rfl, rfl⟩ | ⟨rfl, g1, g2, g3⟩ | ⟨rfl, rfl, rfl⟩
  · obtain rfl : 0 = r := hr
    have e0 : sgi false 0 = 0 := if_neg (by decide)
    rw [e0, mk_zero, vl_zero]
    rfl
  · have hM := q.2.1
    have hpl : plc 1 M E = M - 9223372036854775808 + 1 + (E + 1048576) * 9223372036854775808 := rfl
    rw [hpl] at hr
    have ha : (sgi s M).natAbs = M.toNat := by
      cases s
      · show M.natAbs = M.toNat; omega
      · show (-M).natAbs = M.toNat; omega
    obtain ⟨η, hη⟩ : ∃ η : Nat, 4194304 = η := ⟨_, rfl⟩
    have hf := mk_fit (z := sgi s M) (e := E) (h := η) (by omega) (by omega) (by
      rw [ha]
      have : M.toNat < 2 ^ 64 := by omega
      have := Nat.mul_lt_mul_of_pos_right this (Nat.pow_pos (n := (E + (η : Int)).toNat) (show 0 < 2 by decide))
      rw [← Nat.pow_add] at this
      exact Nat.lt_of_lt_of_le this (Nat.pow_le_pow_right (by decide) (by omega)))
    rw [hf.2, ← hr, vp_vr s (by omega), vp_fin g1 hM (by omega), sgi_mul]
  · exfalso
    have : r = sgi s TP := hr.symm
    have := TP_eq
    cases s
    · have e : sgi false TP = TP := if_neg (by decide)
      omega
    · have e : sgi true TP = -TP := if_pos rfl
      omega
theorem lo_full {m : Nat} {E : Int} (h1 : 9223372036854775808 ≤ m) (h2 : m < 18446744073709551616) (h3 : -1048576 ≤ E) (h4 : E ≤ 1048576) : lo m E = (m : Int) - 9223372036854775808 + 1 + (E + 1048576) * 9223372036854775808 := by
  have hb : blen m = 64 := blen_uniq (k := 63) (by omega) (by omega) (by omega)
  have hx : xp m E = E := by unfold xp; rw [hb]; omega
  have ht : tp m = m := by
    rw [tp_small (by omega), hb, Nat.sub_self, Nat.pow_zero, Nat.mul_one]
  unfold lo
  rw [if_neg (by omega), hx, if_neg (by omega), if_neg (by omega), ht]
theorem back_odd {m k t : Nat} {E F : Int} (hm : m = k * 2 ^ t) (h1 : 9223372036854775808 ≤ m) (h2 : m < 18446744073709551616) (h3 : -1048576 ≤ E) (h4 : E ≤ 1048576) (hF : F = E + (t : Nat)) : ext k F = true ∧ lo k F = lo m E := by
  have hb : blen m = 64 := blen_uniq (k := 63) (by omega) (by omega) (by omega)
  have hk : k ≠ 0 := fun e => by rw [e, Nat.zero_mul] at hm; omega
  have b1 := blen_mul hk t
  rw [← hm, hb] at b1
  refine ⟨?_, ?_⟩
  · have e0 : (k == 0) = false := by simpa using hk
    unfold ext xp
    rw [e0, Bool.false_or, decide_eq_true (by omega), decide_eq_true (by omega), decide_eq_true (by omega)]
    rfl
  · rw [hm, lo_mul hk, hF]
/-- One that is one of the numbers is rounded to itself. -/
theorem back_fin {s : Bool} {M E : Int} (up : Bool) (g1 : 9223372036854775808 ≤ M) (hM : M < 18446744073709551616) (g2 : -1048576 ≤ E) (g3 : E ≤ 1048576) {z : Int} (hz : z.natAbs = M.toNat) (hs : decide (z < 0) = s) : rnd up (mk z E).1 (mk z E).2 = sgi s (M - 9223372036854775808 + 1 + (E + 1048576) * 9223372036854775808) := by
  have h0 : z ≠ 0 := by omega
  have hv := v2_pow_le (n := z.natAbs) (by omega)
  have hv2 : v2 z.natAbs < 64 := (Nat.pow_lt_pow_iff_right (a := 2) (by decide)).1 (show 2 ^ v2 z.natAbs < 2 ^ 64 by omega)
  obtain ⟨e1, e2, e3, e4, e5⟩ := mk_in (z := z) (e := E) h0 (by omega) (by omega)
  revert e1 e3 e4 e5
  generalize mk z E = p
  obtain ⟨N, F⟩ := p
  intro e1 e3 e4 e5
  simp only at e1 e3 e4 e5 ⊢
  have ea : z.natAbs = N.natAbs * 2 ^ v2 z.natAbs := by
    have := congrArg Int.natAbs e5
    rwa [natAbs_mul_pow] at this
  obtain ⟨x1, x2⟩ := back_odd ea (by omega) (by omega) g2 g3 e1
  rw [rnd_ext x1, x2, lo_full (by omega) (by omega) g2 g3, show decide (N < 0) = s by rw [← hs]; simp only [e3], show ((z.natAbs : Nat) : Int) = M by omega]
theorem rnd_nought (up : Bool) : rnd up 0 0 = 0 := by
  rw [rnd_ext rfl]
  rfl
theorem rnd_back {D : Int} {s : Bool} {M E r : Int} (up : Bool) (q : Fq D s M E r) (hx : exb D s M E = true) : rnd up (exq D s M E).1 (exq D s M E).2 = r := by
  unfold exq
  rw [if_pos hx]
  have hr := q.2.2
  rcases q.1 with ⟨rfl, rfl, rfl, rfl⟩ | ⟨rfl, g1, g2, g3⟩ | ⟨rfl, rfl, rfl⟩
  · obtain rfl : 0 = r := hr
    have e0 : sgi false 0 = 0 := if_neg (by decide)
    rw [e0, mk_zero]
    exact rnd_nought up
  · have hM := q.2.1
    have hpl : plc 1 M E = M - 9223372036854775808 + 1 + (E + 1048576) * 9223372036854775808 := rfl
    rw [hpl] at hr
    rw [← hr]
    refine back_fin up g1 hM g2 g3 ?_ ?_
    · cases s
      · rw [show sgi false M = M from if_neg (by decide)]; omega
      · rw [show sgi true M = -M from if_pos rfl]; omega
    · cases s
      · rw [show sgi false M = M from if_neg (by decide)]; exact decide_eq_false (by omega)
      · rw [show sgi true M = -M from if_pos rfl]; exact decide_eq_true (by omega)
  · exact absurd hx (by unfold exb; simp)
/-- A whole number's place, and its worth. -/
def opl (n : Int) : Int := sgi (decide (n < 0)) (lo n.natAbs 0)
theorem opl_zero : opl 0 = 0 := rfl
theorem opl_vr {n : Int} (h1 : -9223372036854775808 ≤ n) (h2 : n ≤ 9223372036854775807) : vr (opl n) = n * 2 ^ KK := by
  by_cases h0 : n = 0
  · subst h0
    rw [opl_zero, Int.zero_mul]
    rfl
  · have q := of_fq h0 h1 h2
    have hs := of_shl h0 h1 h2
    have a3 := blen_mono_le (n := n.natAbs) (k := 64) (by omega)
    have hr : _ = opl n := q.2.2
    have g := q.plc (by decide)
    rcases g with ⟨_, g1, g2, g3, g4, g5⟩ | ⟨g, _⟩
    · rw [← hr, vp_vr _ (by rw [g5]; omega), g5, vp_fin g1 g2 (by omega), ← hs, Int.mul_assoc, ← Int.pow_add, show (64 - (blen n.natAbs : Int)).toNat + (-(64 - (blen n.natAbs : Int)) + (KK : Int)).toNat = KK by rw [KK_eq]; omega, ← sgi_mul]
      congr 1
      by_cases hn : n < 0
      · rw [decide_eq_true hn]; show -(n.natAbs : Int) = n; omega
      · rw [decide_eq_false hn]; show (n.natAbs : Int) = n; omega
    · exact absurd g (by decide)
theorem opl_cmp {a b : Int} (h1 : -9223372036854775808 ≤ a) (h2 : a ≤ 9223372036854775807) (k1 : -9223372036854775808 ≤ b) (k2 : b ≤ 9223372036854775807) : cmpI (opl a) (opl b) = cmpI a b := by
  rw [← vr_cmp, opl_vr h1 h2, opl_vr k1 k2, cmpI_scale (p2pos KK)]
theorem sgi_not {n : Int} (h0 : n ≠ 0) (l : Int) : sgi (decide (-n < 0)) l = -sgi (decide (n < 0)) l := by
  by_cases hn : n < 0
  · rw [decide_eq_true hn, decide_eq_false (show ¬ -n < 0 by omega), show sgi false l = l from if_neg (by decide), show sgi true l = -l from if_pos rfl, Int.neg_neg]
  · rw [decide_eq_false hn, decide_eq_true (show -n < 0 by omega), show sgi false l = l from if_neg (by decide), show sgi true l = -l from if_pos rfl]
end Go.Proofs.YtbhnpmkdmnnclaaDoor

/-
  What any dyadic number in normal form is rounded to, however great or small: how it lies beside its neighbours; of a greater one no lesser one. Plain arithmetic; no Go text.
-/
namespace Go.Proofs.YtbhnpmkdmnnclaaDoor
open Go.RowKit
set_option linter.unusedVariables false

/-- The place of the least number above, and of the greatest below, by the worth alone. -/
def Dn (X r : Int) : Prop := -19342822337206103650074625 ≤ r ∧ r ≤ 19342822337206103650074624 ∧ (-19342822337206103650074625 < r → vr r ≤ X) ∧ (r < 19342822337206103650074624 → X < vr (r + 1))
def Up (X r : Int) : Prop := Dn (-X) (-r)
theorem Dn.mono {X Y r t : Int} (h : Dn X r) (k : Dn Y t) (hXY : X ≤ Y) : r ≤ t := by
  obtain ⟨h1, h2, h3, h4⟩ := h
  obtain ⟨k1, k2, k3, k4⟩ := k
  rcases Int.lt_or_le t r with q | q
  · exfalso
    have a := h3 (by omega)
    have b := k4 (by omega)
    rcases Int.lt_or_eq_of_le (show t + 1 ≤ r by omega) with q | q
    · have := vr_lt q
      omega
    · rw [q] at b
      omega
  · exact q
theorem Dn.uniq {X r t : Int} (h : Dn X r) (k : Dn X t) : r = t := by
  have a := h.mono k (Int.le_refl _)
  have b := k.mono h (Int.le_refl _)
  omega
theorem Up.mono {X Y r t : Int} (h : Up X r) (k : Up Y t) (hXY : X ≤ Y) : r ≤ t := by
  have := Dn.mono k h (by omega)
  omega
theorem Up.uniq {X r t : Int} (h : Up X r) (k : Up X t) : r = t := by
  have := Dn.uniq h k
  omega
/-- A place's own worth is told by it, to either side. -/
theorem dn_self {r : Int} (h1 : -19342822337206103650074625 < r) (h2 : r < 19342822337206103650074625) : Dn (vr r) r := ⟨by omega, by omega, fun _ => Int.le_refl _, fun _ => vr_succ r⟩
theorem up_self {r : Int} (h1 : -19342822337206103650074625 < r) (h2 : r < 19342822337206103650074625) : Up (vr r) r := by
  unfold Up
  rw [← vr_neg]
  exact dn_self (by omega) (by omega)
theorem m_lt (m : Nat) {a b : Int} (ha : 0 ≤ a) (hb : 0 ≤ b) (h : (blen m : Int) + a ≤ b) : (m : Int) * 2 ^ a.toNat < 2 ^ b.toNat := by
  have h1 := Nat.mul_lt_mul_of_pos_right (blen_lt m) (Nat.pow_pos (n := a.toNat) (show 0 < 2 by decide))
  rw [← Nat.pow_add] at h1
  have h2 := Nat.lt_of_lt_of_le h1 (Nat.pow_le_pow_right (show 0 < 2 by decide) (show blen m + a.toNat ≤ b.toNat by omega))
  exact_mod_cast h2
theorem m_ge {m : Nat} (h0 : m ≠ 0) {a b : Int} (ha : 0 ≤ a) (hb : 0 ≤ b) (h : b ≤ (blen m : Int) - 1 + a) : (2 : Int) ^ b.toNat ≤ (m : Int) * 2 ^ a.toNat := by
  have hl : blen m ≠ 0 := fun e => h0 (blen_eq_zero.1 e)
  have h1 := Nat.mul_le_mul_right (2 ^ a.toNat) (blen_le h0)
  rw [← Nat.pow_add] at h1
  have h2 := Nat.le_trans (Nat.pow_le_pow_right (show 0 < 2 by decide) (show b.toNat ≤ blen m - 1 + a.toNat by omega)) h1
  exact_mod_cast h2
theorem vp_one : vp 1 = 2 ^ (63 - 1048576 + (KK : Int)).toNat := by
  have := vp_fin (M := 9223372036854775808) (E := -1048576) (by decide) (by decide) (by decide)
  rw [show (9223372036854775808 : Int) - 9223372036854775808 + 1 + (-1048576 + 1048576) * 9223372036854775808 = 1 by decide] at this
  rw [this, show (63 - 1048576 + (KK : Int)).toNat = 63 + (-1048576 + (KK : Int)).toNat by rw [KK_eq]; omega, Int.pow_add]
  rfl
theorem vp_top : vp 19342822337206103650074624 < 2 ^ (64 + 1048576 + (KK : Int)).toNat := by
  have := vp_fin (M := 18446744073709551615) (E := 1048576) (by decide) (by decide) (by decide)
  rw [show (18446744073709551615 : Int) - 9223372036854775808 + 1 + (1048576 + 1048576) * 9223372036854775808 = 19342822337206103650074624 by decide] at this
  rw [this, show (64 + 1048576 + (KK : Int)).toNat = 64 + (1048576 + (KK : Int)).toNat by rw [KK_eq]; omega, Int.pow_add]
  exact Int.mul_lt_mul_of_pos_right (by decide) (p2pos _)
/-- A number above nought between what is next to it on both sides. -/
theorem lo_dn {m : Nat} {E : Int} (h0 : m ≠ 0) (hE1 : -4194304 ≤ E) (hE2 : E ≤ 4194304) (ho : m % 2 = 1) : Dn ((m : Int) * 2 ^ (E + KK).toNat) (lo m E) ∧ Up ((m : Int) * 2 ^ (E + KK).toNat) (hi m E) ∧ 0 ≤ lo m E ∧ 0 ≤ hi m E := by
  have hk := KK_eq
  obtain ⟨b1, b2⟩ := lo_bd m E
  have hl : blen m ≠ 0 := fun e => h0 (blen_eq_zero.1 e)
  have hx : xp m E = E + (blen m : Nat) - 64 := rfl
  have e0 : (m == 0) = false := by simpa using h0
  have hpos : 0 < (m : Int) * 2 ^ (E + KK).toNat := Int.mul_pos (by omega) (p2pos _)
  by_cases c1 : 1048576 < xp m E
  · have el : lo m E = 19342822337206103650074624 := by
      unfold lo
      rw [if_neg h0, if_pos c1]
    have ex : ext m E = false := by
      unfold ext
      rw [e0, decide_eq_false (show ¬ xp m E ≤ 1048576 by omega)]
      rfl
    have eh : hi m E = lo m E + 1 := by
      unfold hi
      rw [ex, if_neg (by decide)]
    have g := m_ge h0 (a := E + KK) (b := 64 + 1048576 + KK) (by omega) (by omega) (by omega)
    have ht := vp_top
    have ev : vr 19342822337206103650074624 = vp 19342822337206103650074624 := by
      unfold vr
      rw [if_neg (by decide)]
    rw [eh, el]
    refine ⟨⟨by decide, by decide, fun _ => by omega, fun h => absurd h (by decide)⟩, ⟨by decide, by decide, fun h => absurd h (by decide), fun _ => ?_⟩, by decide, by decide⟩
    have en : vr (-(19342822337206103650074624 + 1) + 1) = -vr 19342822337206103650074624 := vr_neg 19342822337206103650074624
    omega
  · by_cases c2 : xp m E < -1048576
    · have el : lo m E = 0 := by
        unfold lo
        rw [if_neg h0, if_neg c1, if_pos c2]
      have ex : ext m E = false := by
        unfold ext
        rw [e0, decide_eq_false (show ¬ -1048576 ≤ xp m E by omega)]
        simp
      have eh : hi m E = lo m E + 1 := by
        unfold hi
        rw [ex, if_neg (by decide)]
      have g := m_lt m (a := E + KK) (b := 63 - 1048576 + KK) (by omega) (by omega) (by omega)
      have h1 := vp_one
      have ev : vr 1 = vp 1 := by
        unfold vr
        rw [if_neg (by decide)]
      have ez : vr 0 = 0 := rfl
      rw [eh, el]
      have en : vr (-(0 + 1)) = -vr 1 := vr_neg 1
      refine ⟨⟨by decide, by decide, fun _ => by omega, fun _ => ?_⟩, ⟨by decide, by decide, fun _ => by omega, fun _ => ?_⟩, by decide, by decide⟩
      · rw [show (0 : Int) + 1 = 1 from rfl]
        omega
      · rw [show (-(0 + 1) + 1 : Int) = 0 from rfl]
        omega
    · obtain ⟨v1, v2, v3, v4⟩ := lo_vr (m := m) (E := E) h0 (by omega) (by omega) (by omega) ho
      revert v1 v2 v3 v4
      have hh : hi m E = if ext m E = true then lo m E else lo m E + 1 := rfl
      cases hx : ext m E
      · rw [hx, if_neg (by decide)] at hh
        rw [hh]
        revert b1 b2
        generalize lo m E = l
        intro b1 b2 v1 v2 v3 v4
        have v5 := v4 rfl
        have n1 := vr_neg (l + 1)
        have n2 := vr_neg l
        refine ⟨⟨by omega, by omega, fun _ => v1, fun _ => v2⟩, ⟨by omega, by omega, fun _ => by omega, fun _ => ?_⟩, b1, by omega⟩
        rw [show -(l + 1) + 1 = -l by omega]
        omega
      · rw [hx, if_pos rfl] at hh
        rw [hh]
        revert b1 b2
        generalize lo m E = l
        intro b1 b2 v1 v2 v3 v4
        have v5 := v3 rfl
        have n1 := vr_neg l
        have n2 := vr_succ (-l)
        refine ⟨⟨by omega, by omega, fun _ => v1, fun _ => v2⟩, ⟨by omega, by omega, fun _ => by omega, fun _ => by omega⟩, b1, b1⟩
theorem up_of_dn {X r : Int} (h : Dn X r) : Up (-X) (-r) := by
  unfold Up
  rw [Int.neg_neg, Int.neg_neg]
  exact h
theorem dn_of_up {X r : Int} (h : Up X r) : Dn (-X) (-r) := h
/-- Rounding is told by the worth alone. -/
theorem rnd_spec {P : Int × Int} (hP : Nf P) : Dn (vl P) (rnd false P.1 P.2) ∧ Up (vl P) (rnd true P.1 P.2) := by
  rcases hP.cases with e | ⟨h0, ho, e1, e2⟩
  · subst e
    rw [rnd_nought, rnd_nought, vl_zero]
    have h := dn_self (r := 0) (by decide) (by decide)
    have k := up_self (r := 0) (by decide) (by decide)
    rw [show vr 0 = 0 from rfl] at h k
    exact ⟨h, k⟩
  · obtain ⟨d, u, _, _⟩ := lo_dn (m := P.1.natAbs) (E := P.2) (by omega) e1 e2 ho
    have hvl : vl P = P.1 * 2 ^ (P.2 + KK).toNat := rfl
    rcases Int.lt_or_lt_of_ne h0 with hn | hp
    · have hs : true = decide (P.1 < 0) := (decide_eq_true hn).symm
      have r1 := rnd_diff (E := P.2) hs
      have r2 := rnd_same (up := true) (E := P.2) hs rfl
      rw [show (!true) = false from rfl] at r1
      have ev : vl P = -((P.1.natAbs : Int) * 2 ^ (P.2 + KK).toNat) := by
        rw [hvl, ← Int.neg_mul]
        congr 1
        omega
      have s1 : ∀ x, sgi true x = -x := fun x => if_pos rfl
      rw [r1, r2, ev, s1, s1]
      exact ⟨dn_of_up u, up_of_dn d⟩
    · have hs : false = decide (P.1 < 0) := (decide_eq_false (by omega)).symm
      have r1 := rnd_same (up := false) (E := P.2) hs rfl
      have r2 := rnd_diff (E := P.2) hs
      rw [show (!false) = true from rfl] at r2
      have ev : vl P = (P.1.natAbs : Int) * 2 ^ (P.2 + KK).toNat := by
        rw [hvl]
        congr 1
        omega
      have s1 : ∀ x, sgi false x = x := fun x => if_neg (by decide)
      rw [r1, r2, ev, s1, s1]
      exact ⟨d, u⟩
theorem rnd_monoA {P Q : Int × Int} (hP : Nf P) (hQ : Nf Q) (h : vl P ≤ vl Q) (up : Bool) : rnd up P.1 P.2 ≤ rnd up Q.1 Q.2 := by
  cases up
  · exact (rnd_spec hP).1.mono (rnd_spec hQ).1 h
  · exact (rnd_spec hP).2.mono (rnd_spec hQ).2 h
end Go.Proofs.YtbhnpmkdmnnclaaDoor

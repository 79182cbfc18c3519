/-
  The walk of ArithGrows: for all arguments, where the tables lie as they were laid, the call answers true, and nothing that was there has turned.
-/
import Derived.Below
import Derived.BigQuiet
import Derived.Carry
import Derived.Deep.DeepCutAuto
import Derived.Deep.Draws
import Derived.Deep.MidRow
import Derived.Deep.QuietTactic
import Derived.Deep.RegionHeld3
import Derived.Deep.RegionWith
import Derived.IntWalk
import Derived.Laws.CopyOwn
import Derived.Laws.MakeOwn
import Derived.Laws.OwnMore
import Derived.Laws.Rows
import Derived.Lib.BitFns
import Derived.Lib.Hide
import Derived.Maps.AppendAt
import Derived.StillTailTactics
import Derived.Test.YtbhnpmkdmnnclaaDoorRows
import Derived.WalkKit
import Derived.WalkLawsBesides
import Derived.WalkSpells
import Derived.Test.YtbhnpmkdmnnclaaDoorYAap
import Derived.Test.YtbhnpmkdmnnclaaDoorYAaq
import Derived.Test.YtbhnpmkdmnnclaaDoorYAav
import Derived.Test.YtbhnpmkdmnnclaaDoorYAax
namespace Go.Proofs.YtbhnpmkdmnnclaaDoor
open Go.RowKit
set_option linter.unusedVariables false
set_option linter.unusedSimpArgs false
set_option maxRecDepth 100000

theorem cmpI_npos {x y : Int} (h : x ≤ y) : decide (cmpI x y ≤ 0) = true := decide_eq_true (by rcases cmpI_tri x y with ⟨a, b⟩ | ⟨a, b⟩ | ⟨a, b⟩ <;> rw [b] <;> omega)
theorem cmpI_nneg {x y : Int} (h : y ≤ x) : decide (0 ≤ cmpI x y) = true := decide_eq_true (by rcases cmpI_tri x y with ⟨a, b⟩ | ⟨a, b⟩ | ⟨a, b⟩ <;> rw [b] <;> omega)
set_option maxHeartbeats 8000000 in
theorem arithGrows_gt (D0 : Int) (s0 : Bool) (M0 E0 : Int) (D1 : Int) (s1 : Bool) (M1 E1 : Int) (D2 : Int) (s2 : Bool) (M2 E2 : Int) (b3 : Bool) (w : World) (hT : Tb w) (u0 : M0 < 18446744073709551616) (u1 : M1 < 18446744073709551616) (h : cmpI (rk D0 s0 M0 E0) (rk D1 s1 M1 E1) = 1) :
    Calls Tryd.prog 7 #[.agg #[.int .i64 D0, .bool s0, .int .u64 M0, .int .i64 E0], .agg #[.int .i64 D1, .bool s1, .int .u64 M1, .int .i64 E1], .agg #[.int .i64 D2, .bool s2, .int .u64 M2, .int .i64 E2], .bool b3] w (PB w true) := by
  have HP := Lib.hid h
  clear h
  go_enter Tryd.func7, Tryd.ntmps7
  go_upto_region 1 with (fail)
  have X0 := (Bo.newAt w (g := w.heap.size) (by simp) #[.int .i64 D0, .bool s0, .int .u64 M0, .int .i64 E0] 24).below (bel2 _ (.cells #[.int .i64 D1, .bool s1, .int .u64 M1, .int .i64 E1] 24) (.cells #[.int .i64 D2, .bool s2, .int .u64 M2, .int .i64 E2] 24))
  have X1 := (Bo.newAt (w.alloc (.cells #[.int .i64 D0, .bool s0, .int .u64 M0, .int .i64 E0] 24)) (g := w.heap.size + 1) (by simp) #[.int .i64 D1, .bool s1, .int .u64 M1, .int .i64 E1] 24).below (bel1 _ (.cells #[.int .i64 D2, .bool s2, .int .u64 M2, .int .i64 E2] 24))
  have X2 := (Bo.newAt ((w.alloc (.cells #[.int .i64 D0, .bool s0, .int .u64 M0, .int .i64 E0] 24)).alloc (.cells #[.int .i64 D1, .bool s1, .int .u64 M1, .int .i64 E1] 24)) (g := w.heap.size + 1 + 1) (by simp) #[.int .i64 D2, .bool s2, .int .u64 M2, .int .i64 E2] 24)
  have HB := Lib.hid (bel3 w (.cells #[.int .i64 D0, .bool s0, .int .u64 M0, .int .i64 E0] 24) (.cells #[.int .i64 D1, .bool s1, .int .u64 M1, .int .i64 E1] 24) (.cells #[.int .i64 D2, .bool s2, .int .u64 M2, .int .i64 E2] 24))
  replace hT := hT.below HB.out
  generalize hW1 : (((w.alloc (.cells #[.int .i64 D0, .bool s0, .int .u64 M0, .int .i64 E0] 24)).alloc (.cells #[.int .i64 D1, .bool s1, .int .u64 M1, .int .i64 E1] 24)).alloc (.cells #[.int .i64 D2, .bool s2, .int .u64 M2, .int .i64 E2] 24)) = w1 at *
  clear hW1
  go_wp2_with fail
  refine (awake6 hT).mono ?_
  rintro ee w2 ⟨rfl, B⟩
  replace X0 := X0.below B
  replace X1 := X1.below B
  replace X2 := X2.below B
  replace hT := hT.below B
  replace HB := Lib.hid (bt HB.out B)
  clear B
  clear hT
  have xX00 := X0.at (i := 0) (v := .int .i64 D0) rfl
  have xX01 := X0.at (i := 1) (v := .bool s0) rfl
  have xX02 := X0.at (i := 2) (v := .int .u64 M0) rfl
  have xX03 := X0.at (i := 3) (v := .int .i64 E0) rfl
  have xX10 := X1.at (i := 0) (v := .int .i64 D1) rfl
  have xX11 := X1.at (i := 1) (v := .bool s1) rfl
  have xX12 := X1.at (i := 2) (v := .int .u64 M1) rfl
  have xX13 := X1.at (i := 3) (v := .int .i64 E1) rfl
  go_wp2_with fail
  refine (nCmp u0 u1 HP.out).mono ?_
  rintro ee w3 ⟨rfl, B⟩
  clear xX00 xX01 xX02 xX03 xX10 xX11 xX12 xX13
  replace X0 := X0.below B
  replace X1 := X1.below B
  replace X2 := X2.below B
  replace HB := Lib.hid (bt HB.out B)
  clear B
  go_wp2
  go_ret
  exact ⟨rfl, HB.out⟩
set_option maxHeartbeats 8000000 in
theorem arithGrows_nn (D0 : Int) (s0 : Bool) (M0 E0 : Int) (D1 : Int) (s1 : Bool) (M1 E1 : Int) (D2 : Int) (s2 : Bool) (M2 E2 : Int) (b3 : Bool) (w : World) (x y z p σ : Int) (hT : Tb w) (u0 : M0 < 18446744073709551616) (u1 : M1 < 18446744073709551616) (u2 : M2 < 18446744073709551616) (hx : rk D0 s0 M0 E0 = x) (hy : rk D1 s1 M1 E1 = y) (hz : rk D2 s2 M2 E2 = z) (hp : cmpI x y = p) (p0 : ¬ 0 < p) (hxy : x ≤ y) (hσ : cmpI z 0 = σ) (h0 : ¬ σ < 0) (hzs : 0 ≤ z) :
    Calls Tryd.prog 7 #[.agg #[.int .i64 D0, .bool s0, .int .u64 M0, .int .i64 E0], .agg #[.int .i64 D1, .bool s1, .int .u64 M1, .int .i64 E1], .agg #[.int .i64 D2, .bool s2, .int .u64 M2, .int .i64 E2], .bool b3] w (PB w true) := by
  have bx : -19342822337206103650074625 ≤ x ∧ x ≤ 19342822337206103650074625 := hx ▸ rk_bd u0
  have by_ : -19342822337206103650074625 ≤ y ∧ y ≤ 19342822337206103650074625 := hy ▸ rk_bd u1
  have bz : -19342822337206103650074625 ≤ z ∧ z ≤ 19342822337206103650074625 := hz ▸ rk_bd u2
  obtain ⟨a, ha⟩ : ∃ a, addp b3 x z = a := ⟨_, rfl⟩
  obtain ⟨b, hb⟩ : ∃ a, addp b3 y z = a := ⟨_, rfl⟩
  obtain ⟨m, hm⟩ : ∃ a, mulp b3 x z = a := ⟨_, rfl⟩
  obtain ⟨n, hn⟩ : ∃ a, mulp b3 y z = a := ⟨_, rfl⟩
  have hab : a ≤ b := by rw [← ha, ← hb]; exact addp_mono b3 bx.1 bx.2 by_.1 by_.2 bz.1 bz.2 hxy
  have hmn : m ≤ n := by rw [← hm, ← hn]; exact mulp_up b3 bx.1 bx.2 by_.1 by_.2 hzs bz.2 hxy
  obtain ⟨c1, hc1⟩ : ∃ c, cmpI a b = c := ⟨_, rfl⟩
  obtain ⟨c2, hc2⟩ : ∃ c, cmpI m n = c := ⟨_, rfl⟩
  have HT1 : Hid (decide (c1 ≤ 0) = true) := Lib.hid (by rw [← hc1]; exact cmpI_npos hab)
  have HT2 : Hid (decide (c2 ≤ 0) = true) := Lib.hid (by rw [← hc2]; exact cmpI_npos hmn)
  have HX := Lib.hid hx
  have HY := Lib.hid hy
  have HZ := Lib.hid hz
  have HA := Lib.hid ha
  have HBB := Lib.hid hb
  have HM := Lib.hid hm
  have HN := Lib.hid hn
  have HC1 := Lib.hid hc1
  have HC2 := Lib.hid hc2
  have HP := Lib.hid (show cmpI (rk D0 s0 M0 E0) (rk D1 s1 M1 E1) = p by rw [hx, hy, hp])
  have HS := Lib.hid (show cmpI (rk D2 s2 M2 E2) 0 = σ by rw [hz, hσ])
  clear hx hy hz hp hxy hσ hzs bx by_ bz ha hb hm hn hab hmn hc1 hc2
  go_enter Tryd.func7, Tryd.ntmps7
  go_upto_region 1 with (fail)
  have X0 := (Bo.newAt w (g := w.heap.size) (by simp) #[.int .i64 D0, .bool s0, .int .u64 M0, .int .i64 E0] 24).below (bel2 _ (.cells #[.int .i64 D1, .bool s1, .int .u64 M1, .int .i64 E1] 24) (.cells #[.int .i64 D2, .bool s2, .int .u64 M2, .int .i64 E2] 24))
  have X1 := (Bo.newAt (w.alloc (.cells #[.int .i64 D0, .bool s0, .int .u64 M0, .int .i64 E0] 24)) (g := w.heap.size + 1) (by simp) #[.int .i64 D1, .bool s1, .int .u64 M1, .int .i64 E1] 24).below (bel1 _ (.cells #[.int .i64 D2, .bool s2, .int .u64 M2, .int .i64 E2] 24))
  have X2 := (Bo.newAt ((w.alloc (.cells #[.int .i64 D0, .bool s0, .int .u64 M0, .int .i64 E0] 24)).alloc (.cells #[.int .i64 D1, .bool s1, .int .u64 M1, .int .i64 E1] 24)) (g := w.heap.size + 1 + 1) (by simp) #[.int .i64 D2, .bool s2, .int .u64 M2, .int .i64 E2] 24)
  have HB := Lib.hid (bel3 w (.cells #[.int .i64 D0, .bool s0, .int .u64 M0, .int .i64 E0] 24) (.cells #[.int .i64 D1, .bool s1, .int .u64 M1, .int .i64 E1] 24) (.cells #[.int .i64 D2, .bool s2, .int .u64 M2, .int .i64 E2] 24))
  replace hT := hT.below HB.out
  generalize hW1 : (((w.alloc (.cells #[.int .i64 D0, .bool s0, .int .u64 M0, .int .i64 E0] 24)).alloc (.cells #[.int .i64 D1, .bool s1, .int .u64 M1, .int .i64 E1] 24)).alloc (.cells #[.int .i64 D2, .bool s2, .int .u64 M2, .int .i64 E2] 24)) = w1 at *
  clear hW1
  go_wp2_with fail
  refine (awake6 hT).mono ?_
  rintro ee w2 ⟨rfl, B⟩
  replace X0 := X0.below B
  replace X1 := X1.below B
  replace X2 := X2.below B
  replace hT := hT.below B
  replace HB := Lib.hid (bt HB.out B)
  clear B
  have xX00 := X0.at (i := 0) (v := .int .i64 D0) rfl
  have xX01 := X0.at (i := 1) (v := .bool s0) rfl
  have xX02 := X0.at (i := 2) (v := .int .u64 M0) rfl
  have xX03 := X0.at (i := 3) (v := .int .i64 E0) rfl
  have xX10 := X1.at (i := 0) (v := .int .i64 D1) rfl
  have xX11 := X1.at (i := 1) (v := .bool s1) rfl
  have xX12 := X1.at (i := 2) (v := .int .u64 M1) rfl
  have xX13 := X1.at (i := 3) (v := .int .i64 E1) rfl
  go_wp2_with fail
  refine (nCmp u0 u1 HP.out).mono ?_
  rintro ee w3 ⟨rfl, B⟩
  clear xX00 xX01 xX02 xX03 xX10 xX11 xX12 xX13
  replace X0 := X0.below B
  replace X1 := X1.below B
  replace X2 := X2.below B
  replace hT := hT.below B
  replace HB := Lib.hid (bt HB.out B)
  clear B
  have xX00 := X0.at (i := 0) (v := .int .i64 D0) rfl
  have xX01 := X0.at (i := 1) (v := .bool s0) rfl
  have xX02 := X0.at (i := 2) (v := .int .u64 M0) rfl
  have xX03 := X0.at (i := 3) (v := .int .i64 E0) rfl
  have xX10 := X1.at (i := 0) (v := .int .i64 D1) rfl
  have xX11 := X1.at (i := 1) (v := .bool s1) rfl
  have xX12 := X1.at (i := 2) (v := .int .u64 M1) rfl
  have xX13 := X1.at (i := 3) (v := .int .i64 E1) rfl
  go_upto_region 4 with (fail)
  clear xX00 xX01 xX02 xX03 xX10 xX11 xX12 xX13
  refine Jo.region_joint (T := [0, 1, 2, 3, 4, 5, 6, 7, 8, 9, 10]) (ds := [some 21, some 22, some 23, some 24, some 25, some 26, some 27, some 28, some 29, some 30, some 10]) (ls := [[], [], [], [0, 1, 2], [], [], [], [4, 5, 6], [3, 7], [8], [9]]) (k := 11) (L := [(some 21, 0), (some 22, 1), (some 23, 2), (some 24, 3), (some 25, 4), (some 26, 5), (some 27, 6), (some 28, 7), (some 29, 8), (some 30, 9), (some 10, 10)]) (fuel := 0) (J := fun wj => Below (World.heap w3).size w3 wj)
    (F := [Jo.Fact.eq (.agg #[.int .i64 D0, .bool s0, .int .u64 M0, .int .i64 E0]), Jo.Fact.eq (.agg #[.int .i64 D2, .bool s2, .int .u64 M2, .int .i64 E2]), Jo.Fact.eq (.bool b3), Jo.Fact.num a, Jo.Fact.eq (.agg #[.int .i64 D1, .bool s1, .int .u64 M1, .int .i64 E1]), Jo.Fact.eq (.agg #[.int .i64 D2, .bool s2, .int .u64 M2, .int .i64 E2]), Jo.Fact.eq (.bool b3), Jo.Fact.num b, Jo.Fact.eq (.int .i64 c1), Jo.Fact.eq (.bool true), Jo.Fact.eq (.bool true)])
    (by kernel_rfl) (by kernel_rfl) (by decide) rfl rfl (fun _ _ h b => bt h b) ((Below.refl _ _).drew) ?_ (fun vs w4 hJ hd => ?_)
  · refine Jo.jcons (i := 0) (o := ⟨some 21, _, _, _, _, _⟩) (di := some 21) (L := []) (f := Jo.Fact.eq (.agg #[.int .i64 D0, .bool s0, .int .u64 M0, .int .i64 E0])) rfl rfl rfl rfl (fun vs wj hJ hd K hK => ?_) ?_
    · clear hd
      simp only [Jo.putl, List.foldl_nil, Act.put, List.setIfInBounds_toArray, List.set_cons_zero, List.set_cons_succ] at hK ⊢
      have xX00 : World.cell? wj ⟨w.heap.size, 0, none⟩ = some (.int .i64 D0) := (X0.below hJ).cell 0
      have xX01 : World.cell? wj ⟨w.heap.size, 1, none⟩ = some (.bool s0) := (X0.below hJ).cell 1
      have xX02 : World.cell? wj ⟨w.heap.size, 2, none⟩ = some (.int .u64 M0) := (X0.below hJ).cell 2
      have xX03 : World.cell? wj ⟨w.heap.size, 3, none⟩ = some (.int .i64 E0) := (X0.below hJ).cell 3
      go_simp
      exact hK.out _ _ rfl (Below.refl _ _)
    refine Jo.jcons (i := 1) (o := ⟨some 22, _, _, _, _, _⟩) (di := some 22) (L := []) (f := Jo.Fact.eq (.agg #[.int .i64 D2, .bool s2, .int .u64 M2, .int .i64 E2])) rfl rfl rfl rfl (fun vs wj hJ hd K hK => ?_) ?_
    · clear hd
      simp only [Jo.putl, List.foldl_nil, Act.put, List.setIfInBounds_toArray, List.set_cons_zero, List.set_cons_succ] at hK ⊢
      have xX20 : World.cell? wj ⟨w.heap.size + 1 + 1, 0, none⟩ = some (.int .i64 D2) := (X2.below hJ).cell 0
      have xX21 : World.cell? wj ⟨w.heap.size + 1 + 1, 1, none⟩ = some (.bool s2) := (X2.below hJ).cell 1
      have xX22 : World.cell? wj ⟨w.heap.size + 1 + 1, 2, none⟩ = some (.int .u64 M2) := (X2.below hJ).cell 2
      have xX23 : World.cell? wj ⟨w.heap.size + 1 + 1, 3, none⟩ = some (.int .i64 E2) := (X2.below hJ).cell 3
      go_simp
      exact hK.out _ _ rfl (Below.refl _ _)
    refine Jo.jcons (i := 2) (o := ⟨some 23, _, _, _, _, _⟩) (di := some 23) (L := []) (f := Jo.Fact.eq (.bool b3)) rfl rfl rfl rfl (fun vs wj hJ hd K hK => ?_) ?_
    · clear hd
      simp only [Jo.putl, List.foldl_nil, Act.put, List.setIfInBounds_toArray, List.set_cons_zero, List.set_cons_succ] at hK ⊢
      go_simp
      exact hK.out _ _ rfl (Below.refl _ _)
    refine Jo.jcons (i := 3) (o := ⟨some 24, _, _, _, _, _⟩) (di := some 24) (L := [(some 21, 0), (some 22, 1), (some 23, 2)]) (f := Jo.Fact.num a) rfl rfl rfl rfl (fun vs wj hJ hd K hK => ?_) ?_
    · have d0 : (Jo.Fact.eq (.agg #[.int .i64 D0, .bool s0, .int .u64 M0, .int .i64 E0])).P (vs 0) wj := hd 0 (by decide)
      have d1 : (Jo.Fact.eq (.agg #[.int .i64 D2, .bool s2, .int .u64 M2, .int .i64 E2])).P (vs 1) wj := hd 1 (by decide)
      have d2 : (Jo.Fact.eq (.bool b3)).P (vs 2) wj := hd 2 (by decide)
      clear hd
      simp only [Jo.putl, List.foldl_cons, List.foldl_nil, Act.put, List.setIfInBounds_toArray, List.set_cons_zero, List.set_cons_succ] at hK ⊢
      generalize vs 0 = u0 at hK d0 ⊢
      generalize vs 1 = u1 at hK d1 ⊢
      generalize vs 2 = u2 at hK d2 ⊢
      replace d0 : u0 = _ := d0
      subst d0
      replace d1 : u1 = _ := d1
      subst d1
      replace d2 : u2 = _ := d2
      subst d2
      go_simp
      refine (aAdd (hT.below hJ) u0 u2 HX.out HZ.out HA.out).mono ?_
      rintro ee wk ⟨K3, s3, M3, E3, rfl, q3, B⟩
      exact hK.out _ _ ⟨K3, s3, M3, E3, rfl, q3⟩ B
    refine Jo.jcons (i := 4) (o := ⟨some 25, _, _, _, _, _⟩) (di := some 25) (L := []) (f := Jo.Fact.eq (.agg #[.int .i64 D1, .bool s1, .int .u64 M1, .int .i64 E1])) rfl rfl rfl rfl (fun vs wj hJ hd K hK => ?_) ?_
    · clear hd
      simp only [Jo.putl, List.foldl_nil, Act.put, List.setIfInBounds_toArray, List.set_cons_zero, List.set_cons_succ] at hK ⊢
      have xX10 : World.cell? wj ⟨w.heap.size + 1, 0, none⟩ = some (.int .i64 D1) := (X1.below hJ).cell 0
      have xX11 : World.cell? wj ⟨w.heap.size + 1, 1, none⟩ = some (.bool s1) := (X1.below hJ).cell 1
      have xX12 : World.cell? wj ⟨w.heap.size + 1, 2, none⟩ = some (.int .u64 M1) := (X1.below hJ).cell 2
      have xX13 : World.cell? wj ⟨w.heap.size + 1, 3, none⟩ = some (.int .i64 E1) := (X1.below hJ).cell 3
      go_simp
      exact hK.out _ _ rfl (Below.refl _ _)
    refine Jo.jcons (i := 5) (o := ⟨some 26, _, _, _, _, _⟩) (di := some 26) (L := []) (f := Jo.Fact.eq (.agg #[.int .i64 D2, .bool s2, .int .u64 M2, .int .i64 E2])) rfl rfl rfl rfl (fun vs wj hJ hd K hK => ?_) ?_
    · clear hd
      simp only [Jo.putl, List.foldl_nil, Act.put, List.setIfInBounds_toArray, List.set_cons_zero, List.set_cons_succ] at hK ⊢
      have xX20 : World.cell? wj ⟨w.heap.size + 1 + 1, 0, none⟩ = some (.int .i64 D2) := (X2.below hJ).cell 0
      have xX21 : World.cell? wj ⟨w.heap.size + 1 + 1, 1, none⟩ = some (.bool s2) := (X2.below hJ).cell 1
      have xX22 : World.cell? wj ⟨w.heap.size + 1 + 1, 2, none⟩ = some (.int .u64 M2) := (X2.below hJ).cell 2
      have xX23 : World.cell? wj ⟨w.heap.size + 1 + 1, 3, none⟩ = some (.int .i64 E2) := (X2.below hJ).cell 3
      go_simp
      exact hK.out _ _ rfl (Below.refl _ _)
    refine Jo.jcons (i := 6) (o := ⟨some 27, _, _, _, _, _⟩) (di := some 27) (L := []) (f := Jo.Fact.eq (.bool b3)) rfl rfl rfl rfl (fun vs wj hJ hd K hK => ?_) ?_
    · clear hd
      simp only [Jo.putl, List.foldl_nil, Act.put, List.setIfInBounds_toArray, List.set_cons_zero, List.set_cons_succ] at hK ⊢
      go_simp
      exact hK.out _ _ rfl (Below.refl _ _)
    refine Jo.jcons (i := 7) (o := ⟨some 28, _, _, _, _, _⟩) (di := some 28) (L := [(some 25, 4), (some 26, 5), (some 27, 6)]) (f := Jo.Fact.num b) rfl rfl rfl rfl (fun vs wj hJ hd K hK => ?_) ?_
    · have d4 : (Jo.Fact.eq (.agg #[.int .i64 D1, .bool s1, .int .u64 M1, .int .i64 E1])).P (vs 4) wj := hd 4 (by decide)
      have d5 : (Jo.Fact.eq (.agg #[.int .i64 D2, .bool s2, .int .u64 M2, .int .i64 E2])).P (vs 5) wj := hd 5 (by decide)
      have d6 : (Jo.Fact.eq (.bool b3)).P (vs 6) wj := hd 6 (by decide)
      clear hd
      simp only [Jo.putl, List.foldl_cons, List.foldl_nil, Act.put, List.setIfInBounds_toArray, List.set_cons_zero, List.set_cons_succ] at hK ⊢
      generalize vs 4 = u4 at hK d4 ⊢
      generalize vs 5 = u5 at hK d5 ⊢
      generalize vs 6 = u6 at hK d6 ⊢
      replace d4 : u4 = _ := d4
      subst d4
      replace d5 : u5 = _ := d5
      subst d5
      replace d6 : u6 = _ := d6
      subst d6
      go_simp
      refine (aAdd (hT.below hJ) u1 u2 HY.out HZ.out HBB.out).mono ?_
      rintro ee wk ⟨K4, s4, M4, E4, rfl, q4, B⟩
      exact hK.out _ _ ⟨K4, s4, M4, E4, rfl, q4⟩ B
    refine Jo.jcons (i := 8) (o := ⟨some 29, _, _, _, _, _⟩) (di := some 29) (L := [(some 24, 3), (some 28, 7)]) (f := Jo.Fact.eq (.int .i64 c1)) rfl rfl rfl rfl (fun vs wj hJ hd K hK => ?_) ?_
    · have d3 : (Jo.Fact.num a).P (vs 3) wj := hd 3 (by decide)
      have d7 : (Jo.Fact.num b).P (vs 7) wj := hd 7 (by decide)
      clear hd
      simp only [Jo.putl, List.foldl_cons, List.foldl_nil, Act.put, List.setIfInBounds_toArray, List.set_cons_zero, List.set_cons_succ] at hK ⊢
      generalize vs 3 = u3 at hK d3 ⊢
      generalize vs 7 = u7 at hK d7 ⊢
      obtain ⟨K3, s3, M3, E3, rfl, q3⟩ := d3
      obtain ⟨K4, s4, M4, E4, rfl, q4⟩ := d7
      go_simp
      refine (nCmp (z := c1) q3.top q4.top (by rw [q3.rk, q4.rk]; exact HC1.out)).mono ?_
      rintro ee wk ⟨rfl, B⟩
      exact hK.out _ _ rfl B
    refine Jo.jcons (i := 9) (o := ⟨some 30, _, _, _, _, _⟩) (di := some 30) (L := [(some 29, 8)]) (f := Jo.Fact.eq (.bool true)) rfl rfl rfl rfl (fun vs wj hJ hd K hK => ?_) ?_
    · have d8 : (Jo.Fact.eq (.int .i64 c1)).P (vs 8) wj := hd 8 (by decide)
      clear hd
      simp only [Jo.putl, List.foldl_cons, List.foldl_nil, Act.put, List.setIfInBounds_toArray, List.set_cons_zero, List.set_cons_succ] at hK ⊢
      generalize vs 8 = u8 at hK d8 ⊢
      replace d8 : u8 = _ := d8
      subst d8
      have ht := HT1.out
      go_simp
      exact hK.out _ _ (by first | rfl | (show Value.bool _ = Value.bool _; simp only [ht])) (Below.refl _ _)
    refine Jo.jcons (i := 10) (o := ⟨some 10, _, _, _, _, _⟩) (di := some 10) (L := [(some 30, 9)]) (f := Jo.Fact.eq (.bool true)) rfl rfl rfl rfl (fun vs wj hJ hd K hK => ?_) ?_
    · have d9 : (Jo.Fact.eq (.bool true)).P (vs 9) wj := hd 9 (by decide)
      clear hd
      simp only [Jo.putl, List.foldl_cons, List.foldl_nil, Act.put, List.setIfInBounds_toArray, List.set_cons_zero, List.set_cons_succ] at hK ⊢
      generalize vs 9 = u9 at hK d9 ⊢
      replace d9 : u9 = _ := d9
      subst d9
      go_simp
      exact hK.out _ _ rfl (Below.refl _ _)
    exact Jo.Steps.nil
  have d0 : (Jo.Fact.eq (.agg #[.int .i64 D0, .bool s0, .int .u64 M0, .int .i64 E0])).P (vs 0) w4 := hd 0 (by decide)
  have d1 : (Jo.Fact.eq (.agg #[.int .i64 D2, .bool s2, .int .u64 M2, .int .i64 E2])).P (vs 1) w4 := hd 1 (by decide)
  have d2 : (Jo.Fact.eq (.bool b3)).P (vs 2) w4 := hd 2 (by decide)
  have d3 : (Jo.Fact.num a).P (vs 3) w4 := hd 3 (by decide)
  have d4 : (Jo.Fact.eq (.agg #[.int .i64 D1, .bool s1, .int .u64 M1, .int .i64 E1])).P (vs 4) w4 := hd 4 (by decide)
  have d5 : (Jo.Fact.eq (.agg #[.int .i64 D2, .bool s2, .int .u64 M2, .int .i64 E2])).P (vs 5) w4 := hd 5 (by decide)
  have d6 : (Jo.Fact.eq (.bool b3)).P (vs 6) w4 := hd 6 (by decide)
  have d7 : (Jo.Fact.num b).P (vs 7) w4 := hd 7 (by decide)
  have d8 : (Jo.Fact.eq (.int .i64 c1)).P (vs 8) w4 := hd 8 (by decide)
  have d9 : (Jo.Fact.eq (.bool true)).P (vs 9) w4 := hd 9 (by decide)
  have d10 : (Jo.Fact.eq (.bool true)).P (vs 10) w4 := hd 10 (by decide)
  clear hd
  simp only [Jo.putl, List.foldl_cons, List.foldl_nil, Act.put, List.setIfInBounds_toArray, List.set_cons_zero, List.set_cons_succ]
  generalize vs 0 = u0 at d0 ⊢
  generalize vs 1 = u1 at d1 ⊢
  generalize vs 2 = u2 at d2 ⊢
  generalize vs 3 = u3 at d3 ⊢
  generalize vs 4 = u4 at d4 ⊢
  generalize vs 5 = u5 at d5 ⊢
  generalize vs 6 = u6 at d6 ⊢
  generalize vs 7 = u7 at d7 ⊢
  generalize vs 8 = u8 at d8 ⊢
  generalize vs 9 = u9 at d9 ⊢
  generalize vs 10 = u10 at d10 ⊢
  clear vs
  replace d0 : u0 = _ := d0
  subst d0
  replace d1 : u1 = _ := d1
  subst d1
  replace d2 : u2 = _ := d2
  subst d2
  obtain ⟨K3, s3, M3, E3, rfl, _⟩ := d3
  replace d4 : u4 = _ := d4
  subst d4
  replace d5 : u5 = _ := d5
  subst d5
  replace d6 : u6 = _ := d6
  subst d6
  obtain ⟨K4, s4, M4, E4, rfl, _⟩ := d7
  replace d8 : u8 = _ := d8
  subst d8
  replace d9 : u9 = _ := d9
  subst d9
  replace d10 : u10 = _ := d10
  subst d10
  replace X0 := X0.below hJ
  replace X1 := X1.below hJ
  replace X2 := X2.below hJ
  replace hT := hT.below hJ
  replace HB := Lib.hid (bt HB.out hJ)
  refine Jo.jdone (by kernel_rfl) ?_
  clear hT
  have xX20 := X2.at (i := 0) (v := .int .i64 D2) rfl
  have xX21 := X2.at (i := 1) (v := .bool s2) rfl
  have xX22 := X2.at (i := 2) (v := .int .u64 M2) rfl
  have xX23 := X2.at (i := 3) (v := .int .i64 E2) rfl
  go_wp2_with fail
  refine (nSign u2 HS.out).mono ?_
  rintro ee w5 ⟨rfl, B⟩
  clear xX20 xX21 xX22 xX23
  replace X0 := X0.below B
  replace X1 := X1.below B
  replace X2 := X2.below B
  replace HB := Lib.hid (bt HB.out B)
  clear B
  go_upto_region 7 with (fail)
  refine Jo.region_joint (T := [0, 1, 2, 3, 4, 5, 6, 7, 8, 9, 10, 11, 12, 13]) (ds := [some 47, some 48, some 49, some 50, some 51, some 52, some 53, some 54, some 55, some 56, some 57, some 58, some 59, some 8]) (ls := [[], [0], [1], [1], [1], [1, 2, 3, 4], [1], [1], [1], [1, 6, 7, 8], [1, 5, 9], [1, 10], [1, 11], [12]]) (k := 14) (L := [(some 47, 0), (some 48, 1), (some 49, 2), (some 50, 3), (some 51, 4), (some 52, 5), (some 53, 6), (some 54, 7), (some 55, 8), (some 56, 9), (some 57, 10), (some 58, 11), (some 59, 12), (some 8, 13)]) (fuel := 0) (J := fun wj => Below (World.heap w5).size w5 wj)
    (F := [Jo.Fact.eq (.bool true), Jo.Fact.eq (.bool true), Jo.Fact.eq (.agg #[.int .i64 D0, .bool s0, .int .u64 M0, .int .i64 E0]), Jo.Fact.eq (.agg #[.int .i64 D2, .bool s2, .int .u64 M2, .int .i64 E2]), Jo.Fact.eq (.bool b3), Jo.Fact.num m, Jo.Fact.eq (.agg #[.int .i64 D1, .bool s1, .int .u64 M1, .int .i64 E1]), Jo.Fact.eq (.agg #[.int .i64 D2, .bool s2, .int .u64 M2, .int .i64 E2]), Jo.Fact.eq (.bool b3), Jo.Fact.num n, Jo.Fact.eq (.int .i64 c2), Jo.Fact.eq (.bool true), Jo.Fact.eq (.bool true), Jo.Fact.eq (.bool true)])
    (by kernel_rfl) (by kernel_rfl) (by decide) rfl rfl (fun _ _ h b => bt h b) ((Below.refl _ _).drew) ?_ (fun vs w6 hJ hd => ?_)
  · refine Jo.jcons (i := 0) (o := ⟨some 47, _, _, _, _, _⟩) (di := some 47) (L := []) (f := Jo.Fact.eq (.bool true)) rfl rfl rfl rfl (fun vs wj hJ hd K hK => ?_) ?_
    · clear hd
      simp only [Jo.putl, List.foldl_nil, Act.put, List.setIfInBounds_toArray, List.set_cons_zero, List.set_cons_succ] at hK ⊢
      go_simp
      exact hK.out _ _ rfl (Below.refl _ _)
    refine Jo.jcons (i := 1) (o := ⟨some 48, _, _, _, _, _⟩) (di := some 48) (L := [(some 47, 0)]) (f := Jo.Fact.eq (.bool true)) rfl rfl rfl rfl (fun vs wj hJ hd K hK => ?_) ?_
    · have d0 : (Jo.Fact.eq (.bool true)).P (vs 0) wj := hd 0 (by decide)
      clear hd
      simp only [Jo.putl, List.foldl_cons, List.foldl_nil, Act.put, List.setIfInBounds_toArray, List.set_cons_zero, List.set_cons_succ] at hK ⊢
      generalize vs 0 = u0 at hK d0 ⊢
      replace d0 : u0 = _ := d0
      subst d0
      go_simp
      exact hK.out _ _ rfl (Below.refl _ _)
    refine Jo.jcons (i := 2) (o := ⟨some 49, _, _, _, _, _⟩) (di := some 49) (L := [(some 48, 1)]) (f := Jo.Fact.eq (.agg #[.int .i64 D0, .bool s0, .int .u64 M0, .int .i64 E0])) rfl rfl rfl rfl (fun vs wj hJ hd K hK => ?_) ?_
    · have d1 : (Jo.Fact.eq (.bool true)).P (vs 1) wj := hd 1 (by decide)
      clear hd
      simp only [Jo.putl, List.foldl_cons, List.foldl_nil, Act.put, List.setIfInBounds_toArray, List.set_cons_zero, List.set_cons_succ] at hK ⊢
      generalize vs 1 = u1 at hK d1 ⊢
      replace d1 : u1 = _ := d1
      subst d1
      have xX00 : World.cell? wj ⟨w.heap.size, 0, none⟩ = some (.int .i64 D0) := (X0.below hJ).cell 0
      have xX01 : World.cell? wj ⟨w.heap.size, 1, none⟩ = some (.bool s0) := (X0.below hJ).cell 1
      have xX02 : World.cell? wj ⟨w.heap.size, 2, none⟩ = some (.int .u64 M0) := (X0.below hJ).cell 2
      have xX03 : World.cell? wj ⟨w.heap.size, 3, none⟩ = some (.int .i64 E0) := (X0.below hJ).cell 3
      go_simp
      exact hK.out _ _ rfl (Below.refl _ _)
    refine Jo.jcons (i := 3) (o := ⟨some 50, _, _, _, _, _⟩) (di := some 50) (L := [(some 48, 1)]) (f := Jo.Fact.eq (.agg #[.int .i64 D2, .bool s2, .int .u64 M2, .int .i64 E2])) rfl rfl rfl rfl (fun vs wj hJ hd K hK => ?_) ?_
    · have d1 : (Jo.Fact.eq (.bool true)).P (vs 1) wj := hd 1 (by decide)
      clear hd
      simp only [Jo.putl, List.foldl_cons, List.foldl_nil, Act.put, List.setIfInBounds_toArray, List.set_cons_zero, List.set_cons_succ] at hK ⊢
      generalize vs 1 = u1 at hK d1 ⊢
      replace d1 : u1 = _ := d1
      subst d1
      have xX20 : World.cell? wj ⟨w.heap.size + 1 + 1, 0, none⟩ = some (.int .i64 D2) := (X2.below hJ).cell 0
      have xX21 : World.cell? wj ⟨w.heap.size + 1 + 1, 1, none⟩ = some (.bool s2) := (X2.below hJ).cell 1
      have xX22 : World.cell? wj ⟨w.heap.size + 1 + 1, 2, none⟩ = some (.int .u64 M2) := (X2.below hJ).cell 2
      have xX23 : World.cell? wj ⟨w.heap.size + 1 + 1, 3, none⟩ = some (.int .i64 E2) := (X2.below hJ).cell 3
      go_simp
      exact hK.out _ _ rfl (Below.refl _ _)
    refine Jo.jcons (i := 4) (o := ⟨some 51, _, _, _, _, _⟩) (di := some 51) (L := [(some 48, 1)]) (f := Jo.Fact.eq (.bool b3)) rfl rfl rfl rfl (fun vs wj hJ hd K hK => ?_) ?_
    · have d1 : (Jo.Fact.eq (.bool true)).P (vs 1) wj := hd 1 (by decide)
      clear hd
      simp only [Jo.putl, List.foldl_cons, List.foldl_nil, Act.put, List.setIfInBounds_toArray, List.set_cons_zero, List.set_cons_succ] at hK ⊢
      generalize vs 1 = u1 at hK d1 ⊢
      replace d1 : u1 = _ := d1
      subst d1
      go_simp
      exact hK.out _ _ rfl (Below.refl _ _)
    refine Jo.jcons (i := 5) (o := ⟨some 52, _, _, _, _, _⟩) (di := some 52) (L := [(some 48, 1), (some 49, 2), (some 50, 3), (some 51, 4)]) (f := Jo.Fact.num m) rfl rfl rfl rfl (fun vs wj hJ hd K hK => ?_) ?_
    · have d1 : (Jo.Fact.eq (.bool true)).P (vs 1) wj := hd 1 (by decide)
      have d2 : (Jo.Fact.eq (.agg #[.int .i64 D0, .bool s0, .int .u64 M0, .int .i64 E0])).P (vs 2) wj := hd 2 (by decide)
      have d3 : (Jo.Fact.eq (.agg #[.int .i64 D2, .bool s2, .int .u64 M2, .int .i64 E2])).P (vs 3) wj := hd 3 (by decide)
      have d4 : (Jo.Fact.eq (.bool b3)).P (vs 4) wj := hd 4 (by decide)
      clear hd
      simp only [Jo.putl, List.foldl_cons, List.foldl_nil, Act.put, List.setIfInBounds_toArray, List.set_cons_zero, List.set_cons_succ] at hK ⊢
      generalize vs 1 = u1 at hK d1 ⊢
      generalize vs 2 = u2 at hK d2 ⊢
      generalize vs 3 = u3 at hK d3 ⊢
      generalize vs 4 = u4 at hK d4 ⊢
      replace d1 : u1 = _ := d1
      subst d1
      replace d2 : u2 = _ := d2
      subst d2
      replace d3 : u3 = _ := d3
      subst d3
      replace d4 : u4 = _ := d4
      subst d4
      go_simp
      refine (aMul u0 u2 HX.out HZ.out HM.out).mono ?_
      rintro ee wk ⟨K5, s5, M5, E5, rfl, q5, B⟩
      exact hK.out _ _ ⟨K5, s5, M5, E5, rfl, q5⟩ B
    refine Jo.jcons (i := 6) (o := ⟨some 53, _, _, _, _, _⟩) (di := some 53) (L := [(some 48, 1)]) (f := Jo.Fact.eq (.agg #[.int .i64 D1, .bool s1, .int .u64 M1, .int .i64 E1])) rfl rfl rfl rfl (fun vs wj hJ hd K hK => ?_) ?_
    · have d1 : (Jo.Fact.eq (.bool true)).P (vs 1) wj := hd 1 (by decide)
      clear hd
      simp only [Jo.putl, List.foldl_cons, List.foldl_nil, Act.put, List.setIfInBounds_toArray, List.set_cons_zero, List.set_cons_succ] at hK ⊢
      generalize vs 1 = u1 at hK d1 ⊢
      replace d1 : u1 = _ := d1
      subst d1
      have xX10 : World.cell? wj ⟨w.heap.size + 1, 0, none⟩ = some (.int .i64 D1) := (X1.below hJ).cell 0
      have xX11 : World.cell? wj ⟨w.heap.size + 1, 1, none⟩ = some (.bool s1) := (X1.below hJ).cell 1
      have xX12 : World.cell? wj ⟨w.heap.size + 1, 2, none⟩ = some (.int .u64 M1) := (X1.below hJ).cell 2
      have xX13 : World.cell? wj ⟨w.heap.size + 1, 3, none⟩ = some (.int .i64 E1) := (X1.below hJ).cell 3
      go_simp
      exact hK.out _ _ rfl (Below.refl _ _)
    refine Jo.jcons (i := 7) (o := ⟨some 54, _, _, _, _, _⟩) (di := some 54) (L := [(some 48, 1)]) (f := Jo.Fact.eq (.agg #[.int .i64 D2, .bool s2, .int .u64 M2, .int .i64 E2])) rfl rfl rfl rfl (fun vs wj hJ hd K hK => ?_) ?_
    · have d1 : (Jo.Fact.eq (.bool true)).P (vs 1) wj := hd 1 (by decide)
      clear hd
      simp only [Jo.putl, List.foldl_cons, List.foldl_nil, Act.put, List.setIfInBounds_toArray, List.set_cons_zero, List.set_cons_succ] at hK ⊢
      generalize vs 1 = u1 at hK d1 ⊢
      replace d1 : u1 = _ := d1
      subst d1
      have xX20 : World.cell? wj ⟨w.heap.size + 1 + 1, 0, none⟩ = some (.int .i64 D2) := (X2.below hJ).cell 0
      have xX21 : World.cell? wj ⟨w.heap.size + 1 + 1, 1, none⟩ = some (.bool s2) := (X2.below hJ).cell 1
      have xX22 : World.cell? wj ⟨w.heap.size + 1 + 1, 2, none⟩ = some (.int .u64 M2) := (X2.below hJ).cell 2
      have xX23 : World.cell? wj ⟨w.heap.size + 1 + 1, 3, none⟩ = some (.int .i64 E2) := (X2.below hJ).cell 3
      go_simp
      exact hK.out _ _ rfl (Below.refl _ _)
    refine Jo.jcons (i := 8) (o := ⟨some 55, _, _, _, _, _⟩) (di := some 55) (L := [(some 48, 1)]) (f := Jo.Fact.eq (.bool b3)) rfl rfl rfl rfl (fun vs wj hJ hd K hK => ?_) ?_
    · have d1 : (Jo.Fact.eq (.bool true)).P (vs 1) wj := hd 1 (by decide)
      clear hd
      simp only [Jo.putl, List.foldl_cons, List.foldl_nil, Act.put, List.setIfInBounds_toArray, List.set_cons_zero, List.set_cons_succ] at hK ⊢
      generalize vs 1 = u1 at hK d1 ⊢
      replace d1 : u1 = _ := d1
      subst d1
      go_simp
      exact hK.out _ _ rfl (Below.refl _ _)
    refine Jo.jcons (i := 9) (o := ⟨some 56, _, _, _, _, _⟩) (di := some 56) (L := [(some 48, 1), (some 53, 6), (some 54, 7), (some 55, 8)]) (f := Jo.Fact.num n) rfl rfl rfl rfl (fun vs wj hJ hd K hK => ?_) ?_
    · have d1 : (Jo.Fact.eq (.bool true)).P (vs 1) wj := hd 1 (by decide)
      have d6 : (Jo.Fact.eq (.agg #[.int .i64 D1, .bool s1, .int .u64 M1, .int .i64 E1])).P (vs 6) wj := hd 6 (by decide)
      have d7 : (Jo.Fact.eq (.agg #[.int .i64 D2, .bool s2, .int .u64 M2, .int .i64 E2])).P (vs 7) wj := hd 7 (by decide)
      have d8 : (Jo.Fact.eq (.bool b3)).P (vs 8) wj := hd 8 (by decide)
      clear hd
      simp only [Jo.putl, List.foldl_cons, List.foldl_nil, Act.put, List.setIfInBounds_toArray, List.set_cons_zero, List.set_cons_succ] at hK ⊢
      generalize vs 1 = u1 at hK d1 ⊢
      generalize vs 6 = u6 at hK d6 ⊢
      generalize vs 7 = u7 at hK d7 ⊢
      generalize vs 8 = u8 at hK d8 ⊢
      replace d1 : u1 = _ := d1
      subst d1
      replace d6 : u6 = _ := d6
      subst d6
      replace d7 : u7 = _ := d7
      subst d7
      replace d8 : u8 = _ := d8
      subst d8
      go_simp
      refine (aMul u1 u2 HY.out HZ.out HN.out).mono ?_
      rintro ee wk ⟨K6, s6, M6, E6, rfl, q6, B⟩
      exact hK.out _ _ ⟨K6, s6, M6, E6, rfl, q6⟩ B
    refine Jo.jcons (i := 10) (o := ⟨some 57, _, _, _, _, _⟩) (di := some 57) (L := [(some 48, 1), (some 52, 5), (some 56, 9)]) (f := Jo.Fact.eq (.int .i64 c2)) rfl rfl rfl rfl (fun vs wj hJ hd K hK => ?_) ?_
    · have d1 : (Jo.Fact.eq (.bool true)).P (vs 1) wj := hd 1 (by decide)
      have d5 : (Jo.Fact.num m).P (vs 5) wj := hd 5 (by decide)
      have d9 : (Jo.Fact.num n).P (vs 9) wj := hd 9 (by decide)
      clear hd
      simp only [Jo.putl, List.foldl_cons, List.foldl_nil, Act.put, List.setIfInBounds_toArray, List.set_cons_zero, List.set_cons_succ] at hK ⊢
      generalize vs 1 = u1 at hK d1 ⊢
      generalize vs 5 = u5 at hK d5 ⊢
      generalize vs 9 = u9 at hK d9 ⊢
      replace d1 : u1 = _ := d1
      subst d1
      obtain ⟨K5, s5, M5, E5, rfl, q5⟩ := d5
      obtain ⟨K6, s6, M6, E6, rfl, q6⟩ := d9
      go_simp
      refine (nCmp (z := c2) q5.top q6.top (by rw [q5.rk, q6.rk]; exact HC2.out)).mono ?_
      rintro ee wk ⟨rfl, B⟩
      exact hK.out _ _ rfl B
    refine Jo.jcons (i := 11) (o := ⟨some 58, _, _, _, _, _⟩) (di := some 58) (L := [(some 48, 1), (some 57, 10)]) (f := Jo.Fact.eq (.bool true)) rfl rfl rfl rfl (fun vs wj hJ hd K hK => ?_) ?_
    · have d1 : (Jo.Fact.eq (.bool true)).P (vs 1) wj := hd 1 (by decide)
      have d10 : (Jo.Fact.eq (.int .i64 c2)).P (vs 10) wj := hd 10 (by decide)
      clear hd
      simp only [Jo.putl, List.foldl_cons, List.foldl_nil, Act.put, List.setIfInBounds_toArray, List.set_cons_zero, List.set_cons_succ] at hK ⊢
      generalize vs 1 = u1 at hK d1 ⊢
      generalize vs 10 = u10 at hK d10 ⊢
      replace d1 : u1 = _ := d1
      subst d1
      replace d10 : u10 = _ := d10
      subst d10
      have ht := HT2.out
      go_simp
      exact hK.out _ _ (by first | rfl | (show Value.bool _ = Value.bool _; simp only [ht])) (Below.refl _ _)
    refine Jo.jcons (i := 12) (o := ⟨some 59, _, _, _, _, _⟩) (di := some 59) (L := [(some 48, 1), (some 58, 11)]) (f := Jo.Fact.eq (.bool true)) rfl rfl rfl rfl (fun vs wj hJ hd K hK => ?_) ?_
    · have d1 : (Jo.Fact.eq (.bool true)).P (vs 1) wj := hd 1 (by decide)
      have d11 : (Jo.Fact.eq (.bool true)).P (vs 11) wj := hd 11 (by decide)
      clear hd
      simp only [Jo.putl, List.foldl_cons, List.foldl_nil, Act.put, List.setIfInBounds_toArray, List.set_cons_zero, List.set_cons_succ] at hK ⊢
      generalize vs 1 = u1 at hK d1 ⊢
      generalize vs 11 = u11 at hK d11 ⊢
      replace d1 : u1 = _ := d1
      subst d1
      replace d11 : u11 = _ := d11
      subst d11
      go_simp
      exact hK.out _ _ rfl (Below.refl _ _)
    refine Jo.jcons (i := 13) (o := ⟨some 8, _, _, _, _, _⟩) (di := some 8) (L := [(some 59, 12)]) (f := Jo.Fact.eq (.bool true)) rfl rfl rfl rfl (fun vs wj hJ hd K hK => ?_) ?_
    · have d12 : (Jo.Fact.eq (.bool true)).P (vs 12) wj := hd 12 (by decide)
      clear hd
      simp only [Jo.putl, List.foldl_cons, List.foldl_nil, Act.put, List.setIfInBounds_toArray, List.set_cons_zero, List.set_cons_succ] at hK ⊢
      generalize vs 12 = u12 at hK d12 ⊢
      replace d12 : u12 = _ := d12
      subst d12
      go_simp
      exact hK.out _ _ rfl (Below.refl _ _)
    exact Jo.Steps.nil
  have d0 : (Jo.Fact.eq (.bool true)).P (vs 0) w6 := hd 0 (by decide)
  have d1 : (Jo.Fact.eq (.bool true)).P (vs 1) w6 := hd 1 (by decide)
  have d2 : (Jo.Fact.eq (.agg #[.int .i64 D0, .bool s0, .int .u64 M0, .int .i64 E0])).P (vs 2) w6 := hd 2 (by decide)
  have d3 : (Jo.Fact.eq (.agg #[.int .i64 D2, .bool s2, .int .u64 M2, .int .i64 E2])).P (vs 3) w6 := hd 3 (by decide)
  have d4 : (Jo.Fact.eq (.bool b3)).P (vs 4) w6 := hd 4 (by decide)
  have d5 : (Jo.Fact.num m).P (vs 5) w6 := hd 5 (by decide)
  have d6 : (Jo.Fact.eq (.agg #[.int .i64 D1, .bool s1, .int .u64 M1, .int .i64 E1])).P (vs 6) w6 := hd 6 (by decide)
  have d7 : (Jo.Fact.eq (.agg #[.int .i64 D2, .bool s2, .int .u64 M2, .int .i64 E2])).P (vs 7) w6 := hd 7 (by decide)
  have d8 : (Jo.Fact.eq (.bool b3)).P (vs 8) w6 := hd 8 (by decide)
  have d9 : (Jo.Fact.num n).P (vs 9) w6 := hd 9 (by decide)
  have d10 : (Jo.Fact.eq (.int .i64 c2)).P (vs 10) w6 := hd 10 (by decide)
  have d11 : (Jo.Fact.eq (.bool true)).P (vs 11) w6 := hd 11 (by decide)
  have d12 : (Jo.Fact.eq (.bool true)).P (vs 12) w6 := hd 12 (by decide)
  have d13 : (Jo.Fact.eq (.bool true)).P (vs 13) w6 := hd 13 (by decide)
  clear hd
  simp only [Jo.putl, List.foldl_cons, List.foldl_nil, Act.put, List.setIfInBounds_toArray, List.set_cons_zero, List.set_cons_succ]
  generalize vs 0 = u0 at d0 ⊢
  generalize vs 1 = u1 at d1 ⊢
  generalize vs 2 = u2 at d2 ⊢
  generalize vs 3 = u3 at d3 ⊢
  generalize vs 4 = u4 at d4 ⊢
  generalize vs 5 = u5 at d5 ⊢
  generalize vs 6 = u6 at d6 ⊢
  generalize vs 7 = u7 at d7 ⊢
  generalize vs 8 = u8 at d8 ⊢
  generalize vs 9 = u9 at d9 ⊢
  generalize vs 10 = u10 at d10 ⊢
  generalize vs 11 = u11 at d11 ⊢
  generalize vs 12 = u12 at d12 ⊢
  generalize vs 13 = u13 at d13 ⊢
  clear vs
  replace d0 : u0 = _ := d0
  subst d0
  replace d1 : u1 = _ := d1
  subst d1
  replace d2 : u2 = _ := d2
  subst d2
  replace d3 : u3 = _ := d3
  subst d3
  replace d4 : u4 = _ := d4
  subst d4
  obtain ⟨K5, s5, M5, E5, rfl, _⟩ := d5
  replace d6 : u6 = _ := d6
  subst d6
  replace d7 : u7 = _ := d7
  subst d7
  replace d8 : u8 = _ := d8
  subst d8
  obtain ⟨K6, s6, M6, E6, rfl, _⟩ := d9
  replace d10 : u10 = _ := d10
  subst d10
  replace d11 : u11 = _ := d11
  subst d11
  replace d12 : u12 = _ := d12
  subst d12
  replace d13 : u13 = _ := d13
  subst d13
  replace X0 := X0.below hJ
  replace X1 := X1.below hJ
  replace X2 := X2.below hJ
  replace HB := Lib.hid (bt HB.out hJ)
  refine Jo.jdone (by kernel_rfl) ?_
  go_wp2
  go_ret
  exact ⟨rfl, HB.out⟩
set_option maxHeartbeats 8000000 in
theorem arithGrows_neg (D0 : Int) (s0 : Bool) (M0 E0 : Int) (D1 : Int) (s1 : Bool) (M1 E1 : Int) (D2 : Int) (s2 : Bool) (M2 E2 : Int) (b3 : Bool) (w : World) (x y z p σ : Int) (hT : Tb w) (u0 : M0 < 18446744073709551616) (u1 : M1 < 18446744073709551616) (u2 : M2 < 18446744073709551616) (hx : rk D0 s0 M0 E0 = x) (hy : rk D1 s1 M1 E1 = y) (hz : rk D2 s2 M2 E2 = z) (hp : cmpI x y = p) (p0 : ¬ 0 < p) (hxy : x ≤ y) (hσ : cmpI z 0 = σ) (h0 : σ < 0) (hzs : z < 0) :
    Calls Tryd.prog 7 #[.agg #[.int .i64 D0, .bool s0, .int .u64 M0, .int .i64 E0], .agg #[.int .i64 D1, .bool s1, .int .u64 M1, .int .i64 E1], .agg #[.int .i64 D2, .bool s2, .int .u64 M2, .int .i64 E2], .bool b3] w (PB w true) := by
  have bx : -19342822337206103650074625 ≤ x ∧ x ≤ 19342822337206103650074625 := hx ▸ rk_bd u0
  have by_ : -19342822337206103650074625 ≤ y ∧ y ≤ 19342822337206103650074625 := hy ▸ rk_bd u1
  have bz : -19342822337206103650074625 ≤ z ∧ z ≤ 19342822337206103650074625 := hz ▸ rk_bd u2
  obtain ⟨a, ha⟩ : ∃ a, addp b3 x z = a := ⟨_, rfl⟩
  obtain ⟨b, hb⟩ : ∃ a, addp b3 y z = a := ⟨_, rfl⟩
  obtain ⟨m, hm⟩ : ∃ a, mulp b3 x z = a := ⟨_, rfl⟩
  obtain ⟨n, hn⟩ : ∃ a, mulp b3 y z = a := ⟨_, rfl⟩
  have hab : a ≤ b := by rw [← ha, ← hb]; exact addp_mono b3 bx.1 bx.2 by_.1 by_.2 bz.1 bz.2 hxy
  have hmn : n ≤ m := by rw [← hm, ← hn]; exact mulp_dn b3 bx.1 bx.2 by_.1 by_.2 hzs bz.1 hxy
  obtain ⟨c1, hc1⟩ : ∃ c, cmpI a b = c := ⟨_, rfl⟩
  obtain ⟨c2, hc2⟩ : ∃ c, cmpI m n = c := ⟨_, rfl⟩
  have HT1 : Hid (decide (c1 ≤ 0) = true) := Lib.hid (by rw [← hc1]; exact cmpI_npos hab)
  have HT2 : Hid (decide (0 ≤ c2) = true) := Lib.hid (by rw [← hc2]; exact cmpI_nneg hmn)
  have HX := Lib.hid hx
  have HY := Lib.hid hy
  have HZ := Lib.hid hz
  have HA := Lib.hid ha
  have HBB := Lib.hid hb
  have HM := Lib.hid hm
  have HN := Lib.hid hn
  have HC1 := Lib.hid hc1
  have HC2 := Lib.hid hc2
  have HP := Lib.hid (show cmpI (rk D0 s0 M0 E0) (rk D1 s1 M1 E1) = p by rw [hx, hy, hp])
  have HS := Lib.hid (show cmpI (rk D2 s2 M2 E2) 0 = σ by rw [hz, hσ])
  clear hx hy hz hp hxy hσ hzs bx by_ bz ha hb hm hn hab hmn hc1 hc2
  go_enter Tryd.func7, Tryd.ntmps7
  go_upto_region 1 with (fail)
  have X0 := (Bo.newAt w (g := w.heap.size) (by simp) #[.int .i64 D0, .bool s0, .int .u64 M0, .int .i64 E0] 24).below (bel2 _ (.cells #[.int .i64 D1, .bool s1, .int .u64 M1, .int .i64 E1] 24) (.cells #[.int .i64 D2, .bool s2, .int .u64 M2, .int .i64 E2] 24))
  have X1 := (Bo.newAt (w.alloc (.cells #[.int .i64 D0, .bool s0, .int .u64 M0, .int .i64 E0] 24)) (g := w.heap.size + 1) (by simp) #[.int .i64 D1, .bool s1, .int .u64 M1, .int .i64 E1] 24).below (bel1 _ (.cells #[.int .i64 D2, .bool s2, .int .u64 M2, .int .i64 E2] 24))
  have X2 := (Bo.newAt ((w.alloc (.cells #[.int .i64 D0, .bool s0, .int .u64 M0, .int .i64 E0] 24)).alloc (.cells #[.int .i64 D1, .bool s1, .int .u64 M1, .int .i64 E1] 24)) (g := w.heap.size + 1 + 1) (by simp) #[.int .i64 D2, .bool s2, .int .u64 M2, .int .i64 E2] 24)
  have HB := Lib.hid (bel3 w (.cells #[.int .i64 D0, .bool s0, .int .u64 M0, .int .i64 E0] 24) (.cells #[.int .i64 D1, .bool s1, .int .u64 M1, .int .i64 E1] 24) (.cells #[.int .i64 D2, .bool s2, .int .u64 M2, .int .i64 E2] 24))
  replace hT := hT.below HB.out
  generalize hW1 : (((w.alloc (.cells #[.int .i64 D0, .bool s0, .int .u64 M0, .int .i64 E0] 24)).alloc (.cells #[.int .i64 D1, .bool s1, .int .u64 M1, .int .i64 E1] 24)).alloc (.cells #[.int .i64 D2, .bool s2, .int .u64 M2, .int .i64 E2] 24)) = w1 at *
  clear hW1
  go_wp2_with fail
  refine (awake6 hT).mono ?_
  rintro ee w2 ⟨rfl, B⟩
  replace X0 := X0.below B
  replace X1 := X1.below B
  replace X2 := X2.below B
  replace hT := hT.below B
  replace HB := Lib.hid (bt HB.out B)
  clear B
  have xX00 := X0.at (i := 0) (v := .int .i64 D0) rfl
  have xX01 := X0.at (i := 1) (v := .bool s0) rfl
  have xX02 := X0.at (i := 2) (v := .int .u64 M0) rfl
  have xX03 := X0.at (i := 3) (v := .int .i64 E0) rfl
  have xX10 := X1.at (i := 0) (v := .int .i64 D1) rfl
  have xX11 := X1.at (i := 1) (v := .bool s1) rfl
  have xX12 := X1.at (i := 2) (v := .int .u64 M1) rfl
  have xX13 := X1.at (i := 3) (v := .int .i64 E1) rfl
  go_wp2_with fail
  refine (nCmp u0 u1 HP.out).mono ?_
  rintro ee w3 ⟨rfl, B⟩
  clear xX00 xX01 xX02 xX03 xX10 xX11 xX12 xX13
  replace X0 := X0.below B
  replace X1 := X1.below B
  replace X2 := X2.below B
  replace hT := hT.below B
  replace HB := Lib.hid (bt HB.out B)
  clear B
  have xX00 := X0.at (i := 0) (v := .int .i64 D0) rfl
  have xX01 := X0.at (i := 1) (v := .bool s0) rfl
  have xX02 := X0.at (i := 2) (v := .int .u64 M0) rfl
  have xX03 := X0.at (i := 3) (v := .int .i64 E0) rfl
  have xX10 := X1.at (i := 0) (v := .int .i64 D1) rfl
  have xX11 := X1.at (i := 1) (v := .bool s1) rfl
  have xX12 := X1.at (i := 2) (v := .int .u64 M1) rfl
  have xX13 := X1.at (i := 3) (v := .int .i64 E1) rfl
  go_upto_region 4 with (fail)
  clear xX00 xX01 xX02 xX03 xX10 xX11 xX12 xX13
  refine Jo.region_joint (T := [0, 1, 2, 3, 4, 5, 6, 7, 8, 9, 10]) (ds := [some 21, some 22, some 23, some 24, some 25, some 26, some 27, some 28, some 29, some 30, some 10]) (ls := [[], [], [], [0, 1, 2], [], [], [], [4, 5, 6], [3, 7], [8], [9]]) (k := 11) (L := [(some 21, 0), (some 22, 1), (some 23, 2), (some 24, 3), (some 25, 4), (some 26, 5), (some 27, 6), (some 28, 7), (some 29, 8), (some 30, 9), (some 10, 10)]) (fuel := 0) (J := fun wj => Below (World.heap w3).size w3 wj)
    (F := [Jo.Fact.eq (.agg #[.int .i64 D0, .bool s0, .int .u64 M0, .int .i64 E0]), Jo.Fact.eq (.agg #[.int .i64 D2, .bool s2, .int .u64 M2, .int .i64 E2]), Jo.Fact.eq (.bool b3), Jo.Fact.num a, Jo.Fact.eq (.agg #[.int .i64 D1, .bool s1, .int .u64 M1, .int .i64 E1]), Jo.Fact.eq (.agg #[.int .i64 D2, .bool s2, .int .u64 M2, .int .i64 E2]), Jo.Fact.eq (.bool b3), Jo.Fact.num b, Jo.Fact.eq (.int .i64 c1), Jo.Fact.eq (.bool true), Jo.Fact.eq (.bool true)])
    (by kernel_rfl) (by kernel_rfl) (by decide) rfl rfl (fun _ _ h b => bt h b) ((Below.refl _ _).drew) ?_ (fun vs w4 hJ hd => ?_)
  · refine Jo.jcons (i := 0) (o := ⟨some 21, _, _, _, _, _⟩) (di := some 21) (L := []) (f := Jo.Fact.eq (.agg #[.int .i64 D0, .bool s0, .int .u64 M0, .int .i64 E0])) rfl rfl rfl rfl (fun vs wj hJ hd K hK => ?_) ?_
    · clear hd
      simp only [Jo.putl, List.foldl_nil, Act.put, List.setIfInBounds_toArray, List.set_cons_zero, List.set_cons_succ] at hK ⊢
      have xX00 : World.cell? wj ⟨w.heap.size, 0, none⟩ = some (.int .i64 D0) := (X0.below hJ).cell 0
      have xX01 : World.cell? wj ⟨w.heap.size, 1, none⟩ = some (.bool s0) := (X0.below hJ).cell 1
      have xX02 : World.cell? wj ⟨w.heap.size, 2, none⟩ = some (.int .u64 M0) := (X0.below hJ).cell 2
      have xX03 : World.cell? wj ⟨w.heap.size, 3, none⟩ = some (.int .i64 E0) := (X0.below hJ).cell 3
      go_simp
      exact hK.out _ _ rfl (Below.refl _ _)
    refine Jo.jcons (i := 1) (o := ⟨some 22, _, _, _, _, _⟩) (di := some 22) (L := []) (f := Jo.Fact.eq (.agg #[.int .i64 D2, .bool s2, .int .u64 M2, .int .i64 E2])) rfl rfl rfl rfl (fun vs wj hJ hd K hK => ?_) ?_
    · clear hd
      simp only [Jo.putl, List.foldl_nil, Act.put, List.setIfInBounds_toArray, List.set_cons_zero, List.set_cons_succ] at hK ⊢
      have xX20 : World.cell? wj ⟨w.heap.size + 1 + 1, 0, none⟩ = some (.int .i64 D2) := (X2.below hJ).cell 0
      have xX21 : World.cell? wj ⟨w.heap.size + 1 + 1, 1, none⟩ = some (.bool s2) := (X2.below hJ).cell 1
      have xX22 : World.cell? wj ⟨w.heap.size + 1 + 1, 2, none⟩ = some (.int .u64 M2) := (X2.below hJ).cell 2
      have xX23 : World.cell? wj ⟨w.heap.size + 1 + 1, 3, none⟩ = some (.int .i64 E2) := (X2.below hJ).cell 3
      go_simp
      exact hK.out _ _ rfl (Below.refl _ _)
    refine Jo.jcons (i := 2) (o := ⟨some 23, _, _, _, _, _⟩) (di := some 23) (L := []) (f := Jo.Fact.eq (.bool b3)) rfl rfl rfl rfl (fun vs wj hJ hd K hK => ?_) ?_
    · clear hd
      simp only [Jo.putl, List.foldl_nil, Act.put, List.setIfInBounds_toArray, List.set_cons_zero, List.set_cons_succ] at hK ⊢
      go_simp
      exact hK.out _ _ rfl (Below.refl _ _)
    refine Jo.jcons (i := 3) (o := ⟨some 24, _, _, _, _, _⟩) (di := some 24) (L := [(some 21, 0), (some 22, 1), (some 23, 2)]) (f := Jo.Fact.num a) rfl rfl rfl rfl (fun vs wj hJ hd K hK => ?_) ?_
    · have d0 : (Jo.Fact.eq (.agg #[.int .i64 D0, .bool s0, .int .u64 M0, .int .i64 E0])).P (vs 0) wj := hd 0 (by decide)
      have d1 : (Jo.Fact.eq (.agg #[.int .i64 D2, .bool s2, .int .u64 M2, .int .i64 E2])).P (vs 1) wj := hd 1 (by decide)
      have d2 : (Jo.Fact.eq (.bool b3)).P (vs 2) wj := hd 2 (by decide)
      clear hd
      simp only [Jo.putl, List.foldl_cons, List.foldl_nil, Act.put, List.setIfInBounds_toArray, List.set_cons_zero, List.set_cons_succ] at hK ⊢
      generalize vs 0 = u0 at hK d0 ⊢
      generalize vs 1 = u1 at hK d1 ⊢
      generalize vs 2 = u2 at hK d2 ⊢
      replace d0 : u0 = _ := d0
      subst d0
      replace d1 : u1 = _ := d1
      subst d1
      replace d2 : u2 = _ := d2
      subst d2
      go_simp
      refine (aAdd (hT.below hJ) u0 u2 HX.out HZ.out HA.out).mono ?_
      rintro ee wk ⟨K3, s3, M3, E3, rfl, q3, B⟩
      exact hK.out _ _ ⟨K3, s3, M3, E3, rfl, q3⟩ B
    refine Jo.jcons (i := 4) (o := ⟨some 25, _, _, _, _, _⟩) (di := some 25) (L := []) (f := Jo.Fact.eq (.agg #[.int .i64 D1, .bool s1, .int .u64 M1, .int .i64 E1])) rfl rfl rfl rfl (fun vs wj hJ hd K hK => ?_) ?_
    · clear hd
      simp only [Jo.putl, List.foldl_nil, Act.put, List.setIfInBounds_toArray, List.set_cons_zero, List.set_cons_succ] at hK ⊢
      have xX10 : World.cell? wj ⟨w.heap.size + 1, 0, none⟩ = some (.int .i64 D1) := (X1.below hJ).cell 0
      have xX11 : World.cell? wj ⟨w.heap.size + 1, 1, none⟩ = some (.bool s1) := (X1.below hJ).cell 1
      have xX12 : World.cell? wj ⟨w.heap.size + 1, 2, none⟩ = some (.int .u64 M1) := (X1.below hJ).cell 2
      have xX13 : World.cell? wj ⟨w.heap.size + 1, 3, none⟩ = some (.int .i64 E1) := (X1.below hJ).cell 3
      go_simp
      exact hK.out _ _ rfl (Below.refl _ _)
    refine Jo.jcons (i := 5) (o := ⟨some 26, _, _, _, _, _⟩) (di := some 26) (L := []) (f := Jo.Fact.eq (.agg #[.int .i64 D2, .bool s2, .int .u64 M2, .int .i64 E2])) rfl rfl rfl rfl (fun vs wj hJ hd K hK => ?_) ?_
    · clear hd
      simp only [Jo.putl, List.foldl_nil, Act.put, List.setIfInBounds_toArray, List.set_cons_zero, List.set_cons_succ] at hK ⊢
      have xX20 : World.cell? wj ⟨w.heap.size + 1 + 1, 0, none⟩ = some (.int .i64 D2) := (X2.below hJ).cell 0
      have xX21 : World.cell? wj ⟨w.heap.size + 1 + 1, 1, none⟩ = some (.bool s2) := (X2.below hJ).cell 1
      have xX22 : World.cell? wj ⟨w.heap.size + 1 + 1, 2, none⟩ = some (.int .u64 M2) := (X2.below hJ).cell 2
      have xX23 : World.cell? wj ⟨w.heap.size + 1 + 1, 3, none⟩ = some (.int .i64 E2) := (X2.below hJ).cell 3
      go_simp
      exact hK.out _ _ rfl (Below.refl _ _)
    refine Jo.jcons (i := 6) (o := ⟨some 27, _, _, _, _, _⟩) (di := some 27) (L := []) (f := Jo.Fact.eq (.bool b3)) rfl rfl rfl rfl (fun vs wj hJ hd K hK => ?_) ?_
    · clear hd
      simp only [Jo.putl, List.foldl_nil, Act.put, List.setIfInBounds_toArray, List.set_cons_zero, List.set_cons_succ] at hK ⊢
      go_simp
      exact hK.out _ _ rfl (Below.refl _ _)
    refine Jo.jcons (i := 7) (o := ⟨some 28, _, _, _, _, _⟩) (di := some 28) (L := [(some 25, 4), (some 26, 5), (some 27, 6)]) (f := Jo.Fact.num b) rfl rfl rfl rfl (fun vs wj hJ hd K hK => ?_) ?_
    · have d4 : (Jo.Fact.eq (.agg #[.int .i64 D1, .bool s1, .int .u64 M1, .int .i64 E1])).P (vs 4) wj := hd 4 (by decide)
      have d5 : (Jo.Fact.eq (.agg #[.int .i64 D2, .bool s2, .int .u64 M2, .int .i64 E2])).P (vs 5) wj := hd 5 (by decide)
      have d6 : (Jo.Fact.eq (.bool b3)).P (vs 6) wj := hd 6 (by decide)
      clear hd
      simp only [Jo.putl, List.foldl_cons, List.foldl_nil, Act.put, List.setIfInBounds_toArray, List.set_cons_zero, List.set_cons_succ] at hK ⊢
      generalize vs 4 = u4 at hK d4 ⊢
      generalize vs 5 = u5 at hK d5 ⊢
      generalize vs 6 = u6 at hK d6 ⊢
      replace d4 : u4 = _ := d4
      subst d4
      replace d5 : u5 = _ := d5
      subst d5
      replace d6 : u6 = _ := d6
      subst d6
      go_simp
      refine (aAdd (hT.below hJ) u1 u2 HY.out HZ.out HBB.out).mono ?_
      rintro ee wk ⟨K4, s4, M4, E4, rfl, q4, B⟩
      exact hK.out _ _ ⟨K4, s4, M4, E4, rfl, q4⟩ B
    refine Jo.jcons (i := 8) (o := ⟨some 29, _, _, _, _, _⟩) (di := some 29) (L := [(some 24, 3), (some 28, 7)]) (f := Jo.Fact.eq (.int .i64 c1)) rfl rfl rfl rfl (fun vs wj hJ hd K hK => ?_) ?_
    · have d3 : (Jo.Fact.num a).P (vs 3) wj := hd 3 (by decide)
      have d7 : (Jo.Fact.num b).P (vs 7) wj := hd 7 (by decide)
      clear hd
      simp only [Jo.putl, List.foldl_cons, List.foldl_nil, Act.put, List.setIfInBounds_toArray, List.set_cons_zero, List.set_cons_succ] at hK ⊢
      generalize vs 3 = u3 at hK d3 ⊢
      generalize vs 7 = u7 at hK d7 ⊢
      obtain ⟨K3, s3, M3, E3, rfl, q3⟩ := d3
      obtain ⟨K4, s4, M4, E4, rfl, q4⟩ := d7
      go_simp
      refine (nCmp (z := c1) q3.top q4.top (by rw [q3.rk, q4.rk]; exact HC1.out)).mono ?_
      rintro ee wk ⟨rfl, B⟩
      exact hK.out _ _ rfl B
    refine Jo.jcons (i := 9) (o := ⟨some 30, _, _, _, _, _⟩) (di := some 30) (L := [(some 29, 8)]) (f := Jo.Fact.eq (.bool true)) rfl rfl rfl rfl (fun vs wj hJ hd K hK => ?_) ?_
    · have d8 : (Jo.Fact.eq (.int .i64 c1)).P (vs 8) wj := hd 8 (by decide)
      clear hd
      simp only [Jo.putl, List.foldl_cons, List.foldl_nil, Act.put, List.setIfInBounds_toArray, List.set_cons_zero, List.set_cons_succ] at hK ⊢
      generalize vs 8 = u8 at hK d8 ⊢
      replace d8 : u8 = _ := d8
      subst d8
      have ht := HT1.out
      go_simp
      exact hK.out _ _ (by first | rfl | (show Value.bool _ = Value.bool _; simp only [ht])) (Below.refl _ _)
    refine Jo.jcons (i := 10) (o := ⟨some 10, _, _, _, _, _⟩) (di := some 10) (L := [(some 30, 9)]) (f := Jo.Fact.eq (.bool true)) rfl rfl rfl rfl (fun vs wj hJ hd K hK => ?_) ?_
    · have d9 : (Jo.Fact.eq (.bool true)).P (vs 9) wj := hd 9 (by decide)
      clear hd
      simp only [Jo.putl, List.foldl_cons, List.foldl_nil, Act.put, List.setIfInBounds_toArray, List.set_cons_zero, List.set_cons_succ] at hK ⊢
      generalize vs 9 = u9 at hK d9 ⊢
      replace d9 : u9 = _ := d9
      subst d9
      go_simp
      exact hK.out _ _ rfl (Below.refl _ _)
    exact Jo.Steps.nil
  have d0 : (Jo.Fact.eq (.agg #[.int .i64 D0, .bool s0, .int .u64 M0, .int .i64 E0])).P (vs 0) w4 := hd 0 (by decide)
  have d1 : (Jo.Fact.eq (.agg #[.int .i64 D2, .bool s2, .int .u64 M2, .int .i64 E2])).P (vs 1) w4 := hd 1 (by decide)
  have d2 : (Jo.Fact.eq (.bool b3)).P (vs 2) w4 := hd 2 (by decide)
  have d3 : (Jo.Fact.num a).P (vs 3) w4 := hd 3 (by decide)
  have d4 : (Jo.Fact.eq (.agg #[.int .i64 D1, .bool s1, .int .u64 M1, .int .i64 E1])).P (vs 4) w4 := hd 4 (by decide)
  have d5 : (Jo.Fact.eq (.agg #[.int .i64 D2, .bool s2, .int .u64 M2, .int .i64 E2])).P (vs 5) w4 := hd 5 (by decide)
  have d6 : (Jo.Fact.eq (.bool b3)).P (vs 6) w4 := hd 6 (by decide)
  have d7 : (Jo.Fact.num b).P (vs 7) w4 := hd 7 (by decide)
  have d8 : (Jo.Fact.eq (.int .i64 c1)).P (vs 8) w4 := hd 8 (by decide)
  have d9 : (Jo.Fact.eq (.bool true)).P (vs 9) w4 := hd 9 (by decide)
  have d10 : (Jo.Fact.eq (.bool true)).P (vs 10) w4 := hd 10 (by decide)
  clear hd
  simp only [Jo.putl, List.foldl_cons, List.foldl_nil, Act.put, List.setIfInBounds_toArray, List.set_cons_zero, List.set_cons_succ]
  generalize vs 0 = u0 at d0 ⊢
  generalize vs 1 = u1 at d1 ⊢
  generalize vs 2 = u2 at d2 ⊢
  generalize vs 3 = u3 at d3 ⊢
  generalize vs 4 = u4 at d4 ⊢
  generalize vs 5 = u5 at d5 ⊢
  generalize vs 6 = u6 at d6 ⊢
  generalize vs 7 = u7 at d7 ⊢
  generalize vs 8 = u8 at d8 ⊢
  generalize vs 9 = u9 at d9 ⊢
  generalize vs 10 = u10 at d10 ⊢
  clear vs
  replace d0 : u0 = _ := d0
  subst d0
  replace d1 : u1 = _ := d1
  subst d1
  replace d2 : u2 = _ := d2
  subst d2
  obtain ⟨K3, s3, M3, E3, rfl, _⟩ := d3
  replace d4 : u4 = _ := d4
  subst d4
  replace d5 : u5 = _ := d5
  subst d5
  replace d6 : u6 = _ := d6
  subst d6
  obtain ⟨K4, s4, M4, E4, rfl, _⟩ := d7
  replace d8 : u8 = _ := d8
  subst d8
  replace d9 : u9 = _ := d9
  subst d9
  replace d10 : u10 = _ := d10
  subst d10
  replace X0 := X0.below hJ
  replace X1 := X1.below hJ
  replace X2 := X2.below hJ
  replace hT := hT.below hJ
  replace HB := Lib.hid (bt HB.out hJ)
  refine Jo.jdone (by kernel_rfl) ?_
  clear hT
  have xX20 := X2.at (i := 0) (v := .int .i64 D2) rfl
  have xX21 := X2.at (i := 1) (v := .bool s2) rfl
  have xX22 := X2.at (i := 2) (v := .int .u64 M2) rfl
  have xX23 := X2.at (i := 3) (v := .int .i64 E2) rfl
  go_wp2_with fail
  refine (nSign u2 HS.out).mono ?_
  rintro ee w5 ⟨rfl, B⟩
  clear xX20 xX21 xX22 xX23
  replace X0 := X0.below B
  replace X1 := X1.below B
  replace X2 := X2.below B
  replace HB := Lib.hid (bt HB.out B)
  clear B
  go_upto_region 6 with (fail)
  refine Jo.region_joint (T := [0, 1, 2, 3, 4, 5, 6, 7, 8, 9, 10, 11, 12, 13]) (ds := [some 34, some 35, some 36, some 37, some 38, some 39, some 40, some 41, some 42, some 43, some 44, some 45, some 46, some 8]) (ls := [[], [0], [1], [1], [1], [1, 2, 3, 4], [1], [1], [1], [1, 6, 7, 8], [1, 5, 9], [1, 10], [1, 11], [12]]) (k := 14) (L := [(some 34, 0), (some 35, 1), (some 36, 2), (some 37, 3), (some 38, 4), (some 39, 5), (some 40, 6), (some 41, 7), (some 42, 8), (some 43, 9), (some 44, 10), (some 45, 11), (some 46, 12), (some 8, 13)]) (fuel := 0) (J := fun wj => Below (World.heap w5).size w5 wj)
    (F := [Jo.Fact.eq (.bool true), Jo.Fact.eq (.bool true), Jo.Fact.eq (.agg #[.int .i64 D0, .bool s0, .int .u64 M0, .int .i64 E0]), Jo.Fact.eq (.agg #[.int .i64 D2, .bool s2, .int .u64 M2, .int .i64 E2]), Jo.Fact.eq (.bool b3), Jo.Fact.num m, Jo.Fact.eq (.agg #[.int .i64 D1, .bool s1, .int .u64 M1, .int .i64 E1]), Jo.Fact.eq (.agg #[.int .i64 D2, .bool s2, .int .u64 M2, .int .i64 E2]), Jo.Fact.eq (.bool b3), Jo.Fact.num n, Jo.Fact.eq (.int .i64 c2), Jo.Fact.eq (.bool true), Jo.Fact.eq (.bool true), Jo.Fact.eq (.bool true)])
    (by kernel_rfl) (by kernel_rfl) (by decide) rfl rfl (fun _ _ h b => bt h b) ((Below.refl _ _).drew) ?_ (fun vs w6 hJ hd => ?_)
  · refine Jo.jcons (i := 0) (o := ⟨some 34, _, _, _, _, _⟩) (di := some 34) (L := []) (f := Jo.Fact.eq (.bool true)) rfl rfl rfl rfl (fun vs wj hJ hd K hK => ?_) ?_
    · clear hd
      simp only [Jo.putl, List.foldl_nil, Act.put, List.setIfInBounds_toArray, List.set_cons_zero, List.set_cons_succ] at hK ⊢
      go_simp
      exact hK.out _ _ rfl (Below.refl _ _)
    refine Jo.jcons (i := 1) (o := ⟨some 35, _, _, _, _, _⟩) (di := some 35) (L := [(some 34, 0)]) (f := Jo.Fact.eq (.bool true)) rfl rfl rfl rfl (fun vs wj hJ hd K hK => ?_) ?_
    · have d0 : (Jo.Fact.eq (.bool true)).P (vs 0) wj := hd 0 (by decide)
      clear hd
      simp only [Jo.putl, List.foldl_cons, List.foldl_nil, Act.put, List.setIfInBounds_toArray, List.set_cons_zero, List.set_cons_succ] at hK ⊢
      generalize vs 0 = u0 at hK d0 ⊢
      replace d0 : u0 = _ := d0
      subst d0
      go_simp
      exact hK.out _ _ rfl (Below.refl _ _)
    refine Jo.jcons (i := 2) (o := ⟨some 36, _, _, _, _, _⟩) (di := some 36) (L := [(some 35, 1)]) (f := Jo.Fact.eq (.agg #[.int .i64 D0, .bool s0, .int .u64 M0, .int .i64 E0])) rfl rfl rfl rfl (fun vs wj hJ hd K hK => ?_) ?_
    · have d1 : (Jo.Fact.eq (.bool true)).P (vs 1) wj := hd 1 (by decide)
      clear hd
      simp only [Jo.putl, List.foldl_cons, List.foldl_nil, Act.put, List.setIfInBounds_toArray, List.set_cons_zero, List.set_cons_succ] at hK ⊢
      generalize vs 1 = u1 at hK d1 ⊢
      replace d1 : u1 = _ := d1
      subst d1
      have xX00 : World.cell? wj ⟨w.heap.size, 0, none⟩ = some (.int .i64 D0) := (X0.below hJ).cell 0
      have xX01 : World.cell? wj ⟨w.heap.size, 1, none⟩ = some (.bool s0) := (X0.below hJ).cell 1
      have xX02 : World.cell? wj ⟨w.heap.size, 2, none⟩ = some (.int .u64 M0) := (X0.below hJ).cell 2
      have xX03 : World.cell? wj ⟨w.heap.size, 3, none⟩ = some (.int .i64 E0) := (X0.below hJ).cell 3
      go_simp
      exact hK.out _ _ rfl (Below.refl _ _)
    refine Jo.jcons (i := 3) (o := ⟨some 37, _, _, _, _, _⟩) (di := some 37) (L := [(some 35, 1)]) (f := Jo.Fact.eq (.agg #[.int .i64 D2, .bool s2, .int .u64 M2, .int .i64 E2])) rfl rfl rfl rfl (fun vs wj hJ hd K hK => ?_) ?_
    · have d1 : (Jo.Fact.eq (.bool true)).P (vs 1) wj := hd 1 (by decide)
      clear hd
      simp only [Jo.putl, List.foldl_cons, List.foldl_nil, Act.put, List.setIfInBounds_toArray, List.set_cons_zero, List.set_cons_succ] at hK ⊢
      generalize vs 1 = u1 at hK d1 ⊢
      replace d1 : u1 = _ := d1
      subst d1
      have xX20 : World.cell? wj ⟨w.heap.size + 1 + 1, 0, none⟩ = some (.int .i64 D2) := (X2.below hJ).cell 0
      have xX21 : World.cell? wj ⟨w.heap.size + 1 + 1, 1, none⟩ = some (.bool s2) := (X2.below hJ).cell 1
      have xX22 : World.cell? wj ⟨w.heap.size + 1 + 1, 2, none⟩ = some (.int .u64 M2) := (X2.below hJ).cell 2
      have xX23 : World.cell? wj ⟨w.heap.size + 1 + 1, 3, none⟩ = some (.int .i64 E2) := (X2.below hJ).cell 3
      go_simp
      exact hK.out _ _ rfl (Below.refl _ _)
    refine Jo.jcons (i := 4) (o := ⟨some 38, _, _, _, _, _⟩) (di := some 38) (L := [(some 35, 1)]) (f := Jo.Fact.eq (.bool b3)) rfl rfl rfl rfl (fun vs wj hJ hd K hK => ?_) ?_
    · have d1 : (Jo.Fact.eq (.bool true)).P (vs 1) wj := hd 1 (by decide)
      clear hd
      simp only [Jo.putl, List.foldl_cons, List.foldl_nil, Act.put, List.setIfInBounds_toArray, List.set_cons_zero, List.set_cons_succ] at hK ⊢
      generalize vs 1 = u1 at hK d1 ⊢
      replace d1 : u1 = _ := d1
      subst d1
      go_simp
      exact hK.out _ _ rfl (Below.refl _ _)
    refine Jo.jcons (i := 5) (o := ⟨some 39, _, _, _, _, _⟩) (di := some 39) (L := [(some 35, 1), (some 36, 2), (some 37, 3), (some 38, 4)]) (f := Jo.Fact.num m) rfl rfl rfl rfl (fun vs wj hJ hd K hK => ?_) ?_
    · have d1 : (Jo.Fact.eq (.bool true)).P (vs 1) wj := hd 1 (by decide)
      have d2 : (Jo.Fact.eq (.agg #[.int .i64 D0, .bool s0, .int .u64 M0, .int .i64 E0])).P (vs 2) wj := hd 2 (by decide)
      have d3 : (Jo.Fact.eq (.agg #[.int .i64 D2, .bool s2, .int .u64 M2, .int .i64 E2])).P (vs 3) wj := hd 3 (by decide)
      have d4 : (Jo.Fact.eq (.bool b3)).P (vs 4) wj := hd 4 (by decide)
      clear hd
      simp only [Jo.putl, List.foldl_cons, List.foldl_nil, Act.put, List.setIfInBounds_toArray, List.set_cons_zero, List.set_cons_succ] at hK ⊢
      generalize vs 1 = u1 at hK d1 ⊢
      generalize vs 2 = u2 at hK d2 ⊢
      generalize vs 3 = u3 at hK d3 ⊢
      generalize vs 4 = u4 at hK d4 ⊢
      replace d1 : u1 = _ := d1
      subst d1
      replace d2 : u2 = _ := d2
      subst d2
      replace d3 : u3 = _ := d3
      subst d3
      replace d4 : u4 = _ := d4
      subst d4
      go_simp
      refine (aMul u0 u2 HX.out HZ.out HM.out).mono ?_
      rintro ee wk ⟨K5, s5, M5, E5, rfl, q5, B⟩
      exact hK.out _ _ ⟨K5, s5, M5, E5, rfl, q5⟩ B
    refine Jo.jcons (i := 6) (o := ⟨some 40, _, _, _, _, _⟩) (di := some 40) (L := [(some 35, 1)]) (f := Jo.Fact.eq (.agg #[.int .i64 D1, .bool s1, .int .u64 M1, .int .i64 E1])) rfl rfl rfl rfl (fun vs wj hJ hd K hK => ?_) ?_
    · have d1 : (Jo.Fact.eq (.bool true)).P (vs 1) wj := hd 1 (by decide)
      clear hd
      simp only [Jo.putl, List.foldl_cons, List.foldl_nil, Act.put, List.setIfInBounds_toArray, List.set_cons_zero, List.set_cons_succ] at hK ⊢
      generalize vs 1 = u1 at hK d1 ⊢
      replace d1 : u1 = _ := d1
      subst d1
      have xX10 : World.cell? wj ⟨w.heap.size + 1, 0, none⟩ = some (.int .i64 D1) := (X1.below hJ).cell 0
      have xX11 : World.cell? wj ⟨w.heap.size + 1, 1, none⟩ = some (.bool s1) := (X1.below hJ).cell 1
      have xX12 : World.cell? wj ⟨w.heap.size + 1, 2, none⟩ = some (.int .u64 M1) := (X1.below hJ).cell 2
      have xX13 : World.cell? wj ⟨w.heap.size + 1, 3, none⟩ = some (.int .i64 E1) := (X1.below hJ).cell 3
      go_simp
      exact hK.out _ _ rfl (Below.refl _ _)
    refine Jo.jcons (i := 7) (o := ⟨some 41, _, _, _, _, _⟩) (di := some 41) (L := [(some 35, 1)]) (f := Jo.Fact.eq (.agg #[.int .i64 D2, .bool s2, .int .u64 M2, .int .i64 E2])) rfl rfl rfl rfl (fun vs wj hJ hd K hK => ?_) ?_
    · have d1 : (Jo.Fact.eq (.bool true)).P (vs 1) wj := hd 1 (by decide)
      clear hd
      simp only [Jo.putl, List.foldl_cons, List.foldl_nil, Act.put, List.setIfInBounds_toArray, List.set_cons_zero, List.set_cons_succ] at hK ⊢
      generalize vs 1 = u1 at hK d1 ⊢
      replace d1 : u1 = _ := d1
      subst d1
      have xX20 : World.cell? wj ⟨w.heap.size + 1 + 1, 0, none⟩ = some (.int .i64 D2) := (X2.below hJ).cell 0
      have xX21 : World.cell? wj ⟨w.heap.size + 1 + 1, 1, none⟩ = some (.bool s2) := (X2.below hJ).cell 1
      have xX22 : World.cell? wj ⟨w.heap.size + 1 + 1, 2, none⟩ = some (.int .u64 M2) := (X2.below hJ).cell 2
      have xX23 : World.cell? wj ⟨w.heap.size + 1 + 1, 3, none⟩ = some (.int .i64 E2) := (X2.below hJ).cell 3
      go_simp
      exact hK.out _ _ rfl (Below.refl _ _)
    refine Jo.jcons (i := 8) (o := ⟨some 42, _, _, _, _, _⟩) (di := some 42) (L := [(some 35, 1)]) (f := Jo.Fact.eq (.bool b3)) rfl rfl rfl rfl (fun vs wj hJ hd K hK => ?_) ?_
    · have d1 : (Jo.Fact.eq (.bool true)).P (vs 1) wj := hd 1 (by decide)
      clear hd
      simp only [Jo.putl, List.foldl_cons, List.foldl_nil, Act.put, List.setIfInBounds_toArray, List.set_cons_zero, List.set_cons_succ] at hK ⊢
      generalize vs 1 = u1 at hK d1 ⊢
      replace d1 : u1 = _ := d1
      subst d1
      go_simp
      exact hK.out _ _ rfl (Below.refl _ _)
    refine Jo.jcons (i := 9) (o := ⟨some 43, _, _, _, _, _⟩) (di := some 43) (L := [(some 35, 1), (some 40, 6), (some 41, 7), (some 42, 8)]) (f := Jo.Fact.num n) rfl rfl rfl rfl (fun vs wj hJ hd K hK => ?_) ?_
    · have d1 : (Jo.Fact.eq (.bool true)).P (vs 1) wj := hd 1 (by decide)
      have d6 : (Jo.Fact.eq (.agg #[.int .i64 D1, .bool s1, .int .u64 M1, .int .i64 E1])).P (vs 6) wj := hd 6 (by decide)
      have d7 : (Jo.Fact.eq (.agg #[.int .i64 D2, .bool s2, .int .u64 M2, .int .i64 E2])).P (vs 7) wj := hd 7 (by decide)
      have d8 : (Jo.Fact.eq (.bool b3)).P (vs 8) wj := hd 8 (by decide)
      clear hd
      simp only [Jo.putl, List.foldl_cons, List.foldl_nil, Act.put, List.setIfInBounds_toArray, List.set_cons_zero, List.set_cons_succ] at hK ⊢
      generalize vs 1 = u1 at hK d1 ⊢
      generalize vs 6 = u6 at hK d6 ⊢
      generalize vs 7 = u7 at hK d7 ⊢
      generalize vs 8 = u8 at hK d8 ⊢
      replace d1 : u1 = _ := d1
      subst d1
      replace d6 : u6 = _ := d6
      subst d6
      replace d7 : u7 = _ := d7
      subst d7
      replace d8 : u8 = _ := d8
      subst d8
      go_simp
      refine (aMul u1 u2 HY.out HZ.out HN.out).mono ?_
      rintro ee wk ⟨K6, s6, M6, E6, rfl, q6, B⟩
      exact hK.out _ _ ⟨K6, s6, M6, E6, rfl, q6⟩ B
    refine Jo.jcons (i := 10) (o := ⟨some 44, _, _, _, _, _⟩) (di := some 44) (L := [(some 35, 1), (some 39, 5), (some 43, 9)]) (f := Jo.Fact.eq (.int .i64 c2)) rfl rfl rfl rfl (fun vs wj hJ hd K hK => ?_) ?_
    · have d1 : (Jo.Fact.eq (.bool true)).P (vs 1) wj := hd 1 (by decide)
      have d5 : (Jo.Fact.num m).P (vs 5) wj := hd 5 (by decide)
      have d9 : (Jo.Fact.num n).P (vs 9) wj := hd 9 (by decide)
      clear hd
      simp only [Jo.putl, List.foldl_cons, List.foldl_nil, Act.put, List.setIfInBounds_toArray, List.set_cons_zero, List.set_cons_succ] at hK ⊢
      generalize vs 1 = u1 at hK d1 ⊢
      generalize vs 5 = u5 at hK d5 ⊢
      generalize vs 9 = u9 at hK d9 ⊢
      replace d1 : u1 = _ := d1
      subst d1
      obtain ⟨K5, s5, M5, E5, rfl, q5⟩ := d5
      obtain ⟨K6, s6, M6, E6, rfl, q6⟩ := d9
      go_simp
      refine (nCmp (z := c2) q5.top q6.top (by rw [q5.rk, q6.rk]; exact HC2.out)).mono ?_
      rintro ee wk ⟨rfl, B⟩
      exact hK.out _ _ rfl B
    refine Jo.jcons (i := 11) (o := ⟨some 45, _, _, _, _, _⟩) (di := some 45) (L := [(some 35, 1), (some 44, 10)]) (f := Jo.Fact.eq (.bool true)) rfl rfl rfl rfl (fun vs wj hJ hd K hK => ?_) ?_
    · have d1 : (Jo.Fact.eq (.bool true)).P (vs 1) wj := hd 1 (by decide)
      have d10 : (Jo.Fact.eq (.int .i64 c2)).P (vs 10) wj := hd 10 (by decide)
      clear hd
      simp only [Jo.putl, List.foldl_cons, List.foldl_nil, Act.put, List.setIfInBounds_toArray, List.set_cons_zero, List.set_cons_succ] at hK ⊢
      generalize vs 1 = u1 at hK d1 ⊢
      generalize vs 10 = u10 at hK d10 ⊢
      replace d1 : u1 = _ := d1
      subst d1
      replace d10 : u10 = _ := d10
      subst d10
      have ht := HT2.out
      go_simp
      exact hK.out _ _ (by first | rfl | (show Value.bool _ = Value.bool _; simp only [ht])) (Below.refl _ _)
    refine Jo.jcons (i := 12) (o := ⟨some 46, _, _, _, _, _⟩) (di := some 46) (L := [(some 35, 1), (some 45, 11)]) (f := Jo.Fact.eq (.bool true)) rfl rfl rfl rfl (fun vs wj hJ hd K hK => ?_) ?_
    · have d1 : (Jo.Fact.eq (.bool true)).P (vs 1) wj := hd 1 (by decide)
      have d11 : (Jo.Fact.eq (.bool true)).P (vs 11) wj := hd 11 (by decide)
      clear hd
      simp only [Jo.putl, List.foldl_cons, List.foldl_nil, Act.put, List.setIfInBounds_toArray, List.set_cons_zero, List.set_cons_succ] at hK ⊢
      generalize vs 1 = u1 at hK d1 ⊢
      generalize vs 11 = u11 at hK d11 ⊢
      replace d1 : u1 = _ := d1
      subst d1
      replace d11 : u11 = _ := d11
      subst d11
      go_simp
      exact hK.out _ _ rfl (Below.refl _ _)
    refine Jo.jcons (i := 13) (o := ⟨some 8, _, _, _, _, _⟩) (di := some 8) (L := [(some 46, 12)]) (f := Jo.Fact.eq (.bool true)) rfl rfl rfl rfl (fun vs wj hJ hd K hK => ?_) ?_
    · have d12 : (Jo.Fact.eq (.bool true)).P (vs 12) wj := hd 12 (by decide)
      clear hd
      simp only [Jo.putl, List.foldl_cons, List.foldl_nil, Act.put, List.setIfInBounds_toArray, List.set_cons_zero, List.set_cons_succ] at hK ⊢
      generalize vs 12 = u12 at hK d12 ⊢
      replace d12 : u12 = _ := d12
      subst d12
      go_simp
      exact hK.out _ _ rfl (Below.refl _ _)
    exact Jo.Steps.nil
  have d0 : (Jo.Fact.eq (.bool true)).P (vs 0) w6 := hd 0 (by decide)
  have d1 : (Jo.Fact.eq (.bool true)).P (vs 1) w6 := hd 1 (by decide)
  have d2 : (Jo.Fact.eq (.agg #[.int .i64 D0, .bool s0, .int .u64 M0, .int .i64 E0])).P (vs 2) w6 := hd 2 (by decide)
  have d3 : (Jo.Fact.eq (.agg #[.int .i64 D2, .bool s2, .int .u64 M2, .int .i64 E2])).P (vs 3) w6 := hd 3 (by decide)
  have d4 : (Jo.Fact.eq (.bool b3)).P (vs 4) w6 := hd 4 (by decide)
  have d5 : (Jo.Fact.num m).P (vs 5) w6 := hd 5 (by decide)
  have d6 : (Jo.Fact.eq (.agg #[.int .i64 D1, .bool s1, .int .u64 M1, .int .i64 E1])).P (vs 6) w6 := hd 6 (by decide)
  have d7 : (Jo.Fact.eq (.agg #[.int .i64 D2, .bool s2, .int .u64 M2, .int .i64 E2])).P (vs 7) w6 := hd 7 (by decide)
  have d8 : (Jo.Fact.eq (.bool b3)).P (vs 8) w6 := hd 8 (by decide)
  have d9 : (Jo.Fact.num n).P (vs 9) w6 := hd 9 (by decide)
  have d10 : (Jo.Fact.eq (.int .i64 c2)).P (vs 10) w6 := hd 10 (by decide)
  have d11 : (Jo.Fact.eq (.bool true)).P (vs 11) w6 := hd 11 (by decide)
  have d12 : (Jo.Fact.eq (.bool true)).P (vs 12) w6 := hd 12 (by decide)
  have d13 : (Jo.Fact.eq (.bool true)).P (vs 13) w6 := hd 13 (by decide)
  clear hd
  simp only [Jo.putl, List.foldl_cons, List.foldl_nil, Act.put, List.setIfInBounds_toArray, List.set_cons_zero, List.set_cons_succ]
  generalize vs 0 = u0 at d0 ⊢
  generalize vs 1 = u1 at d1 ⊢
  generalize vs 2 = u2 at d2 ⊢
  generalize vs 3 = u3 at d3 ⊢
  generalize vs 4 = u4 at d4 ⊢
  generalize vs 5 = u5 at d5 ⊢
  generalize vs 6 = u6 at d6 ⊢
  generalize vs 7 = u7 at d7 ⊢
  generalize vs 8 = u8 at d8 ⊢
  generalize vs 9 = u9 at d9 ⊢
  generalize vs 10 = u10 at d10 ⊢
  generalize vs 11 = u11 at d11 ⊢
  generalize vs 12 = u12 at d12 ⊢
  generalize vs 13 = u13 at d13 ⊢
  clear vs
  replace d0 : u0 = _ := d0
  subst d0
  replace d1 : u1 = _ := d1
  subst d1
  replace d2 : u2 = _ := d2
  subst d2
  replace d3 : u3 = _ := d3
  subst d3
  replace d4 : u4 = _ := d4
  subst d4
  obtain ⟨K5, s5, M5, E5, rfl, _⟩ := d5
  replace d6 : u6 = _ := d6
  subst d6
  replace d7 : u7 = _ := d7
  subst d7
  replace d8 : u8 = _ := d8
  subst d8
  obtain ⟨K6, s6, M6, E6, rfl, _⟩ := d9
  replace d10 : u10 = _ := d10
  subst d10
  replace d11 : u11 = _ := d11
  subst d11
  replace d12 : u12 = _ := d12
  subst d12
  replace d13 : u13 = _ := d13
  subst d13
  replace X0 := X0.below hJ
  replace X1 := X1.below hJ
  replace X2 := X2.below hJ
  replace HB := Lib.hid (bt HB.out hJ)
  refine Jo.jdone (by kernel_rfl) ?_
  go_wp2
  go_ret
  exact ⟨rfl, HB.out⟩

theorem arithGrows_walk (D0 : Int) (s0 : Bool) (M0 E0 : Int) (D1 : Int) (s1 : Bool) (M1 E1 : Int) (D2 : Int) (s2 : Bool) (M2 E2 : Int) (b3 : Bool) (w : World) (hT : Tb w) (w0 : 0 ≤ M0) (u0 : M0 < 18446744073709551616) (w1 : 0 ≤ M1) (u1 : M1 < 18446744073709551616) (w2 : 0 ≤ M2) (u2 : M2 < 18446744073709551616)  :
    Calls Tryd.prog 7 #[.agg #[.int .i64 D0, .bool s0, .int .u64 M0, .int .i64 E0], .agg #[.int .i64 D1, .bool s1, .int .u64 M1, .int .i64 E1], .agg #[.int .i64 D2, .bool s2, .int .u64 M2, .int .i64 E2], .bool b3] w fun e w' => e = .returned (.bool true) ∧ Below w.heap.size w w' := by
  rcases cmpI_tri (rk D0 s0 M0 E0) (rk D1 s1 M1 E1) with ⟨a, b⟩ | ⟨a, b⟩ | ⟨a, b⟩
  all_goals first
    | exact arithGrows_gt D0 s0 M0 E0 D1 s1 M1 E1 D2 s2 M2 E2 b3 w hT u0 u1 b
    | (rcases cmpI_tri (rk D2 s2 M2 E2) 0 with ⟨c, d⟩ | ⟨c, d⟩ | ⟨c, d⟩
       · exact arithGrows_neg D0 s0 M0 E0 D1 s1 M1 E1 D2 s2 M2 E2 b3 w _ _ _ _ _ hT u0 u1 u2 rfl rfl rfl b (by decide) (by omega) d (by decide) c
       · exact arithGrows_nn D0 s0 M0 E0 D1 s1 M1 E1 D2 s2 M2 E2 b3 w _ _ _ _ _ hT u0 u1 u2 rfl rfl rfl b (by decide) (by omega) d (by decide) (by omega)
       · exact arithGrows_nn D0 s0 M0 E0 D1 s1 M1 E1 D2 s2 M2 E2 b3 w _ _ _ _ _ hT u0 u1 u2 rfl rfl rfl b (by decide) (by omega) d (by decide) (by omega))
end Go.Proofs.YtbhnpmkdmnnclaaDoor

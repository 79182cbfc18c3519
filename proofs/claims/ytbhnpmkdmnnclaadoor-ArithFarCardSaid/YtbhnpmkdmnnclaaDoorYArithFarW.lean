/-
  The walk of ArithFar: for all arguments, where the tables lie as they were laid, the call answers true, and nothing that was there has turned.
-/
import Derived.Below
import Derived.BigQuiet
import Derived.Carry
import Derived.Deep.DeepCutAuto
import Derived.Deep.Draws
import Derived.Deep.MidRow
import Derived.Deep.QuietTactic
import Derived.Deep.RegionHeld3
import Derived.Deep.RegionWith
import Derived.IntWalk
import Derived.Laws.CopyOwn
import Derived.Laws.MakeOwn
import Derived.Laws.OwnMore
import Derived.Laws.Rows
import Derived.Lib.BitFns
import Derived.Lib.Hide
import Derived.Maps.AppendAt
import Derived.StillTailTactics
import Derived.Test.YtbhnpmkdmnnclaaDoorRows
import Derived.WalkKit
import Derived.WalkLawsBesides
import Derived.WalkSpells
import Derived.Test.YtbhnpmkdmnnclaaDoorYAap
import Derived.Test.YtbhnpmkdmnnclaaDoorYAaq
import Derived.Test.YtbhnpmkdmnnclaaDoorYAav
import Derived.Test.YtbhnpmkdmnnclaaDoorYAax
namespace Go.Proofs.YtbhnpmkdmnnclaaDoor
open Go.RowKit
set_option linter.unusedVariables false
set_option linter.unusedSimpArgs false
set_option maxRecDepth 100000

set_option maxHeartbeats 8000000 in
theorem arithFar_main (s0 s1 : Bool) (M0 E0 M1 E1 a b : Int) (w : World) (hT : Tb w) (e0 : s0 = false) (e1 : s1 = false) (q1 : Fq 1 s0 M0 E0 a) (q2 : Fq 1 s1 M1 E1 b) (hE : ¬ E0 - E1 ≤ 130) :
    Calls Tryd.prog 10 #[.agg #[.int .i64 1, .bool s0, .int .u64 M0, .int .i64 E0], .agg #[.int .i64 1, .bool s1, .int .u64 M1, .int .i64 E1]] w (PB w true) := by
  subst e0
  subst e1
  obtain ⟨v1, v2, v3, v4, _⟩ := fq_vr q1
  obtain ⟨y1, y2, y3, y4, _⟩ := fq_vr q2
  obtain ⟨f1, f2, f3, f4⟩ := addp_far q1 q2 (by omega)
  obtain ⟨n1, hn1⟩ : ∃ n, nx true a = n := ⟨_, rfl⟩
  obtain ⟨n2, hn2⟩ : ∃ n, nx false a = n := ⟨_, rfl⟩
  rw [hn1] at f1
  rw [hn2] at f3
  have HN1 := Lib.hid hn1
  have HN2 := Lib.hid hn2
  have HA1 := Lib.hid f1
  have HA2 := Lib.hid f2
  have HA3 := Lib.hid f3
  have HA4 := Lib.hid f4
  have HNB : Hid (-rk 1 false M1 E1 = -b) := Lib.hid (by rw [q2.rk])
  have HW := Lib.hid (show IntKind.i64.wrap (E0 - E1) = E0 - E1 from IntWalk.i64_in _ (by omega))
  have HM1 := Lib.hid (decide_eq_true q1.1)
  have HM2 := Lib.hid (decide_eq_true q2.1)
  clear f1 f2 f3 f4 hn1 hn2 v1 v3 v4 y1 y3 y4
  go_enter Tryd.func10, Tryd.ntmps10
  go_upto_region 1 with (fail)
  have X0 := (Bo.newAt w (g := w.heap.size) (by simp) #[.int .i64 1, .bool false, .int .u64 M0, .int .i64 E0] 24).below (bel1 _ (.cells #[.int .i64 1, .bool false, .int .u64 M1, .int .i64 E1] 24))
  have X1 := (Bo.newAt (w.alloc (.cells #[.int .i64 1, .bool false, .int .u64 M0, .int .i64 E0] 24)) (g := w.heap.size + 1) (by simp) #[.int .i64 1, .bool false, .int .u64 M1, .int .i64 E1] 24)
  have HB := Lib.hid (bel2 w (.cells #[.int .i64 1, .bool false, .int .u64 M0, .int .i64 E0] 24) (.cells #[.int .i64 1, .bool false, .int .u64 M1, .int .i64 E1] 24))
  replace hT := hT.below HB.out
  generalize hW1 : ((w.alloc (.cells #[.int .i64 1, .bool false, .int .u64 M0, .int .i64 E0] 24)).alloc (.cells #[.int .i64 1, .bool false, .int .u64 M1, .int .i64 E1] 24)) = w1 at *
  clear hW1
  go_wp2_with fail
  refine (awake6 hT).mono ?_
  rintro ee w2 ⟨rfl, B⟩
  replace X0 := X0.below B
  replace X1 := X1.below B
  replace hT := hT.below B
  replace HB := Lib.hid (bt HB.out B)
  clear B
  have xX00 := X0.at (i := 0) (v := .int .i64 1) rfl
  have xX01 := X0.at (i := 1) (v := .bool false) rfl
  have xX02 := X0.at (i := 2) (v := .int .u64 M0) rfl
  have xX03 := X0.at (i := 3) (v := .int .i64 E0) rfl
  go_wp2_with fail
  refine (nMay (r := true) HM1.out).mono ?_
  rintro ee w3 ⟨rfl, B⟩
  clear xX00 xX01 xX02 xX03
  replace X0 := X0.below B
  replace X1 := X1.below B
  replace hT := hT.below B
  replace HB := Lib.hid (bt HB.out B)
  clear B
  have xX10 := X1.at (i := 0) (v := .int .i64 1) rfl
  have xX11 := X1.at (i := 1) (v := .bool false) rfl
  have xX12 := X1.at (i := 2) (v := .int .u64 M1) rfl
  have xX13 := X1.at (i := 3) (v := .int .i64 E1) rfl
  go_wp2_with fail
  refine (nMay (r := true) HM2.out).mono ?_
  rintro ee w4 ⟨rfl, B⟩
  clear xX10 xX11 xX12 xX13
  replace X0 := X0.below B
  replace X1 := X1.below B
  replace hT := hT.below B
  replace HB := Lib.hid (bt HB.out B)
  clear B
  have xX00 := X0.at (i := 0) (v := .int .i64 1) rfl
  have xX01 := X0.at (i := 1) (v := .bool false) rfl
  have xX02 := X0.at (i := 2) (v := .int .u64 M0) rfl
  have xX03 := X0.at (i := 3) (v := .int .i64 E0) rfl
  have xX10 := X1.at (i := 0) (v := .int .i64 1) rfl
  have xX11 := X1.at (i := 1) (v := .bool false) rfl
  have xX12 := X1.at (i := 2) (v := .int .u64 M1) rfl
  have xX13 := X1.at (i := 3) (v := .int .i64 E1) rfl
  have hw := HW.out
  go_upto_region 4 with (fail)
  clear hw
  clear xX00 xX01 xX02 xX03 xX10 xX11 xX12 xX13
  refine Jo.region_joint (T := [0, 1, 2, 3, 4, 5, 6, 7, 8, 9, 10, 11, 12, 13, 14, 15, 16, 17, 18, 19, 20, 21, 22, 23, 24, 25, 26, 27, 28]) (ds := [some 46, some 47, some 48, some 49, some 50, some 51, some 52, some 53, some 54, some 55, some 56, some 57, some 58, some 59, some 60, some 61, some 62, some 63, some 64, some 65, some 66, some 67, some 68, some 69, some 70, some 71, some 72, some 73, some 4]) (ls := [[], [], [0, 1], [], [3], [2, 4], [5], [6], [6], [6, 7, 8], [6], [6, 9, 10], [6, 11], [12], [13], [13], [13, 14, 15], [13], [13, 17], [13, 16, 18], [13, 19], [20], [21], [21], [21, 22, 23], [21], [21, 24, 25], [21, 26], [27]]) (k := 29) (L := [(some 46, 0), (some 47, 1), (some 48, 2), (some 49, 3), (some 50, 4), (some 51, 5), (some 52, 6), (some 53, 7), (some 54, 8), (some 55, 9), (some 56, 10), (some 57, 11), (some 58, 12), (some 59, 13), (some 60, 14), (some 61, 15), (some 62, 16), (some 63, 17), (some 64, 18), (some 65, 19), (some 66, 20), (some 67, 21), (some 68, 22), (some 69, 23), (some 70, 24), (some 71, 25), (some 72, 26), (some 73, 27), (some 4, 28)]) (fuel := 0) (J := fun wj => Below (World.heap w4).size w4 wj)
    (F := [Jo.Fact.eq (.agg #[.int .i64 1, .bool false, .int .u64 M0, .int .i64 E0]), Jo.Fact.eq (.agg #[.int .i64 1, .bool false, .int .u64 M1, .int .i64 E1]), Jo.Fact.num n1, Jo.Fact.eq (.agg #[.int .i64 1, .bool false, .int .u64 M0, .int .i64 E0]), Jo.Fact.num n1, Jo.Fact.eq (.bool true), Jo.Fact.eq (.bool true), Jo.Fact.eq (.agg #[.int .i64 1, .bool false, .int .u64 M0, .int .i64 E0]), Jo.Fact.eq (.agg #[.int .i64 1, .bool false, .int .u64 M1, .int .i64 E1]), Jo.Fact.num a, Jo.Fact.eq (.agg #[.int .i64 1, .bool false, .int .u64 M0, .int .i64 E0]), Jo.Fact.eq (.bool true), Jo.Fact.eq (.bool true), Jo.Fact.eq (.bool true), Jo.Fact.eq (.agg #[.int .i64 1, .bool false, .int .u64 M0, .int .i64 E0]), Jo.Fact.eq (.agg #[.int .i64 1, .bool false, .int .u64 M1, .int .i64 E1]), Jo.Fact.num n2, Jo.Fact.eq (.agg #[.int .i64 1, .bool false, .int .u64 M0, .int .i64 E0]), Jo.Fact.num n2, Jo.Fact.eq (.bool true), Jo.Fact.eq (.bool true), Jo.Fact.eq (.bool true), Jo.Fact.eq (.agg #[.int .i64 1, .bool false, .int .u64 M0, .int .i64 E0]), Jo.Fact.eq (.agg #[.int .i64 1, .bool false, .int .u64 M1, .int .i64 E1]), Jo.Fact.num a, Jo.Fact.eq (.agg #[.int .i64 1, .bool false, .int .u64 M0, .int .i64 E0]), Jo.Fact.eq (.bool true), Jo.Fact.eq (.bool true), Jo.Fact.eq (.bool true)])
    (by kernel_rfl) (by kernel_rfl) (by decide) rfl rfl (fun _ _ h b => bt h b) ((Below.refl _ _).drew) ?_ (fun vs w5 hJ hd => ?_)
  · refine Jo.jcons (i := 0) (o := ⟨some 46, _, _, _, _, _⟩) (di := some 46) (L := []) (f := Jo.Fact.eq (.agg #[.int .i64 1, .bool false, .int .u64 M0, .int .i64 E0])) rfl rfl rfl rfl (fun vs wj hJ hd K hK => ?_) ?_
    · clear hd
      simp only [Jo.putl, List.foldl_nil, Act.put, List.setIfInBounds_toArray, List.set_cons_zero, List.set_cons_succ] at hK ⊢
      have xX00 : World.cell? wj ⟨w.heap.size, 0, none⟩ = some (.int .i64 1) := (X0.below hJ).cell 0
      have xX01 : World.cell? wj ⟨w.heap.size, 1, none⟩ = some (.bool false) := (X0.below hJ).cell 1
      have xX02 : World.cell? wj ⟨w.heap.size, 2, none⟩ = some (.int .u64 M0) := (X0.below hJ).cell 2
      have xX03 : World.cell? wj ⟨w.heap.size, 3, none⟩ = some (.int .i64 E0) := (X0.below hJ).cell 3
      go_simp
      exact hK.out _ _ rfl (Below.refl _ _)
    refine Jo.jcons (i := 1) (o := ⟨some 47, _, _, _, _, _⟩) (di := some 47) (L := []) (f := Jo.Fact.eq (.agg #[.int .i64 1, .bool false, .int .u64 M1, .int .i64 E1])) rfl rfl rfl rfl (fun vs wj hJ hd K hK => ?_) ?_
    · clear hd
      simp only [Jo.putl, List.foldl_nil, Act.put, List.setIfInBounds_toArray, List.set_cons_zero, List.set_cons_succ] at hK ⊢
      have xX10 : World.cell? wj ⟨w.heap.size + 1, 0, none⟩ = some (.int .i64 1) := (X1.below hJ).cell 0
      have xX11 : World.cell? wj ⟨w.heap.size + 1, 1, none⟩ = some (.bool false) := (X1.below hJ).cell 1
      have xX12 : World.cell? wj ⟨w.heap.size + 1, 2, none⟩ = some (.int .u64 M1) := (X1.below hJ).cell 2
      have xX13 : World.cell? wj ⟨w.heap.size + 1, 3, none⟩ = some (.int .i64 E1) := (X1.below hJ).cell 3
      go_simp
      exact hK.out _ _ rfl (Below.refl _ _)
    refine Jo.jcons (i := 2) (o := ⟨some 48, _, _, _, _, _⟩) (di := some 48) (L := [(some 46, 0), (some 47, 1)]) (f := Jo.Fact.num n1) rfl rfl rfl rfl (fun vs wj hJ hd K hK => ?_) ?_
    · have d0 : (Jo.Fact.eq (.agg #[.int .i64 1, .bool false, .int .u64 M0, .int .i64 E0])).P (vs 0) wj := hd 0 (by decide)
      have d1 : (Jo.Fact.eq (.agg #[.int .i64 1, .bool false, .int .u64 M1, .int .i64 E1])).P (vs 1) wj := hd 1 (by decide)
      clear hd
      simp only [Jo.putl, List.foldl_cons, List.foldl_nil, Act.put, List.setIfInBounds_toArray, List.set_cons_zero, List.set_cons_succ] at hK ⊢
      generalize vs 0 = u0 at hK d0 ⊢
      generalize vs 1 = u1 at hK d1 ⊢
      replace d0 : u0 = _ := d0
      subst d0
      replace d1 : u1 = _ := d1
      subst d1
      go_simp
      refine (aAdd (hT.below hJ) q1.top q2.top q1.rk q2.rk HA1.out).mono ?_
      rintro ee wk ⟨K3, s3, M3, E3, rfl, q3, B⟩
      exact hK.out _ _ ⟨K3, s3, M3, E3, rfl, q3⟩ B
    refine Jo.jcons (i := 3) (o := ⟨some 49, _, _, _, _, _⟩) (di := some 49) (L := []) (f := Jo.Fact.eq (.agg #[.int .i64 1, .bool false, .int .u64 M0, .int .i64 E0])) rfl rfl rfl rfl (fun vs wj hJ hd K hK => ?_) ?_
    · clear hd
      simp only [Jo.putl, List.foldl_nil, Act.put, List.setIfInBounds_toArray, List.set_cons_zero, List.set_cons_succ] at hK ⊢
      have xX00 : World.cell? wj ⟨w.heap.size, 0, none⟩ = some (.int .i64 1) := (X0.below hJ).cell 0
      have xX01 : World.cell? wj ⟨w.heap.size, 1, none⟩ = some (.bool false) := (X0.below hJ).cell 1
      have xX02 : World.cell? wj ⟨w.heap.size, 2, none⟩ = some (.int .u64 M0) := (X0.below hJ).cell 2
      have xX03 : World.cell? wj ⟨w.heap.size, 3, none⟩ = some (.int .i64 E0) := (X0.below hJ).cell 3
      go_simp
      exact hK.out _ _ rfl (Below.refl _ _)
    refine Jo.jcons (i := 4) (o := ⟨some 50, _, _, _, _, _⟩) (di := some 50) (L := [(some 49, 3)]) (f := Jo.Fact.num n1) rfl rfl rfl rfl (fun vs wj hJ hd K hK => ?_) ?_
    · have d3 : (Jo.Fact.eq (.agg #[.int .i64 1, .bool false, .int .u64 M0, .int .i64 E0])).P (vs 3) wj := hd 3 (by decide)
      clear hd
      simp only [Jo.putl, List.foldl_cons, List.foldl_nil, Act.put, List.setIfInBounds_toArray, List.set_cons_zero, List.set_cons_succ] at hK ⊢
      generalize vs 3 = u3 at hK d3 ⊢
      replace d3 : u3 = _ := d3
      subst d3
      go_simp
      refine (nNext (r := n1) q1.top (by rw [q1.rk]; exact HN1.out)).mono ?_
      rintro ee wk ⟨K4, s4, M4, E4, rfl, q4, B⟩
      exact hK.out _ _ ⟨K4, s4, M4, E4, rfl, q4⟩ B
    refine Jo.jcons (i := 5) (o := ⟨some 51, _, _, _, _, _⟩) (di := some 51) (L := [(some 48, 2), (some 50, 4)]) (f := Jo.Fact.eq (.bool true)) rfl rfl rfl rfl (fun vs wj hJ hd K hK => ?_) ?_
    · have d2 : (Jo.Fact.num n1).P (vs 2) wj := hd 2 (by decide)
      have d4 : (Jo.Fact.num n1).P (vs 4) wj := hd 4 (by decide)
      clear hd
      simp only [Jo.putl, List.foldl_cons, List.foldl_nil, Act.put, List.setIfInBounds_toArray, List.set_cons_zero, List.set_cons_succ] at hK ⊢
      generalize vs 2 = u2 at hK d2 ⊢
      generalize vs 4 = u4 at hK d4 ⊢
      obtain ⟨K3, s3, M3, E3, rfl, q3⟩ := d2
      obtain ⟨K4, s4, M4, E4, rfl, q4⟩ := d4
      obtain ⟨rfl, rfl, rfl, rfl⟩ := q3.uniq q4
      go_simp
      exact hK.out _ _ (by first | rfl | (show Value.bool _ = Value.bool _; simp)) (Below.refl _ _)
    refine Jo.jcons (i := 6) (o := ⟨some 52, _, _, _, _, _⟩) (di := some 52) (L := [(some 51, 5)]) (f := Jo.Fact.eq (.bool true)) rfl rfl rfl rfl (fun vs wj hJ hd K hK => ?_) ?_
    · have d5 : (Jo.Fact.eq (.bool true)).P (vs 5) wj := hd 5 (by decide)
      clear hd
      simp only [Jo.putl, List.foldl_cons, List.foldl_nil, Act.put, List.setIfInBounds_toArray, List.set_cons_zero, List.set_cons_succ] at hK ⊢
      generalize vs 5 = u5 at hK d5 ⊢
      replace d5 : u5 = _ := d5
      subst d5
      go_simp
      exact hK.out _ _ rfl (Below.refl _ _)
    refine Jo.jcons (i := 7) (o := ⟨some 53, _, _, _, _, _⟩) (di := some 53) (L := [(some 52, 6)]) (f := Jo.Fact.eq (.agg #[.int .i64 1, .bool false, .int .u64 M0, .int .i64 E0])) rfl rfl rfl rfl (fun vs wj hJ hd K hK => ?_) ?_
    · have d6 : (Jo.Fact.eq (.bool true)).P (vs 6) wj := hd 6 (by decide)
      clear hd
      simp only [Jo.putl, List.foldl_cons, List.foldl_nil, Act.put, List.setIfInBounds_toArray, List.set_cons_zero, List.set_cons_succ] at hK ⊢
      generalize vs 6 = u6 at hK d6 ⊢
      replace d6 : u6 = _ := d6
      subst d6
      have xX00 : World.cell? wj ⟨w.heap.size, 0, none⟩ = some (.int .i64 1) := (X0.below hJ).cell 0
      have xX01 : World.cell? wj ⟨w.heap.size, 1, none⟩ = some (.bool false) := (X0.below hJ).cell 1
      have xX02 : World.cell? wj ⟨w.heap.size, 2, none⟩ = some (.int .u64 M0) := (X0.below hJ).cell 2
      have xX03 : World.cell? wj ⟨w.heap.size, 3, none⟩ = some (.int .i64 E0) := (X0.below hJ).cell 3
      go_simp
      exact hK.out _ _ rfl (Below.refl _ _)
    refine Jo.jcons (i := 8) (o := ⟨some 54, _, _, _, _, _⟩) (di := some 54) (L := [(some 52, 6)]) (f := Jo.Fact.eq (.agg #[.int .i64 1, .bool false, .int .u64 M1, .int .i64 E1])) rfl rfl rfl rfl (fun vs wj hJ hd K hK => ?_) ?_
    · have d6 : (Jo.Fact.eq (.bool true)).P (vs 6) wj := hd 6 (by decide)
      clear hd
      simp only [Jo.putl, List.foldl_cons, List.foldl_nil, Act.put, List.setIfInBounds_toArray, List.set_cons_zero, List.set_cons_succ] at hK ⊢
      generalize vs 6 = u6 at hK d6 ⊢
      replace d6 : u6 = _ := d6
      subst d6
      have xX10 : World.cell? wj ⟨w.heap.size + 1, 0, none⟩ = some (.int .i64 1) := (X1.below hJ).cell 0
      have xX11 : World.cell? wj ⟨w.heap.size + 1, 1, none⟩ = some (.bool false) := (X1.below hJ).cell 1
      have xX12 : World.cell? wj ⟨w.heap.size + 1, 2, none⟩ = some (.int .u64 M1) := (X1.below hJ).cell 2
      have xX13 : World.cell? wj ⟨w.heap.size + 1, 3, none⟩ = some (.int .i64 E1) := (X1.below hJ).cell 3
      go_simp
      exact hK.out _ _ rfl (Below.refl _ _)
    refine Jo.jcons (i := 9) (o := ⟨some 55, _, _, _, _, _⟩) (di := some 55) (L := [(some 52, 6), (some 53, 7), (some 54, 8)]) (f := Jo.Fact.num a) rfl rfl rfl rfl (fun vs wj hJ hd K hK => ?_) ?_
    · have d6 : (Jo.Fact.eq (.bool true)).P (vs 6) wj := hd 6 (by decide)
      have d7 : (Jo.Fact.eq (.agg #[.int .i64 1, .bool false, .int .u64 M0, .int .i64 E0])).P (vs 7) wj := hd 7 (by decide)
      have d8 : (Jo.Fact.eq (.agg #[.int .i64 1, .bool false, .int .u64 M1, .int .i64 E1])).P (vs 8) wj := hd 8 (by decide)
      clear hd
      simp only [Jo.putl, List.foldl_cons, List.foldl_nil, Act.put, List.setIfInBounds_toArray, List.set_cons_zero, List.set_cons_succ] at hK ⊢
      generalize vs 6 = u6 at hK d6 ⊢
      generalize vs 7 = u7 at hK d7 ⊢
      generalize vs 8 = u8 at hK d8 ⊢
      replace d6 : u6 = _ := d6
      subst d6
      replace d7 : u7 = _ := d7
      subst d7
      replace d8 : u8 = _ := d8
      subst d8
      go_simp
      refine (aAdd (hT.below hJ) q1.top q2.top q1.rk q2.rk HA2.out).mono ?_
      rintro ee wk ⟨K5, s5, M5, E5, rfl, q5, B⟩
      exact hK.out _ _ ⟨K5, s5, M5, E5, rfl, q5⟩ B
    refine Jo.jcons (i := 10) (o := ⟨some 56, _, _, _, _, _⟩) (di := some 56) (L := [(some 52, 6)]) (f := Jo.Fact.eq (.agg #[.int .i64 1, .bool false, .int .u64 M0, .int .i64 E0])) rfl rfl rfl rfl (fun vs wj hJ hd K hK => ?_) ?_
    · have d6 : (Jo.Fact.eq (.bool true)).P (vs 6) wj := hd 6 (by decide)
      clear hd
      simp only [Jo.putl, List.foldl_cons, List.foldl_nil, Act.put, List.setIfInBounds_toArray, List.set_cons_zero, List.set_cons_succ] at hK ⊢
      generalize vs 6 = u6 at hK d6 ⊢
      replace d6 : u6 = _ := d6
      subst d6
      have xX00 : World.cell? wj ⟨w.heap.size, 0, none⟩ = some (.int .i64 1) := (X0.below hJ).cell 0
      have xX01 : World.cell? wj ⟨w.heap.size, 1, none⟩ = some (.bool false) := (X0.below hJ).cell 1
      have xX02 : World.cell? wj ⟨w.heap.size, 2, none⟩ = some (.int .u64 M0) := (X0.below hJ).cell 2
      have xX03 : World.cell? wj ⟨w.heap.size, 3, none⟩ = some (.int .i64 E0) := (X0.below hJ).cell 3
      go_simp
      exact hK.out _ _ rfl (Below.refl _ _)
    refine Jo.jcons (i := 11) (o := ⟨some 57, _, _, _, _, _⟩) (di := some 57) (L := [(some 52, 6), (some 55, 9), (some 56, 10)]) (f := Jo.Fact.eq (.bool true)) rfl rfl rfl rfl (fun vs wj hJ hd K hK => ?_) ?_
    · have d6 : (Jo.Fact.eq (.bool true)).P (vs 6) wj := hd 6 (by decide)
      have d9 : (Jo.Fact.num a).P (vs 9) wj := hd 9 (by decide)
      have d10 : (Jo.Fact.eq (.agg #[.int .i64 1, .bool false, .int .u64 M0, .int .i64 E0])).P (vs 10) wj := hd 10 (by decide)
      clear hd
      simp only [Jo.putl, List.foldl_cons, List.foldl_nil, Act.put, List.setIfInBounds_toArray, List.set_cons_zero, List.set_cons_succ] at hK ⊢
      generalize vs 6 = u6 at hK d6 ⊢
      generalize vs 9 = u9 at hK d9 ⊢
      generalize vs 10 = u10 at hK d10 ⊢
      replace d6 : u6 = _ := d6
      subst d6
      obtain ⟨K5, s5, M5, E5, rfl, q5⟩ := d9
      replace d10 : u10 = _ := d10
      subst d10
      obtain ⟨rfl, rfl, rfl, rfl⟩ := q5.uniq q1
      go_simp
      exact hK.out _ _ (by first | rfl | (show Value.bool _ = Value.bool _; simp)) (Below.refl _ _)
    refine Jo.jcons (i := 12) (o := ⟨some 58, _, _, _, _, _⟩) (di := some 58) (L := [(some 52, 6), (some 57, 11)]) (f := Jo.Fact.eq (.bool true)) rfl rfl rfl rfl (fun vs wj hJ hd K hK => ?_) ?_
    · have d6 : (Jo.Fact.eq (.bool true)).P (vs 6) wj := hd 6 (by decide)
      have d11 : (Jo.Fact.eq (.bool true)).P (vs 11) wj := hd 11 (by decide)
      clear hd
      simp only [Jo.putl, List.foldl_cons, List.foldl_nil, Act.put, List.setIfInBounds_toArray, List.set_cons_zero, List.set_cons_succ] at hK ⊢
      generalize vs 6 = u6 at hK d6 ⊢
      generalize vs 11 = u11 at hK d11 ⊢
      replace d6 : u6 = _ := d6
      subst d6
      replace d11 : u11 = _ := d11
      subst d11
      go_simp
      exact hK.out _ _ rfl (Below.refl _ _)
    refine Jo.jcons (i := 13) (o := ⟨some 59, _, _, _, _, _⟩) (di := some 59) (L := [(some 58, 12)]) (f := Jo.Fact.eq (.bool true)) rfl rfl rfl rfl (fun vs wj hJ hd K hK => ?_) ?_
    · have d12 : (Jo.Fact.eq (.bool true)).P (vs 12) wj := hd 12 (by decide)
      clear hd
      simp only [Jo.putl, List.foldl_cons, List.foldl_nil, Act.put, List.setIfInBounds_toArray, List.set_cons_zero, List.set_cons_succ] at hK ⊢
      generalize vs 12 = u12 at hK d12 ⊢
      replace d12 : u12 = _ := d12
      subst d12
      go_simp
      exact hK.out _ _ rfl (Below.refl _ _)
    refine Jo.jcons (i := 14) (o := ⟨some 60, _, _, _, _, _⟩) (di := some 60) (L := [(some 59, 13)]) (f := Jo.Fact.eq (.agg #[.int .i64 1, .bool false, .int .u64 M0, .int .i64 E0])) rfl rfl rfl rfl (fun vs wj hJ hd K hK => ?_) ?_
    · have d13 : (Jo.Fact.eq (.bool true)).P (vs 13) wj := hd 13 (by decide)
      clear hd
      simp only [Jo.putl, List.foldl_cons, List.foldl_nil, Act.put, List.setIfInBounds_toArray, List.set_cons_zero, List.set_cons_succ] at hK ⊢
      generalize vs 13 = u13 at hK d13 ⊢
      replace d13 : u13 = _ := d13
      subst d13
      have xX00 : World.cell? wj ⟨w.heap.size, 0, none⟩ = some (.int .i64 1) := (X0.below hJ).cell 0
      have xX01 : World.cell? wj ⟨w.heap.size, 1, none⟩ = some (.bool false) := (X0.below hJ).cell 1
      have xX02 : World.cell? wj ⟨w.heap.size, 2, none⟩ = some (.int .u64 M0) := (X0.below hJ).cell 2
      have xX03 : World.cell? wj ⟨w.heap.size, 3, none⟩ = some (.int .i64 E0) := (X0.below hJ).cell 3
      go_simp
      exact hK.out _ _ rfl (Below.refl _ _)
    refine Jo.jcons (i := 15) (o := ⟨some 61, _, _, _, _, _⟩) (di := some 61) (L := [(some 59, 13)]) (f := Jo.Fact.eq (.agg #[.int .i64 1, .bool false, .int .u64 M1, .int .i64 E1])) rfl rfl rfl rfl (fun vs wj hJ hd K hK => ?_) ?_
    · have d13 : (Jo.Fact.eq (.bool true)).P (vs 13) wj := hd 13 (by decide)
      clear hd
      simp only [Jo.putl, List.foldl_cons, List.foldl_nil, Act.put, List.setIfInBounds_toArray, List.set_cons_zero, List.set_cons_succ] at hK ⊢
      generalize vs 13 = u13 at hK d13 ⊢
      replace d13 : u13 = _ := d13
      subst d13
      have xX10 : World.cell? wj ⟨w.heap.size + 1, 0, none⟩ = some (.int .i64 1) := (X1.below hJ).cell 0
      have xX11 : World.cell? wj ⟨w.heap.size + 1, 1, none⟩ = some (.bool false) := (X1.below hJ).cell 1
      have xX12 : World.cell? wj ⟨w.heap.size + 1, 2, none⟩ = some (.int .u64 M1) := (X1.below hJ).cell 2
      have xX13 : World.cell? wj ⟨w.heap.size + 1, 3, none⟩ = some (.int .i64 E1) := (X1.below hJ).cell 3
      go_simp
      exact hK.out _ _ rfl (Below.refl _ _)
    refine Jo.jcons (i := 16) (o := ⟨some 62, _, _, _, _, _⟩) (di := some 62) (L := [(some 59, 13), (some 60, 14), (some 61, 15)]) (f := Jo.Fact.num n2) rfl rfl rfl rfl (fun vs wj hJ hd K hK => ?_) ?_
    · have d13 : (Jo.Fact.eq (.bool true)).P (vs 13) wj := hd 13 (by decide)
      have d14 : (Jo.Fact.eq (.agg #[.int .i64 1, .bool false, .int .u64 M0, .int .i64 E0])).P (vs 14) wj := hd 14 (by decide)
      have d15 : (Jo.Fact.eq (.agg #[.int .i64 1, .bool false, .int .u64 M1, .int .i64 E1])).P (vs 15) wj := hd 15 (by decide)
      clear hd
      simp only [Jo.putl, List.foldl_cons, List.foldl_nil, Act.put, List.setIfInBounds_toArray, List.set_cons_zero, List.set_cons_succ] at hK ⊢
      generalize vs 13 = u13 at hK d13 ⊢
      generalize vs 14 = u14 at hK d14 ⊢
      generalize vs 15 = u15 at hK d15 ⊢
      replace d13 : u13 = _ := d13
      subst d13
      replace d14 : u14 = _ := d14
      subst d14
      replace d15 : u15 = _ := d15
      subst d15
      go_simp
      refine (aSub (hT.below hJ) q1.top q2.top q1.rk HNB.out HA3.out).mono ?_
      rintro ee wk ⟨K6, s6, M6, E6, rfl, q6, B⟩
      exact hK.out _ _ ⟨K6, s6, M6, E6, rfl, q6⟩ B
    refine Jo.jcons (i := 17) (o := ⟨some 63, _, _, _, _, _⟩) (di := some 63) (L := [(some 59, 13)]) (f := Jo.Fact.eq (.agg #[.int .i64 1, .bool false, .int .u64 M0, .int .i64 E0])) rfl rfl rfl rfl (fun vs wj hJ hd K hK => ?_) ?_
    · have d13 : (Jo.Fact.eq (.bool true)).P (vs 13) wj := hd 13 (by decide)
      clear hd
      simp only [Jo.putl, List.foldl_cons, List.foldl_nil, Act.put, List.setIfInBounds_toArray, List.set_cons_zero, List.set_cons_succ] at hK ⊢
      generalize vs 13 = u13 at hK d13 ⊢
      replace d13 : u13 = _ := d13
      subst d13
      have xX00 : World.cell? wj ⟨w.heap.size, 0, none⟩ = some (.int .i64 1) := (X0.below hJ).cell 0
      have xX01 : World.cell? wj ⟨w.heap.size, 1, none⟩ = some (.bool false) := (X0.below hJ).cell 1
      have xX02 : World.cell? wj ⟨w.heap.size, 2, none⟩ = some (.int .u64 M0) := (X0.below hJ).cell 2
      have xX03 : World.cell? wj ⟨w.heap.size, 3, none⟩ = some (.int .i64 E0) := (X0.below hJ).cell 3
      go_simp
      exact hK.out _ _ rfl (Below.refl _ _)
    refine Jo.jcons (i := 18) (o := ⟨some 64, _, _, _, _, _⟩) (di := some 64) (L := [(some 59, 13), (some 63, 17)]) (f := Jo.Fact.num n2) rfl rfl rfl rfl (fun vs wj hJ hd K hK => ?_) ?_
    · have d13 : (Jo.Fact.eq (.bool true)).P (vs 13) wj := hd 13 (by decide)
      have d17 : (Jo.Fact.eq (.agg #[.int .i64 1, .bool false, .int .u64 M0, .int .i64 E0])).P (vs 17) wj := hd 17 (by decide)
      clear hd
      simp only [Jo.putl, List.foldl_cons, List.foldl_nil, Act.put, List.setIfInBounds_toArray, List.set_cons_zero, List.set_cons_succ] at hK ⊢
      generalize vs 13 = u13 at hK d13 ⊢
      generalize vs 17 = u17 at hK d17 ⊢
      replace d13 : u13 = _ := d13
      subst d13
      replace d17 : u17 = _ := d17
      subst d17
      go_simp
      refine (nNext (r := n2) q1.top (by rw [q1.rk]; exact HN2.out)).mono ?_
      rintro ee wk ⟨K7, s7, M7, E7, rfl, q7, B⟩
      exact hK.out _ _ ⟨K7, s7, M7, E7, rfl, q7⟩ B
    refine Jo.jcons (i := 19) (o := ⟨some 65, _, _, _, _, _⟩) (di := some 65) (L := [(some 59, 13), (some 62, 16), (some 64, 18)]) (f := Jo.Fact.eq (.bool true)) rfl rfl rfl rfl (fun vs wj hJ hd K hK => ?_) ?_
    · have d13 : (Jo.Fact.eq (.bool true)).P (vs 13) wj := hd 13 (by decide)
      have d16 : (Jo.Fact.num n2).P (vs 16) wj := hd 16 (by decide)
      have d18 : (Jo.Fact.num n2).P (vs 18) wj := hd 18 (by decide)
      clear hd
      simp only [Jo.putl, List.foldl_cons, List.foldl_nil, Act.put, List.setIfInBounds_toArray, List.set_cons_zero, List.set_cons_succ] at hK ⊢
      generalize vs 13 = u13 at hK d13 ⊢
      generalize vs 16 = u16 at hK d16 ⊢
      generalize vs 18 = u18 at hK d18 ⊢
      replace d13 : u13 = _ := d13
      subst d13
      obtain ⟨K6, s6, M6, E6, rfl, q6⟩ := d16
      obtain ⟨K7, s7, M7, E7, rfl, q7⟩ := d18
      obtain ⟨rfl, rfl, rfl, rfl⟩ := q6.uniq q7
      go_simp
      exact hK.out _ _ (by first | rfl | (show Value.bool _ = Value.bool _; simp)) (Below.refl _ _)
    refine Jo.jcons (i := 20) (o := ⟨some 66, _, _, _, _, _⟩) (di := some 66) (L := [(some 59, 13), (some 65, 19)]) (f := Jo.Fact.eq (.bool true)) rfl rfl rfl rfl (fun vs wj hJ hd K hK => ?_) ?_
    · have d13 : (Jo.Fact.eq (.bool true)).P (vs 13) wj := hd 13 (by decide)
      have d19 : (Jo.Fact.eq (.bool true)).P (vs 19) wj := hd 19 (by decide)
      clear hd
      simp only [Jo.putl, List.foldl_cons, List.foldl_nil, Act.put, List.setIfInBounds_toArray, List.set_cons_zero, List.set_cons_succ] at hK ⊢
      generalize vs 13 = u13 at hK d13 ⊢
      generalize vs 19 = u19 at hK d19 ⊢
      replace d13 : u13 = _ := d13
      subst d13
      replace d19 : u19 = _ := d19
      subst d19
      go_simp
      exact hK.out _ _ rfl (Below.refl _ _)
    refine Jo.jcons (i := 21) (o := ⟨some 67, _, _, _, _, _⟩) (di := some 67) (L := [(some 66, 20)]) (f := Jo.Fact.eq (.bool true)) rfl rfl rfl rfl (fun vs wj hJ hd K hK => ?_) ?_
    · have d20 : (Jo.Fact.eq (.bool true)).P (vs 20) wj := hd 20 (by decide)
      clear hd
      simp only [Jo.putl, List.foldl_cons, List.foldl_nil, Act.put, List.setIfInBounds_toArray, List.set_cons_zero, List.set_cons_succ] at hK ⊢
      generalize vs 20 = u20 at hK d20 ⊢
      replace d20 : u20 = _ := d20
      subst d20
      go_simp
      exact hK.out _ _ rfl (Below.refl _ _)
    refine Jo.jcons (i := 22) (o := ⟨some 68, _, _, _, _, _⟩) (di := some 68) (L := [(some 67, 21)]) (f := Jo.Fact.eq (.agg #[.int .i64 1, .bool false, .int .u64 M0, .int .i64 E0])) rfl rfl rfl rfl (fun vs wj hJ hd K hK => ?_) ?_
    · have d21 : (Jo.Fact.eq (.bool true)).P (vs 21) wj := hd 21 (by decide)
      clear hd
      simp only [Jo.putl, List.foldl_cons, List.foldl_nil, Act.put, List.setIfInBounds_toArray, List.set_cons_zero, List.set_cons_succ] at hK ⊢
      generalize vs 21 = u21 at hK d21 ⊢
      replace d21 : u21 = _ := d21
      subst d21
      have xX00 : World.cell? wj ⟨w.heap.size, 0, none⟩ = some (.int .i64 1) := (X0.below hJ).cell 0
      have xX01 : World.cell? wj ⟨w.heap.size, 1, none⟩ = some (.bool false) := (X0.below hJ).cell 1
      have xX02 : World.cell? wj ⟨w.heap.size, 2, none⟩ = some (.int .u64 M0) := (X0.below hJ).cell 2
      have xX03 : World.cell? wj ⟨w.heap.size, 3, none⟩ = some (.int .i64 E0) := (X0.below hJ).cell 3
      go_simp
      exact hK.out _ _ rfl (Below.refl _ _)
    refine Jo.jcons (i := 23) (o := ⟨some 69, _, _, _, _, _⟩) (di := some 69) (L := [(some 67, 21)]) (f := Jo.Fact.eq (.agg #[.int .i64 1, .bool false, .int .u64 M1, .int .i64 E1])) rfl rfl rfl rfl (fun vs wj hJ hd K hK => ?_) ?_
    · have d21 : (Jo.Fact.eq (.bool true)).P (vs 21) wj := hd 21 (by decide)
      clear hd
      simp only [Jo.putl, List.foldl_cons, List.foldl_nil, Act.put, List.setIfInBounds_toArray, List.set_cons_zero, List.set_cons_succ] at hK ⊢
      generalize vs 21 = u21 at hK d21 ⊢
      replace d21 : u21 = _ := d21
      subst d21
      have xX10 : World.cell? wj ⟨w.heap.size + 1, 0, none⟩ = some (.int .i64 1) := (X1.below hJ).cell 0
      have xX11 : World.cell? wj ⟨w.heap.size + 1, 1, none⟩ = some (.bool false) := (X1.below hJ).cell 1
      have xX12 : World.cell? wj ⟨w.heap.size + 1, 2, none⟩ = some (.int .u64 M1) := (X1.below hJ).cell 2
      have xX13 : World.cell? wj ⟨w.heap.size + 1, 3, none⟩ = some (.int .i64 E1) := (X1.below hJ).cell 3
      go_simp
      exact hK.out _ _ rfl (Below.refl _ _)
    refine Jo.jcons (i := 24) (o := ⟨some 70, _, _, _, _, _⟩) (di := some 70) (L := [(some 67, 21), (some 68, 22), (some 69, 23)]) (f := Jo.Fact.num a) rfl rfl rfl rfl (fun vs wj hJ hd K hK => ?_) ?_
    · have d21 : (Jo.Fact.eq (.bool true)).P (vs 21) wj := hd 21 (by decide)
      have d22 : (Jo.Fact.eq (.agg #[.int .i64 1, .bool false, .int .u64 M0, .int .i64 E0])).P (vs 22) wj := hd 22 (by decide)
      have d23 : (Jo.Fact.eq (.agg #[.int .i64 1, .bool false, .int .u64 M1, .int .i64 E1])).P (vs 23) wj := hd 23 (by decide)
      clear hd
      simp only [Jo.putl, List.foldl_cons, List.foldl_nil, Act.put, List.setIfInBounds_toArray, List.set_cons_zero, List.set_cons_succ] at hK ⊢
      generalize vs 21 = u21 at hK d21 ⊢
      generalize vs 22 = u22 at hK d22 ⊢
      generalize vs 23 = u23 at hK d23 ⊢
      replace d21 : u21 = _ := d21
      subst d21
      replace d22 : u22 = _ := d22
      subst d22
      replace d23 : u23 = _ := d23
      subst d23
      go_simp
      refine (aSub (hT.below hJ) q1.top q2.top q1.rk HNB.out HA4.out).mono ?_
      rintro ee wk ⟨K8, s8, M8, E8, rfl, q8, B⟩
      exact hK.out _ _ ⟨K8, s8, M8, E8, rfl, q8⟩ B
    refine Jo.jcons (i := 25) (o := ⟨some 71, _, _, _, _, _⟩) (di := some 71) (L := [(some 67, 21)]) (f := Jo.Fact.eq (.agg #[.int .i64 1, .bool false, .int .u64 M0, .int .i64 E0])) rfl rfl rfl rfl (fun vs wj hJ hd K hK => ?_) ?_
    · have d21 : (Jo.Fact.eq (.bool true)).P (vs 21) wj := hd 21 (by decide)
      clear hd
      simp only [Jo.putl, List.foldl_cons, List.foldl_nil, Act.put, List.setIfInBounds_toArray, List.set_cons_zero, List.set_cons_succ] at hK ⊢
      generalize vs 21 = u21 at hK d21 ⊢
      replace d21 : u21 = _ := d21
      subst d21
      have xX00 : World.cell? wj ⟨w.heap.size, 0, none⟩ = some (.int .i64 1) := (X0.below hJ).cell 0
      have xX01 : World.cell? wj ⟨w.heap.size, 1, none⟩ = some (.bool false) := (X0.below hJ).cell 1
      have xX02 : World.cell? wj ⟨w.heap.size, 2, none⟩ = some (.int .u64 M0) := (X0.below hJ).cell 2
      have xX03 : World.cell? wj ⟨w.heap.size, 3, none⟩ = some (.int .i64 E0) := (X0.below hJ).cell 3
      go_simp
      exact hK.out _ _ rfl (Below.refl _ _)
    refine Jo.jcons (i := 26) (o := ⟨some 72, _, _, _, _, _⟩) (di := some 72) (L := [(some 67, 21), (some 70, 24), (some 71, 25)]) (f := Jo.Fact.eq (.bool true)) rfl rfl rfl rfl (fun vs wj hJ hd K hK => ?_) ?_
    · have d21 : (Jo.Fact.eq (.bool true)).P (vs 21) wj := hd 21 (by decide)
      have d24 : (Jo.Fact.num a).P (vs 24) wj := hd 24 (by decide)
      have d25 : (Jo.Fact.eq (.agg #[.int .i64 1, .bool false, .int .u64 M0, .int .i64 E0])).P (vs 25) wj := hd 25 (by decide)
      clear hd
      simp only [Jo.putl, List.foldl_cons, List.foldl_nil, Act.put, List.setIfInBounds_toArray, List.set_cons_zero, List.set_cons_succ] at hK ⊢
      generalize vs 21 = u21 at hK d21 ⊢
      generalize vs 24 = u24 at hK d24 ⊢
      generalize vs 25 = u25 at hK d25 ⊢
      replace d21 : u21 = _ := d21
      subst d21
      obtain ⟨K8, s8, M8, E8, rfl, q8⟩ := d24
      replace d25 : u25 = _ := d25
      subst d25
      obtain ⟨rfl, rfl, rfl, rfl⟩ := q8.uniq q1
      go_simp
      exact hK.out _ _ (by first | rfl | (show Value.bool _ = Value.bool _; simp)) (Below.refl _ _)
    refine Jo.jcons (i := 27) (o := ⟨some 73, _, _, _, _, _⟩) (di := some 73) (L := [(some 67, 21), (some 72, 26)]) (f := Jo.Fact.eq (.bool true)) rfl rfl rfl rfl (fun vs wj hJ hd K hK => ?_) ?_
    · have d21 : (Jo.Fact.eq (.bool true)).P (vs 21) wj := hd 21 (by decide)
      have d26 : (Jo.Fact.eq (.bool true)).P (vs 26) wj := hd 26 (by decide)
      clear hd
      simp only [Jo.putl, List.foldl_cons, List.foldl_nil, Act.put, List.setIfInBounds_toArray, List.set_cons_zero, List.set_cons_succ] at hK ⊢
      generalize vs 21 = u21 at hK d21 ⊢
      generalize vs 26 = u26 at hK d26 ⊢
      replace d21 : u21 = _ := d21
      subst d21
      replace d26 : u26 = _ := d26
      subst d26
      go_simp
      exact hK.out _ _ rfl (Below.refl _ _)
    refine Jo.jcons (i := 28) (o := ⟨some 4, _, _, _, _, _⟩) (di := some 4) (L := [(some 73, 27)]) (f := Jo.Fact.eq (.bool true)) rfl rfl rfl rfl (fun vs wj hJ hd K hK => ?_) ?_
    · have d27 : (Jo.Fact.eq (.bool true)).P (vs 27) wj := hd 27 (by decide)
      clear hd
      simp only [Jo.putl, List.foldl_cons, List.foldl_nil, Act.put, List.setIfInBounds_toArray, List.set_cons_zero, List.set_cons_succ] at hK ⊢
      generalize vs 27 = u27 at hK d27 ⊢
      replace d27 : u27 = _ := d27
      subst d27
      go_simp
      exact hK.out _ _ rfl (Below.refl _ _)
    exact Jo.Steps.nil
  have d0 : (Jo.Fact.eq (.agg #[.int .i64 1, .bool false, .int .u64 M0, .int .i64 E0])).P (vs 0) w5 := hd 0 (by decide)
  have d1 : (Jo.Fact.eq (.agg #[.int .i64 1, .bool false, .int .u64 M1, .int .i64 E1])).P (vs 1) w5 := hd 1 (by decide)
  have d2 : (Jo.Fact.num n1).P (vs 2) w5 := hd 2 (by decide)
  have d3 : (Jo.Fact.eq (.agg #[.int .i64 1, .bool false, .int .u64 M0, .int .i64 E0])).P (vs 3) w5 := hd 3 (by decide)
  have d4 : (Jo.Fact.num n1).P (vs 4) w5 := hd 4 (by decide)
  have d5 : (Jo.Fact.eq (.bool true)).P (vs 5) w5 := hd 5 (by decide)
  have d6 : (Jo.Fact.eq (.bool true)).P (vs 6) w5 := hd 6 (by decide)
  have d7 : (Jo.Fact.eq (.agg #[.int .i64 1, .bool false, .int .u64 M0, .int .i64 E0])).P (vs 7) w5 := hd 7 (by decide)
  have d8 : (Jo.Fact.eq (.agg #[.int .i64 1, .bool false, .int .u64 M1, .int .i64 E1])).P (vs 8) w5 := hd 8 (by decide)
  have d9 : (Jo.Fact.num a).P (vs 9) w5 := hd 9 (by decide)
  have d10 : (Jo.Fact.eq (.agg #[.int .i64 1, .bool false, .int .u64 M0, .int .i64 E0])).P (vs 10) w5 := hd 10 (by decide)
  have d11 : (Jo.Fact.eq (.bool true)).P (vs 11) w5 := hd 11 (by decide)
  have d12 : (Jo.Fact.eq (.bool true)).P (vs 12) w5 := hd 12 (by decide)
  have d13 : (Jo.Fact.eq (.bool true)).P (vs 13) w5 := hd 13 (by decide)
  have d14 : (Jo.Fact.eq (.agg #[.int .i64 1, .bool false, .int .u64 M0, .int .i64 E0])).P (vs 14) w5 := hd 14 (by decide)
  have d15 : (Jo.Fact.eq (.agg #[.int .i64 1, .bool false, .int .u64 M1, .int .i64 E1])).P (vs 15) w5 := hd 15 (by decide)
  have d16 : (Jo.Fact.num n2).P (vs 16) w5 := hd 16 (by decide)
  have d17 : (Jo.Fact.eq (.agg #[.int .i64 1, .bool false, .int .u64 M0, .int .i64 E0])).P (vs 17) w5 := hd 17 (by decide)
  have d18 : (Jo.Fact.num n2).P (vs 18) w5 := hd 18 (by decide)
  have d19 : (Jo.Fact.eq (.bool true)).P (vs 19) w5 := hd 19 (by decide)
  have d20 : (Jo.Fact.eq (.bool true)).P (vs 20) w5 := hd 20 (by decide)
  have d21 : (Jo.Fact.eq (.bool true)).P (vs 21) w5 := hd 21 (by decide)
  have d22 : (Jo.Fact.eq (.agg #[.int .i64 1, .bool false, .int .u64 M0, .int .i64 E0])).P (vs 22) w5 := hd 22 (by decide)
  have d23 : (Jo.Fact.eq (.agg #[.int .i64 1, .bool false, .int .u64 M1, .int .i64 E1])).P (vs 23) w5 := hd 23 (by decide)
  have d24 : (Jo.Fact.num a).P (vs 24) w5 := hd 24 (by decide)
  have d25 : (Jo.Fact.eq (.agg #[.int .i64 1, .bool false, .int .u64 M0, .int .i64 E0])).P (vs 25) w5 := hd 25 (by decide)
  have d26 : (Jo.Fact.eq (.bool true)).P (vs 26) w5 := hd 26 (by decide)
  have d27 : (Jo.Fact.eq (.bool true)).P (vs 27) w5 := hd 27 (by decide)
  have d28 : (Jo.Fact.eq (.bool true)).P (vs 28) w5 := hd 28 (by decide)
  clear hd
  simp only [Jo.putl, List.foldl_cons, List.foldl_nil, Act.put, List.setIfInBounds_toArray, List.set_cons_zero, List.set_cons_succ]
  generalize vs 0 = u0 at d0 ⊢
  generalize vs 1 = u1 at d1 ⊢
  generalize vs 2 = u2 at d2 ⊢
  generalize vs 3 = u3 at d3 ⊢
  generalize vs 4 = u4 at d4 ⊢
  generalize vs 5 = u5 at d5 ⊢
  generalize vs 6 = u6 at d6 ⊢
  generalize vs 7 = u7 at d7 ⊢
  generalize vs 8 = u8 at d8 ⊢
  generalize vs 9 = u9 at d9 ⊢
  generalize vs 10 = u10 at d10 ⊢
  generalize vs 11 = u11 at d11 ⊢
  generalize vs 12 = u12 at d12 ⊢
  generalize vs 13 = u13 at d13 ⊢
  generalize vs 14 = u14 at d14 ⊢
  generalize vs 15 = u15 at d15 ⊢
  generalize vs 16 = u16 at d16 ⊢
  generalize vs 17 = u17 at d17 ⊢
  generalize vs 18 = u18 at d18 ⊢
  generalize vs 19 = u19 at d19 ⊢
  generalize vs 20 = u20 at d20 ⊢
  generalize vs 21 = u21 at d21 ⊢
  generalize vs 22 = u22 at d22 ⊢
  generalize vs 23 = u23 at d23 ⊢
  generalize vs 24 = u24 at d24 ⊢
  generalize vs 25 = u25 at d25 ⊢
  generalize vs 26 = u26 at d26 ⊢
  generalize vs 27 = u27 at d27 ⊢
  generalize vs 28 = u28 at d28 ⊢
  clear vs
  replace d0 : u0 = _ := d0
  subst d0
  replace d1 : u1 = _ := d1
  subst d1
  obtain ⟨K3, s3, M3, E3, rfl, _⟩ := d2
  replace d3 : u3 = _ := d3
  subst d3
  obtain ⟨K4, s4, M4, E4, rfl, _⟩ := d4
  replace d5 : u5 = _ := d5
  subst d5
  replace d6 : u6 = _ := d6
  subst d6
  replace d7 : u7 = _ := d7
  subst d7
  replace d8 : u8 = _ := d8
  subst d8
  obtain ⟨K5, s5, M5, E5, rfl, _⟩ := d9
  replace d10 : u10 = _ := d10
  subst d10
  replace d11 : u11 = _ := d11
  subst d11
  replace d12 : u12 = _ := d12
  subst d12
  replace d13 : u13 = _ := d13
  subst d13
  replace d14 : u14 = _ := d14
  subst d14
  replace d15 : u15 = _ := d15
  subst d15
  obtain ⟨K6, s6, M6, E6, rfl, _⟩ := d16
  replace d17 : u17 = _ := d17
  subst d17
  obtain ⟨K7, s7, M7, E7, rfl, _⟩ := d18
  replace d19 : u19 = _ := d19
  subst d19
  replace d20 : u20 = _ := d20
  subst d20
  replace d21 : u21 = _ := d21
  subst d21
  replace d22 : u22 = _ := d22
  subst d22
  replace d23 : u23 = _ := d23
  subst d23
  obtain ⟨K8, s8, M8, E8, rfl, _⟩ := d24
  replace d25 : u25 = _ := d25
  subst d25
  replace d26 : u26 = _ := d26
  subst d26
  replace d27 : u27 = _ := d27
  subst d27
  replace d28 : u28 = _ := d28
  subst d28
  replace X0 := X0.below hJ
  replace X1 := X1.below hJ
  replace hT := hT.below hJ
  replace HB := Lib.hid (bt HB.out hJ)
  refine Jo.jdone (by kernel_rfl) ?_
  go_wp2
  go_ret
  exact ⟨rfl, HB.out⟩
set_option maxHeartbeats 8000000 in
theorem arithFar_out (D0 : Int) (s0 : Bool) (M0 E0 : Int) (D1 : Int) (s1 : Bool) (M1 E1 : Int) (w : World) (hT : Tb w) (h : decide (MayQ D0 s0 M0 E0) = false ∨ decide (MayQ D1 s1 M1 E1) = false ∨ D0 ≠ 1 ∨ D1 ≠ 1 ∨ s0 = true ∨ s1 = true ∨ (MayQ 1 s0 M0 E0 ∧ MayQ 1 s1 M1 E1 ∧ E0 - E1 ≤ 130)) :
    Calls Tryd.prog 10 #[.agg #[.int .i64 D0, .bool s0, .int .u64 M0, .int .i64 E0], .agg #[.int .i64 D1, .bool s1, .int .u64 M1, .int .i64 E1]] w (PB w true) := by
  obtain ⟨m0, hm0⟩ : ∃ m, decide (MayQ D0 s0 M0 E0) = m := ⟨_, rfl⟩
  obtain ⟨m1, hm1⟩ : ∃ m, decide (MayQ D1 s1 M1 E1) = m := ⟨_, rfl⟩
  have H0 := Lib.hid hm0
  have H1 := Lib.hid hm1
  by_cases h0 : m0 = false
  · subst h0
    clear hm0 hm1 h
    go_enter Tryd.func10, Tryd.ntmps10
    go_upto_region 1 with (fail)
    have X0 := (Bo.newAt w (g := w.heap.size) (by simp) #[.int .i64 D0, .bool s0, .int .u64 M0, .int .i64 E0] 24).below (bel1 _ (.cells #[.int .i64 D1, .bool s1, .int .u64 M1, .int .i64 E1] 24))
    have X1 := (Bo.newAt (w.alloc (.cells #[.int .i64 D0, .bool s0, .int .u64 M0, .int .i64 E0] 24)) (g := w.heap.size + 1) (by simp) #[.int .i64 D1, .bool s1, .int .u64 M1, .int .i64 E1] 24)
    have HB := Lib.hid (bel2 w (.cells #[.int .i64 D0, .bool s0, .int .u64 M0, .int .i64 E0] 24) (.cells #[.int .i64 D1, .bool s1, .int .u64 M1, .int .i64 E1] 24))
    replace hT := hT.below HB.out
    generalize hW1 : ((w.alloc (.cells #[.int .i64 D0, .bool s0, .int .u64 M0, .int .i64 E0] 24)).alloc (.cells #[.int .i64 D1, .bool s1, .int .u64 M1, .int .i64 E1] 24)) = w1 at *
    clear hW1
    go_wp2_with fail
    refine (awake6 hT).mono ?_
    rintro ee w2 ⟨rfl, B⟩
    replace X0 := X0.below B
    replace X1 := X1.below B
    replace hT := hT.below B
    replace HB := Lib.hid (bt HB.out B)
    clear B
    clear hT
    have xX00 := X0.at (i := 0) (v := .int .i64 D0) rfl
    have xX01 := X0.at (i := 1) (v := .bool s0) rfl
    have xX02 := X0.at (i := 2) (v := .int .u64 M0) rfl
    have xX03 := X0.at (i := 3) (v := .int .i64 E0) rfl
    go_wp2_with fail
    refine (nMay (r := false) H0.out).mono ?_
    rintro ee w3 ⟨rfl, B⟩
    clear xX00 xX01 xX02 xX03
    replace X0 := X0.below B
    replace X1 := X1.below B
    replace HB := Lib.hid (bt HB.out B)
    clear B
    have xX00 := X0.at (i := 0) (v := .int .i64 D0) rfl
    have xX01 := X0.at (i := 1) (v := .bool s0) rfl
    have xX02 := X0.at (i := 2) (v := .int .u64 M0) rfl
    have xX03 := X0.at (i := 3) (v := .int .i64 E0) rfl
    have xX10 := X1.at (i := 0) (v := .int .i64 D1) rfl
    have xX11 := X1.at (i := 1) (v := .bool s1) rfl
    have xX12 := X1.at (i := 2) (v := .int .u64 M1) rfl
    have xX13 := X1.at (i := 3) (v := .int .i64 E1) rfl
    go_wp2
    go_ret
    exact ⟨rfl, HB.out⟩
  · have h0 : m0 = true := by simpa using h0
    subst h0
    by_cases h1 : m1 = false
    · subst h1
      clear hm0 hm1 h
      go_enter Tryd.func10, Tryd.ntmps10
      go_upto_region 1 with (fail)
      have X0 := (Bo.newAt w (g := w.heap.size) (by simp) #[.int .i64 D0, .bool s0, .int .u64 M0, .int .i64 E0] 24).below (bel1 _ (.cells #[.int .i64 D1, .bool s1, .int .u64 M1, .int .i64 E1] 24))
      have X1 := (Bo.newAt (w.alloc (.cells #[.int .i64 D0, .bool s0, .int .u64 M0, .int .i64 E0] 24)) (g := w.heap.size + 1) (by simp) #[.int .i64 D1, .bool s1, .int .u64 M1, .int .i64 E1] 24)
      have HB := Lib.hid (bel2 w (.cells #[.int .i64 D0, .bool s0, .int .u64 M0, .int .i64 E0] 24) (.cells #[.int .i64 D1, .bool s1, .int .u64 M1, .int .i64 E1] 24))
      replace hT := hT.below HB.out
      generalize hW1 : ((w.alloc (.cells #[.int .i64 D0, .bool s0, .int .u64 M0, .int .i64 E0] 24)).alloc (.cells #[.int .i64 D1, .bool s1, .int .u64 M1, .int .i64 E1] 24)) = w1 at *
      clear hW1
      go_wp2_with fail
      refine (awake6 hT).mono ?_
      rintro ee w2 ⟨rfl, B⟩
      replace X0 := X0.below B
      replace X1 := X1.below B
      replace hT := hT.below B
      replace HB := Lib.hid (bt HB.out B)
      clear B
      clear hT
      have xX00 := X0.at (i := 0) (v := .int .i64 D0) rfl
      have xX01 := X0.at (i := 1) (v := .bool s0) rfl
      have xX02 := X0.at (i := 2) (v := .int .u64 M0) rfl
      have xX03 := X0.at (i := 3) (v := .int .i64 E0) rfl
      go_wp2_with fail
      refine (nMay (r := true) H0.out).mono ?_
      rintro ee w3 ⟨rfl, B⟩
      clear xX00 xX01 xX02 xX03
      replace X0 := X0.below B
      replace X1 := X1.below B
      replace HB := Lib.hid (bt HB.out B)
      clear B
      have xX10 := X1.at (i := 0) (v := .int .i64 D1) rfl
      have xX11 := X1.at (i := 1) (v := .bool s1) rfl
      have xX12 := X1.at (i := 2) (v := .int .u64 M1) rfl
      have xX13 := X1.at (i := 3) (v := .int .i64 E1) rfl
      go_wp2_with fail
      refine (nMay (r := false) H1.out).mono ?_
      rintro ee w4 ⟨rfl, B⟩
      clear xX10 xX11 xX12 xX13
      replace X0 := X0.below B
      replace X1 := X1.below B
      replace HB := Lib.hid (bt HB.out B)
      clear B
      have xX00 := X0.at (i := 0) (v := .int .i64 D0) rfl
      have xX01 := X0.at (i := 1) (v := .bool s0) rfl
      have xX02 := X0.at (i := 2) (v := .int .u64 M0) rfl
      have xX03 := X0.at (i := 3) (v := .int .i64 E0) rfl
      have xX10 := X1.at (i := 0) (v := .int .i64 D1) rfl
      have xX11 := X1.at (i := 1) (v := .bool s1) rfl
      have xX12 := X1.at (i := 2) (v := .int .u64 M1) rfl
      have xX13 := X1.at (i := 3) (v := .int .i64 E1) rfl
      go_wp2
      go_ret
      exact ⟨rfl, HB.out⟩
    · have h1 : m1 = true := by simpa using h1
      subst h1
      by_cases h2 : D0 ≠ 1
      · have e0 : (D0 == 1) = false := by simpa using h2
        have e0b : (D0 = 1) = False := by simpa using h2
        clear hm0 hm1 h h2
        go_enter Tryd.func10, Tryd.ntmps10
        go_upto_region 1 with (fail)
        have X0 := (Bo.newAt w (g := w.heap.size) (by simp) #[.int .i64 D0, .bool s0, .int .u64 M0, .int .i64 E0] 24).below (bel1 _ (.cells #[.int .i64 D1, .bool s1, .int .u64 M1, .int .i64 E1] 24))
        have X1 := (Bo.newAt (w.alloc (.cells #[.int .i64 D0, .bool s0, .int .u64 M0, .int .i64 E0] 24)) (g := w.heap.size + 1) (by simp) #[.int .i64 D1, .bool s1, .int .u64 M1, .int .i64 E1] 24)
        have HB := Lib.hid (bel2 w (.cells #[.int .i64 D0, .bool s0, .int .u64 M0, .int .i64 E0] 24) (.cells #[.int .i64 D1, .bool s1, .int .u64 M1, .int .i64 E1] 24))
        replace hT := hT.below HB.out
        generalize hW1 : ((w.alloc (.cells #[.int .i64 D0, .bool s0, .int .u64 M0, .int .i64 E0] 24)).alloc (.cells #[.int .i64 D1, .bool s1, .int .u64 M1, .int .i64 E1] 24)) = w1 at *
        clear hW1
        go_wp2_with fail
        refine (awake6 hT).mono ?_
        rintro ee w2 ⟨rfl, B⟩
        replace X0 := X0.below B
        replace X1 := X1.below B
        replace hT := hT.below B
        replace HB := Lib.hid (bt HB.out B)
        clear B
        clear hT
        have xX00 := X0.at (i := 0) (v := .int .i64 D0) rfl
        have xX01 := X0.at (i := 1) (v := .bool s0) rfl
        have xX02 := X0.at (i := 2) (v := .int .u64 M0) rfl
        have xX03 := X0.at (i := 3) (v := .int .i64 E0) rfl
        go_wp2_with fail
        refine (nMay (r := true) H0.out).mono ?_
        rintro ee w3 ⟨rfl, B⟩
        clear xX00 xX01 xX02 xX03
        replace X0 := X0.below B
        replace X1 := X1.below B
        replace HB := Lib.hid (bt HB.out B)
        clear B
        have xX10 := X1.at (i := 0) (v := .int .i64 D1) rfl
        have xX11 := X1.at (i := 1) (v := .bool s1) rfl
        have xX12 := X1.at (i := 2) (v := .int .u64 M1) rfl
        have xX13 := X1.at (i := 3) (v := .int .i64 E1) rfl
        go_wp2_with fail
        refine (nMay (r := true) H1.out).mono ?_
        rintro ee w4 ⟨rfl, B⟩
        clear xX10 xX11 xX12 xX13
        replace X0 := X0.below B
        replace X1 := X1.below B
        replace HB := Lib.hid (bt HB.out B)
        clear B
        have xX00 := X0.at (i := 0) (v := .int .i64 D0) rfl
        have xX01 := X0.at (i := 1) (v := .bool s0) rfl
        have xX02 := X0.at (i := 2) (v := .int .u64 M0) rfl
        have xX03 := X0.at (i := 3) (v := .int .i64 E0) rfl
        have xX10 := X1.at (i := 0) (v := .int .i64 D1) rfl
        have xX11 := X1.at (i := 1) (v := .bool s1) rfl
        have xX12 := X1.at (i := 2) (v := .int .u64 M1) rfl
        have xX13 := X1.at (i := 3) (v := .int .i64 E1) rfl
        go_wp2
        go_ret
        exact ⟨rfl, HB.out⟩
      · have h2 : D0 = 1 := by omega
        subst h2
        by_cases h3 : D1 ≠ 1
        · have e1 : (D1 == 1) = false := by simpa using h3
          have e1b : (D1 = 1) = False := by simpa using h3
          clear hm0 hm1 h h3
          go_enter Tryd.func10, Tryd.ntmps10
          go_upto_region 1 with (fail)
          have X0 := (Bo.newAt w (g := w.heap.size) (by simp) #[.int .i64 1, .bool s0, .int .u64 M0, .int .i64 E0] 24).below (bel1 _ (.cells #[.int .i64 D1, .bool s1, .int .u64 M1, .int .i64 E1] 24))
          have X1 := (Bo.newAt (w.alloc (.cells #[.int .i64 1, .bool s0, .int .u64 M0, .int .i64 E0] 24)) (g := w.heap.size + 1) (by simp) #[.int .i64 D1, .bool s1, .int .u64 M1, .int .i64 E1] 24)
          have HB := Lib.hid (bel2 w (.cells #[.int .i64 1, .bool s0, .int .u64 M0, .int .i64 E0] 24) (.cells #[.int .i64 D1, .bool s1, .int .u64 M1, .int .i64 E1] 24))
          replace hT := hT.below HB.out
          generalize hW1 : ((w.alloc (.cells #[.int .i64 1, .bool s0, .int .u64 M0, .int .i64 E0] 24)).alloc (.cells #[.int .i64 D1, .bool s1, .int .u64 M1, .int .i64 E1] 24)) = w1 at *
          clear hW1
          go_wp2_with fail
          refine (awake6 hT).mono ?_
          rintro ee w2 ⟨rfl, B⟩
          replace X0 := X0.below B
          replace X1 := X1.below B
          replace hT := hT.below B
          replace HB := Lib.hid (bt HB.out B)
          clear B
          clear hT
          have xX00 := X0.at (i := 0) (v := .int .i64 1) rfl
          have xX01 := X0.at (i := 1) (v := .bool s0) rfl
          have xX02 := X0.at (i := 2) (v := .int .u64 M0) rfl
          have xX03 := X0.at (i := 3) (v := .int .i64 E0) rfl
          go_wp2_with fail
          refine (nMay (r := true) H0.out).mono ?_
          rintro ee w3 ⟨rfl, B⟩
          clear xX00 xX01 xX02 xX03
          replace X0 := X0.below B
          replace X1 := X1.below B
          replace HB := Lib.hid (bt HB.out B)
          clear B
          have xX10 := X1.at (i := 0) (v := .int .i64 D1) rfl
          have xX11 := X1.at (i := 1) (v := .bool s1) rfl
          have xX12 := X1.at (i := 2) (v := .int .u64 M1) rfl
          have xX13 := X1.at (i := 3) (v := .int .i64 E1) rfl
          go_wp2_with fail
          refine (nMay (r := true) H1.out).mono ?_
          rintro ee w4 ⟨rfl, B⟩
          clear xX10 xX11 xX12 xX13
          replace X0 := X0.below B
          replace X1 := X1.below B
          replace HB := Lib.hid (bt HB.out B)
          clear B
          have xX00 := X0.at (i := 0) (v := .int .i64 1) rfl
          have xX01 := X0.at (i := 1) (v := .bool s0) rfl
          have xX02 := X0.at (i := 2) (v := .int .u64 M0) rfl
          have xX03 := X0.at (i := 3) (v := .int .i64 E0) rfl
          have xX10 := X1.at (i := 0) (v := .int .i64 D1) rfl
          have xX11 := X1.at (i := 1) (v := .bool s1) rfl
          have xX12 := X1.at (i := 2) (v := .int .u64 M1) rfl
          have xX13 := X1.at (i := 3) (v := .int .i64 E1) rfl
          go_wp2
          go_ret
          exact ⟨rfl, HB.out⟩
        · have h3 : D1 = 1 := by omega
          subst h3
          by_cases h4 : s0 = true
          · subst h4
            clear hm0 hm1 h
            go_enter Tryd.func10, Tryd.ntmps10
            go_upto_region 1 with (fail)
            have X0 := (Bo.newAt w (g := w.heap.size) (by simp) #[.int .i64 1, .bool true, .int .u64 M0, .int .i64 E0] 24).below (bel1 _ (.cells #[.int .i64 1, .bool s1, .int .u64 M1, .int .i64 E1] 24))
            have X1 := (Bo.newAt (w.alloc (.cells #[.int .i64 1, .bool true, .int .u64 M0, .int .i64 E0] 24)) (g := w.heap.size + 1) (by simp) #[.int .i64 1, .bool s1, .int .u64 M1, .int .i64 E1] 24)
            have HB := Lib.hid (bel2 w (.cells #[.int .i64 1, .bool true, .int .u64 M0, .int .i64 E0] 24) (.cells #[.int .i64 1, .bool s1, .int .u64 M1, .int .i64 E1] 24))
            replace hT := hT.below HB.out
            generalize hW1 : ((w.alloc (.cells #[.int .i64 1, .bool true, .int .u64 M0, .int .i64 E0] 24)).alloc (.cells #[.int .i64 1, .bool s1, .int .u64 M1, .int .i64 E1] 24)) = w1 at *
            clear hW1
            go_wp2_with fail
            refine (awake6 hT).mono ?_
            rintro ee w2 ⟨rfl, B⟩
            replace X0 := X0.below B
            replace X1 := X1.below B
            replace hT := hT.below B
            replace HB := Lib.hid (bt HB.out B)
            clear B
            clear hT
            have xX00 := X0.at (i := 0) (v := .int .i64 1) rfl
            have xX01 := X0.at (i := 1) (v := .bool true) rfl
            have xX02 := X0.at (i := 2) (v := .int .u64 M0) rfl
            have xX03 := X0.at (i := 3) (v := .int .i64 E0) rfl
            go_wp2_with fail
            refine (nMay (r := true) H0.out).mono ?_
            rintro ee w3 ⟨rfl, B⟩
            clear xX00 xX01 xX02 xX03
            replace X0 := X0.below B
            replace X1 := X1.below B
            replace HB := Lib.hid (bt HB.out B)
            clear B
            have xX10 := X1.at (i := 0) (v := .int .i64 1) rfl
            have xX11 := X1.at (i := 1) (v := .bool s1) rfl
            have xX12 := X1.at (i := 2) (v := .int .u64 M1) rfl
            have xX13 := X1.at (i := 3) (v := .int .i64 E1) rfl
            go_wp2_with fail
            refine (nMay (r := true) H1.out).mono ?_
            rintro ee w4 ⟨rfl, B⟩
            clear xX10 xX11 xX12 xX13
            replace X0 := X0.below B
            replace X1 := X1.below B
            replace HB := Lib.hid (bt HB.out B)
            clear B
            have xX00 := X0.at (i := 0) (v := .int .i64 1) rfl
            have xX01 := X0.at (i := 1) (v := .bool true) rfl
            have xX02 := X0.at (i := 2) (v := .int .u64 M0) rfl
            have xX03 := X0.at (i := 3) (v := .int .i64 E0) rfl
            have xX10 := X1.at (i := 0) (v := .int .i64 1) rfl
            have xX11 := X1.at (i := 1) (v := .bool s1) rfl
            have xX12 := X1.at (i := 2) (v := .int .u64 M1) rfl
            have xX13 := X1.at (i := 3) (v := .int .i64 E1) rfl
            go_wp2
            go_ret
            exact ⟨rfl, HB.out⟩
          · have h4 : s0 = false := by simpa using h4
            subst h4
            by_cases h5 : s1 = true
            · subst h5
              clear hm0 hm1 h
              go_enter Tryd.func10, Tryd.ntmps10
              go_upto_region 1 with (fail)
              have X0 := (Bo.newAt w (g := w.heap.size) (by simp) #[.int .i64 1, .bool false, .int .u64 M0, .int .i64 E0] 24).below (bel1 _ (.cells #[.int .i64 1, .bool true, .int .u64 M1, .int .i64 E1] 24))
              have X1 := (Bo.newAt (w.alloc (.cells #[.int .i64 1, .bool false, .int .u64 M0, .int .i64 E0] 24)) (g := w.heap.size + 1) (by simp) #[.int .i64 1, .bool true, .int .u64 M1, .int .i64 E1] 24)
              have HB := Lib.hid (bel2 w (.cells #[.int .i64 1, .bool false, .int .u64 M0, .int .i64 E0] 24) (.cells #[.int .i64 1, .bool true, .int .u64 M1, .int .i64 E1] 24))
              replace hT := hT.below HB.out
              generalize hW1 : ((w.alloc (.cells #[.int .i64 1, .bool false, .int .u64 M0, .int .i64 E0] 24)).alloc (.cells #[.int .i64 1, .bool true, .int .u64 M1, .int .i64 E1] 24)) = w1 at *
              clear hW1
              go_wp2_with fail
              refine (awake6 hT).mono ?_
              rintro ee w2 ⟨rfl, B⟩
              replace X0 := X0.below B
              replace X1 := X1.below B
              replace hT := hT.below B
              replace HB := Lib.hid (bt HB.out B)
              clear B
              clear hT
              have xX00 := X0.at (i := 0) (v := .int .i64 1) rfl
              have xX01 := X0.at (i := 1) (v := .bool false) rfl
              have xX02 := X0.at (i := 2) (v := .int .u64 M0) rfl
              have xX03 := X0.at (i := 3) (v := .int .i64 E0) rfl
              go_wp2_with fail
              refine (nMay (r := true) H0.out).mono ?_
              rintro ee w3 ⟨rfl, B⟩
              clear xX00 xX01 xX02 xX03
              replace X0 := X0.below B
              replace X1 := X1.below B
              replace HB := Lib.hid (bt HB.out B)
              clear B
              have xX10 := X1.at (i := 0) (v := .int .i64 1) rfl
              have xX11 := X1.at (i := 1) (v := .bool true) rfl
              have xX12 := X1.at (i := 2) (v := .int .u64 M1) rfl
              have xX13 := X1.at (i := 3) (v := .int .i64 E1) rfl
              go_wp2_with fail
              refine (nMay (r := true) H1.out).mono ?_
              rintro ee w4 ⟨rfl, B⟩
              clear xX10 xX11 xX12 xX13
              replace X0 := X0.below B
              replace X1 := X1.below B
              replace HB := Lib.hid (bt HB.out B)
              clear B
              have xX00 := X0.at (i := 0) (v := .int .i64 1) rfl
              have xX01 := X0.at (i := 1) (v := .bool false) rfl
              have xX02 := X0.at (i := 2) (v := .int .u64 M0) rfl
              have xX03 := X0.at (i := 3) (v := .int .i64 E0) rfl
              have xX10 := X1.at (i := 0) (v := .int .i64 1) rfl
              have xX11 := X1.at (i := 1) (v := .bool true) rfl
              have xX12 := X1.at (i := 2) (v := .int .u64 M1) rfl
              have xX13 := X1.at (i := 3) (v := .int .i64 E1) rfl
              go_wp2
              go_ret
              exact ⟨rfl, HB.out⟩
            · have h5 : s1 = false := by simpa using h5
              subst h5
              have h6 : E0 - E1 ≤ 130 := by
                rcases h with h | h | h | h | h | h | ⟨_, _, h⟩
                · rw [hm0] at h; cases h
                · rw [hm1] at h; cases h
                · exact absurd rfl h
                · exact absurd rfl h
                · cases h
                · cases h
                · exact h
              have h7 : -1048576 ≤ E0 ∧ E0 ≤ 1048576 ∧ -1048576 ≤ E1 ∧ E1 ≤ 1048576 := by
                have g0 := of_decide_eq_true hm0
                have g1 := of_decide_eq_true hm1
                unfold MayQ at g0 g1
                omega
              have hw : IntKind.i64.wrap (E0 - E1) = E0 - E1 := IntWalk.i64_in _ (by omega)
              clear hm0 hm1 h h7
              go_enter Tryd.func10, Tryd.ntmps10
              go_upto_region 1 with (fail)
              have X0 := (Bo.newAt w (g := w.heap.size) (by simp) #[.int .i64 1, .bool false, .int .u64 M0, .int .i64 E0] 24).below (bel1 _ (.cells #[.int .i64 1, .bool false, .int .u64 M1, .int .i64 E1] 24))
              have X1 := (Bo.newAt (w.alloc (.cells #[.int .i64 1, .bool false, .int .u64 M0, .int .i64 E0] 24)) (g := w.heap.size + 1) (by simp) #[.int .i64 1, .bool false, .int .u64 M1, .int .i64 E1] 24)
              have HB := Lib.hid (bel2 w (.cells #[.int .i64 1, .bool false, .int .u64 M0, .int .i64 E0] 24) (.cells #[.int .i64 1, .bool false, .int .u64 M1, .int .i64 E1] 24))
              replace hT := hT.below HB.out
              generalize hW1 : ((w.alloc (.cells #[.int .i64 1, .bool false, .int .u64 M0, .int .i64 E0] 24)).alloc (.cells #[.int .i64 1, .bool false, .int .u64 M1, .int .i64 E1] 24)) = w1 at *
              clear hW1
              go_wp2_with fail
              refine (awake6 hT).mono ?_
              rintro ee w2 ⟨rfl, B⟩
              replace X0 := X0.below B
              replace X1 := X1.below B
              replace hT := hT.below B
              replace HB := Lib.hid (bt HB.out B)
              clear B
              clear hT
              have xX00 := X0.at (i := 0) (v := .int .i64 1) rfl
              have xX01 := X0.at (i := 1) (v := .bool false) rfl
              have xX02 := X0.at (i := 2) (v := .int .u64 M0) rfl
              have xX03 := X0.at (i := 3) (v := .int .i64 E0) rfl
              go_wp2_with fail
              refine (nMay (r := true) H0.out).mono ?_
              rintro ee w3 ⟨rfl, B⟩
              clear xX00 xX01 xX02 xX03
              replace X0 := X0.below B
              replace X1 := X1.below B
              replace HB := Lib.hid (bt HB.out B)
              clear B
              have xX10 := X1.at (i := 0) (v := .int .i64 1) rfl
              have xX11 := X1.at (i := 1) (v := .bool false) rfl
              have xX12 := X1.at (i := 2) (v := .int .u64 M1) rfl
              have xX13 := X1.at (i := 3) (v := .int .i64 E1) rfl
              go_wp2_with fail
              refine (nMay (r := true) H1.out).mono ?_
              rintro ee w4 ⟨rfl, B⟩
              clear xX10 xX11 xX12 xX13
              replace X0 := X0.below B
              replace X1 := X1.below B
              replace HB := Lib.hid (bt HB.out B)
              clear B
              have xX00 := X0.at (i := 0) (v := .int .i64 1) rfl
              have xX01 := X0.at (i := 1) (v := .bool false) rfl
              have xX02 := X0.at (i := 2) (v := .int .u64 M0) rfl
              have xX03 := X0.at (i := 3) (v := .int .i64 E0) rfl
              have xX10 := X1.at (i := 0) (v := .int .i64 1) rfl
              have xX11 := X1.at (i := 1) (v := .bool false) rfl
              have xX12 := X1.at (i := 2) (v := .int .u64 M1) rfl
              have xX13 := X1.at (i := 3) (v := .int .i64 E1) rfl
              go_wp2
              go_ret
              exact ⟨rfl, HB.out⟩

theorem arithFar_walk (D0 : Int) (s0 : Bool) (M0 E0 : Int) (D1 : Int) (s1 : Bool) (M1 E1 : Int) (w : World) (hT : Tb w) (w0 : 0 ≤ M0) (u0 : M0 < 18446744073709551616) (w1 : 0 ≤ M1) (u1 : M1 < 18446744073709551616) :
    Calls Tryd.prog 10 #[.agg #[.int .i64 D0, .bool s0, .int .u64 M0, .int .i64 E0], .agg #[.int .i64 D1, .bool s1, .int .u64 M1, .int .i64 E1]] w fun e w' => e = .returned (.bool true) ∧ Below w.heap.size w w' := by
  by_cases h0 : decide (MayQ D0 s0 M0 E0) = false
  · exact arithFar_out D0 s0 M0 E0 D1 s1 M1 E1 w hT (.inl h0)
  · by_cases h1 : decide (MayQ D1 s1 M1 E1) = false
    · exact arithFar_out D0 s0 M0 E0 D1 s1 M1 E1 w hT (.inr (.inl h1))
    · have m0 : MayQ D0 s0 M0 E0 := by simpa using h0
      have m1 : MayQ D1 s1 M1 E1 := by simpa using h1
      by_cases h2 : D0 = 1
      · by_cases h3 : D1 = 1
        · subst h2
          subst h3
          by_cases h4 : s0 = true
          · exact arithFar_out 1 s0 M0 E0 1 s1 M1 E1 w hT (.inr (.inr (.inr (.inr (.inl h4)))))
          · by_cases h5 : s1 = true
            · exact arithFar_out 1 s0 M0 E0 1 s1 M1 E1 w hT (.inr (.inr (.inr (.inr (.inr (.inl h5))))))
            · by_cases h6 : E0 - E1 ≤ 130
              · exact arithFar_out 1 s0 M0 E0 1 s1 M1 E1 w hT (.inr (.inr (.inr (.inr (.inr (.inr ⟨m0, m1, h6⟩))))))
              · exact arithFar_main s0 s1 M0 E0 M1 E1 _ _ w hT (by simpa using h4) (by simpa using h5) (rk_fq u0 m0) (rk_fq u1 m1) h6
        · exact arithFar_out D0 s0 M0 E0 D1 s1 M1 E1 w hT (.inr (.inr (.inr (.inl h3))))
      · exact arithFar_out D0 s0 M0 E0 D1 s1 M1 E1 w hT (.inr (.inr (.inl h2)))
end Go.Proofs.YtbhnpmkdmnnclaaDoor

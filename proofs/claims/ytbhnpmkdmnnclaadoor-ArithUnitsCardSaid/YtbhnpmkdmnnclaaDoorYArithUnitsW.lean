/-
  The walk of ArithUnits: for all arguments, where the tables lie as they were laid, the call answers true, and nothing that was there has turned.
-/
import Derived.Below
import Derived.BigQuiet
import Derived.Carry
import Derived.Deep.DeepCutAuto
import Derived.Deep.Draws
import Derived.Deep.MidRow
import Derived.Deep.QuietTactic
import Derived.Deep.RegionHeld3
import Derived.Deep.RegionWith
import Derived.IntWalk
import Derived.Laws.CopyOwn
import Derived.Laws.MakeOwn
import Derived.Laws.OwnMore
import Derived.Laws.Rows
import Derived.Lib.BitFns
import Derived.Lib.Hide
import Derived.Maps.AppendAt
import Derived.StillTailTactics
import Derived.Test.YtbhnpmkdmnnclaaDoorRows
import Derived.WalkKit
import Derived.WalkLawsBesides
import Derived.WalkSpells
import Derived.Test.YtbhnpmkdmnnclaaDoorYAap
import Derived.Test.YtbhnpmkdmnnclaaDoorYAaq
import Derived.Test.YtbhnpmkdmnnclaaDoorYAav
import Derived.Test.YtbhnpmkdmnnclaaDoorYAax
namespace Go.Proofs.YtbhnpmkdmnnclaaDoor
open Go.RowKit
set_option linter.unusedVariables false
set_option linter.unusedSimpArgs false
set_option maxRecDepth 100000

set_option maxHeartbeats 8000000 in
theorem arithUnits_no (D0 : Int) (s0 : Bool) (M0 E0 : Int) (b1 : Bool) (w : World) (hT : Tb w) (hm : decide (MayQ D0 s0 M0 E0) = false) :
    Calls Tryd.prog 9 #[.agg #[.int .i64 D0, .bool s0, .int .u64 M0, .int .i64 E0], .bool b1] w (PB w true) := by
  have HM := Lib.hid hm
  clear hm
  go_enter Tryd.func9, Tryd.ntmps9
  go_upto_region 1 with (fail)
  have X0 := (Bo.newAt w (g := w.heap.size) (by simp) #[.int .i64 D0, .bool s0, .int .u64 M0, .int .i64 E0] 24)
  have HB := Lib.hid (bel1 w (.cells #[.int .i64 D0, .bool s0, .int .u64 M0, .int .i64 E0] 24))
  replace hT := hT.below HB.out
  generalize hW1 : (w.alloc (.cells #[.int .i64 D0, .bool s0, .int .u64 M0, .int .i64 E0] 24)) = w1 at *
  clear hW1
  go_wp2_with fail
  refine (awake6 hT).mono ?_
  rintro ee w2 ⟨rfl, B⟩
  replace X0 := X0.below B
  replace hT := hT.below B
  replace HB := Lib.hid (bt HB.out B)
  clear B
  clear hT
  have xX00 := X0.at (i := 0) (v := .int .i64 D0) rfl
  have xX01 := X0.at (i := 1) (v := .bool s0) rfl
  have xX02 := X0.at (i := 2) (v := .int .u64 M0) rfl
  have xX03 := X0.at (i := 3) (v := .int .i64 E0) rfl
  go_wp2_with fail
  refine (nMay (r := false) HM.out).mono ?_
  rintro ee w3 ⟨rfl, B⟩
  clear xX00 xX01 xX02 xX03
  replace X0 := X0.below B
  replace HB := Lib.hid (bt HB.out B)
  clear B
  have xX00 := X0.at (i := 0) (v := .int .i64 D0) rfl
  have xX01 := X0.at (i := 1) (v := .bool s0) rfl
  have xX02 := X0.at (i := 2) (v := .int .u64 M0) rfl
  have xX03 := X0.at (i := 3) (v := .int .i64 E0) rfl
  go_wp2
  go_ret
  exact ⟨rfl, HB.out⟩
set_option maxHeartbeats 8000000 in
theorem arithUnits_far (s0 : Bool) (M0 E0 : Int) (b1 : Bool) (w : World) (hT : Tb w) (hm : decide (MayQ 1 s0 M0 E0) = true) (hE : 1048576 ≤ E0) :
    Calls Tryd.prog 9 #[.agg #[.int .i64 1, .bool s0, .int .u64 M0, .int .i64 E0], .bool b1] w (PB w true) := by
  have HM := Lib.hid hm
  clear hm
  go_enter Tryd.func9, Tryd.ntmps9
  go_upto_region 1 with (fail)
  have X0 := (Bo.newAt w (g := w.heap.size) (by simp) #[.int .i64 1, .bool s0, .int .u64 M0, .int .i64 E0] 24)
  have HB := Lib.hid (bel1 w (.cells #[.int .i64 1, .bool s0, .int .u64 M0, .int .i64 E0] 24))
  replace hT := hT.below HB.out
  generalize hW1 : (w.alloc (.cells #[.int .i64 1, .bool s0, .int .u64 M0, .int .i64 E0] 24)) = w1 at *
  clear hW1
  go_wp2_with fail
  refine (awake6 hT).mono ?_
  rintro ee w2 ⟨rfl, B⟩
  replace X0 := X0.below B
  replace hT := hT.below B
  replace HB := Lib.hid (bt HB.out B)
  clear B
  clear hT
  have xX00 := X0.at (i := 0) (v := .int .i64 1) rfl
  have xX01 := X0.at (i := 1) (v := .bool s0) rfl
  have xX02 := X0.at (i := 2) (v := .int .u64 M0) rfl
  have xX03 := X0.at (i := 3) (v := .int .i64 E0) rfl
  go_wp2_with fail
  refine (nMay (r := true) HM.out).mono ?_
  rintro ee w3 ⟨rfl, B⟩
  clear xX00 xX01 xX02 xX03
  replace X0 := X0.below B
  replace HB := Lib.hid (bt HB.out B)
  clear B
  have xX00 := X0.at (i := 0) (v := .int .i64 1) rfl
  have xX01 := X0.at (i := 1) (v := .bool s0) rfl
  have xX02 := X0.at (i := 2) (v := .int .u64 M0) rfl
  have xX03 := X0.at (i := 3) (v := .int .i64 E0) rfl
  go_wp2
  go_ret
  exact ⟨rfl, HB.out⟩
set_option maxHeartbeats 8000000 in
theorem arithUnits_m0 (s0 : Bool) (M0 E0 x : Int) (b1 : Bool) (w : World) (hT : Tb w) (q : Fq 0 s0 M0 E0 x) :
    Calls Tryd.prog 9 #[.agg #[.int .i64 0, .bool s0, .int .u64 M0, .int .i64 E0], .bool b1] w (PB w true) := by
  have bx := q.bd
  obtain ⟨o1, ho1⟩ : ∃ o, opl 1 = o := ⟨_, rfl⟩
  have hone : mulp b1 x o1 = x := by rw [← ho1]; exact mulp_one b1 bx.1 bx.2
  have HO1 : Hid (sgi (decide ((1 : Int) < 0)) (lo (1 : Int).natAbs 0) = o1) := Lib.hid ho1
  obtain ⟨t, ht⟩ : ∃ t, mulp b1 x (opl 2) = t := ⟨_, rfl⟩
  have hh : mulp b1 t hlf = x := by rw [← ht]; exact unit_twice q (by intro h; first | omega | exact absurd h (by decide)) b1
  have HONE := Lib.hid hone
  have HT2 := Lib.hid ht
  have HH := Lib.hid hh
  have HZ : Hid (addp b1 x 0 = x) := Lib.hid (addp_zero b1 bx.1 bx.2)
  have HMZ : Hid (mulp b1 x 0 = 0) := Lib.hid (mulp_zero b1 (.inr rfl))
  have HM := Lib.hid (decide_eq_true q.1)
  have hfin : infp x = false := by rw [fq_inf q]; rfl
  obtain ⟨f1, f2⟩ := infp_false bx.1 bx.2 hfin
  obtain ⟨x2, hx2⟩ : ∃ y, -x = y := ⟨_, rfl⟩
  have HS : Hid (addp b1 x x2 = 0) := Lib.hid (by rw [← hx2]; exact addp_self b1 f1 f2)
  have HNX : Hid (-rk 0 s0 M0 E0 = x2) := Lib.hid (by rw [q.rk, hx2])
  clear hfin f1 f2 hx2
  clear bx ho1 hone ht hh
  go_enter Tryd.func9, Tryd.ntmps9
  go_upto_region 1 with (fail)
  have X0 := (Bo.newAt w (g := w.heap.size) (by simp) #[.int .i64 0, .bool s0, .int .u64 M0, .int .i64 E0] 24)
  have HB := Lib.hid (bel1 w (.cells #[.int .i64 0, .bool s0, .int .u64 M0, .int .i64 E0] 24))
  replace hT := hT.below HB.out
  generalize hW1 : (w.alloc (.cells #[.int .i64 0, .bool s0, .int .u64 M0, .int .i64 E0] 24)) = w1 at *
  clear hW1
  go_wp2_with fail
  refine (awake6 hT).mono ?_
  rintro ee w2 ⟨rfl, B⟩
  replace X0 := X0.below B
  replace hT := hT.below B
  replace HB := Lib.hid (bt HB.out B)
  clear B
  have xX00 := X0.at (i := 0) (v := .int .i64 0) rfl
  have xX01 := X0.at (i := 1) (v := .bool s0) rfl
  have xX02 := X0.at (i := 2) (v := .int .u64 M0) rfl
  have xX03 := X0.at (i := 3) (v := .int .i64 E0) rfl
  go_wp2_with fail
  refine (nMay (r := true) HM.out).mono ?_
  rintro ee w3 ⟨rfl, B⟩
  clear xX00 xX01 xX02 xX03
  replace X0 := X0.below B
  replace hT := hT.below B
  replace HB := Lib.hid (bt HB.out B)
  clear B
  have xX00 := X0.at (i := 0) (v := .int .i64 0) rfl
  have xX01 := X0.at (i := 1) (v := .bool s0) rfl
  have xX02 := X0.at (i := 2) (v := .int .u64 M0) rfl
  have xX03 := X0.at (i := 3) (v := .int .i64 E0) rfl
  go_upto_region 5 with (fail)
  clear xX00 xX01 xX02 xX03
  have lX6 := Nat.le_refl (World.heap w3).size
  have nX6X0 := X0.lt
  replace X0 := X0.below (bel1 _ (.cells #[.int .i64 0, .bool false, .int .u64 0, .int .i64 0] 24))
  replace hT := hT.below (bel1 _ (.cells #[.int .i64 0, .bool false, .int .u64 0, .int .i64 0] 24))
  replace HB := Lib.hid (bt HB.out (bel1 _ (.cells #[.int .i64 0, .bool false, .int .u64 0, .int .i64 0] 24)))
  have X6 := Bo.new w3 #[.int .i64 0, .bool false, .int .u64 0, .int .i64 0] 24
  generalize hWn : World.alloc w3 (.cells #[.int .i64 0, .bool false, .int .u64 0, .int .i64 0] 24) = w4 at *
  clear hWn
  clear lX6
  refine Jo.region_joint (T := [0, 1, 2, 3, 4, 5, 6, 7, 8, 9, 10]) (ds := [some 23, some 24, some 25, some 26, some 27, some 28, some 29, some 30, some 31, some 32, some 33]) (ls := [[], [0], [1], [2], [3], [3], [3], [3, 4, 5, 6], [3], [3, 7, 8], [3, 9]]) (k := 11) (L := [(some 23, 0), (some 24, 1), (some 25, 2), (some 26, 3), (some 27, 4), (some 28, 5), (some 29, 6), (some 30, 7), (some 31, 8), (some 32, 9), (some 33, 10)]) (fuel := 0) (J := fun wj => Below (World.heap w4).size w4 wj)
    (F := [Jo.Fact.eq (.pointer (some ⟨w.heap.size, 0, none⟩)), Jo.Fact.eq (.int .i64 0), Jo.Fact.eq (.bool true), Jo.Fact.eq (.bool true), Jo.Fact.eq (.agg #[.int .i64 0, .bool s0, .int .u64 M0, .int .i64 E0]), Jo.Fact.eq (.agg #[.int .i64 0, .bool s0, .int .u64 M0, .int .i64 E0]), Jo.Fact.eq (.bool b1), Jo.Fact.num 0, Jo.Fact.eq (.agg #[.int .i64 0, .bool false, .int .u64 0, .int .i64 0]), Jo.Fact.eq (.bool false), Jo.Fact.eq (.bool false)])
    (by kernel_rfl) (by kernel_rfl) (by decide) rfl rfl (fun _ _ h b => bt h b) ((Below.refl _ _).drew) ?_ (fun vs w5 hJ hd => ?_)
  · refine Jo.jcons (i := 0) (o := ⟨some 23, _, _, _, _, _⟩) (di := some 23) (L := []) (f := Jo.Fact.eq (.pointer (some ⟨w.heap.size, 0, none⟩))) rfl rfl rfl rfl (fun vs wj hJ hd K hK => ?_) ?_
    · clear hd
      simp only [Jo.putl, List.foldl_nil, Act.put, List.setIfInBounds_toArray, List.set_cons_zero, List.set_cons_succ] at hK ⊢
      go_simp
      exact hK.out _ _ rfl (Below.refl _ _)
    refine Jo.jcons (i := 1) (o := ⟨some 24, _, _, _, _, _⟩) (di := some 24) (L := [(some 23, 0)]) (f := Jo.Fact.eq (.int .i64 0)) rfl rfl rfl rfl (fun vs wj hJ hd K hK => ?_) ?_
    · have d0 : (Jo.Fact.eq (.pointer (some ⟨w.heap.size, 0, none⟩))).P (vs 0) wj := hd 0 (by decide)
      clear hd
      simp only [Jo.putl, List.foldl_cons, List.foldl_nil, Act.put, List.setIfInBounds_toArray, List.set_cons_zero, List.set_cons_succ] at hK ⊢
      generalize vs 0 = u0 at hK d0 ⊢
      replace d0 : u0 = _ := d0
      subst d0
      have xX00 : World.cell? wj ⟨w.heap.size, 0, none⟩ = some (.int .i64 0) := (X0.below hJ).cell 0
      have xX01 : World.cell? wj ⟨w.heap.size, 1, none⟩ = some (.bool s0) := (X0.below hJ).cell 1
      have xX02 : World.cell? wj ⟨w.heap.size, 2, none⟩ = some (.int .u64 M0) := (X0.below hJ).cell 2
      have xX03 : World.cell? wj ⟨w.heap.size, 3, none⟩ = some (.int .i64 E0) := (X0.below hJ).cell 3
      go_simp
      exact hK.out _ _ rfl (Below.refl _ _)
    refine Jo.jcons (i := 2) (o := ⟨some 25, _, _, _, _, _⟩) (di := some 25) (L := [(some 24, 1)]) (f := Jo.Fact.eq (.bool true)) rfl rfl rfl rfl (fun vs wj hJ hd K hK => ?_) ?_
    · have d1 : (Jo.Fact.eq (.int .i64 0)).P (vs 1) wj := hd 1 (by decide)
      clear hd
      simp only [Jo.putl, List.foldl_cons, List.foldl_nil, Act.put, List.setIfInBounds_toArray, List.set_cons_zero, List.set_cons_succ] at hK ⊢
      generalize vs 1 = u1 at hK d1 ⊢
      replace d1 : u1 = _ := d1
      subst d1
      go_simp
      exact hK.out _ _ (by first | rfl | (show Value.bool _ = Value.bool _; simp)) (Below.refl _ _)
    refine Jo.jcons (i := 3) (o := ⟨some 26, _, _, _, _, _⟩) (di := some 26) (L := [(some 25, 2)]) (f := Jo.Fact.eq (.bool true)) rfl rfl rfl rfl (fun vs wj hJ hd K hK => ?_) ?_
    · have d2 : (Jo.Fact.eq (.bool true)).P (vs 2) wj := hd 2 (by decide)
      clear hd
      simp only [Jo.putl, List.foldl_cons, List.foldl_nil, Act.put, List.setIfInBounds_toArray, List.set_cons_zero, List.set_cons_succ] at hK ⊢
      generalize vs 2 = u2 at hK d2 ⊢
      replace d2 : u2 = _ := d2
      subst d2
      go_simp
      exact hK.out _ _ rfl (Below.refl _ _)
    refine Jo.jcons (i := 4) (o := ⟨some 27, _, _, _, _, _⟩) (di := some 27) (L := [(some 26, 3)]) (f := Jo.Fact.eq (.agg #[.int .i64 0, .bool s0, .int .u64 M0, .int .i64 E0])) rfl rfl rfl rfl (fun vs wj hJ hd K hK => ?_) ?_
    · have d3 : (Jo.Fact.eq (.bool true)).P (vs 3) wj := hd 3 (by decide)
      clear hd
      simp only [Jo.putl, List.foldl_cons, List.foldl_nil, Act.put, List.setIfInBounds_toArray, List.set_cons_zero, List.set_cons_succ] at hK ⊢
      generalize vs 3 = u3 at hK d3 ⊢
      replace d3 : u3 = _ := d3
      subst d3
      have xX00 : World.cell? wj ⟨w.heap.size, 0, none⟩ = some (.int .i64 0) := (X0.below hJ).cell 0
      have xX01 : World.cell? wj ⟨w.heap.size, 1, none⟩ = some (.bool s0) := (X0.below hJ).cell 1
      have xX02 : World.cell? wj ⟨w.heap.size, 2, none⟩ = some (.int .u64 M0) := (X0.below hJ).cell 2
      have xX03 : World.cell? wj ⟨w.heap.size, 3, none⟩ = some (.int .i64 E0) := (X0.below hJ).cell 3
      go_simp
      exact hK.out _ _ rfl (Below.refl _ _)
    refine Jo.jcons (i := 5) (o := ⟨some 28, _, _, _, _, _⟩) (di := some 28) (L := [(some 26, 3)]) (f := Jo.Fact.eq (.agg #[.int .i64 0, .bool s0, .int .u64 M0, .int .i64 E0])) rfl rfl rfl rfl (fun vs wj hJ hd K hK => ?_) ?_
    · have d3 : (Jo.Fact.eq (.bool true)).P (vs 3) wj := hd 3 (by decide)
      clear hd
      simp only [Jo.putl, List.foldl_cons, List.foldl_nil, Act.put, List.setIfInBounds_toArray, List.set_cons_zero, List.set_cons_succ] at hK ⊢
      generalize vs 3 = u3 at hK d3 ⊢
      replace d3 : u3 = _ := d3
      subst d3
      have xX00 : World.cell? wj ⟨w.heap.size, 0, none⟩ = some (.int .i64 0) := (X0.below hJ).cell 0
      have xX01 : World.cell? wj ⟨w.heap.size, 1, none⟩ = some (.bool s0) := (X0.below hJ).cell 1
      have xX02 : World.cell? wj ⟨w.heap.size, 2, none⟩ = some (.int .u64 M0) := (X0.below hJ).cell 2
      have xX03 : World.cell? wj ⟨w.heap.size, 3, none⟩ = some (.int .i64 E0) := (X0.below hJ).cell 3
      go_simp
      exact hK.out _ _ rfl (Below.refl _ _)
    refine Jo.jcons (i := 6) (o := ⟨some 29, _, _, _, _, _⟩) (di := some 29) (L := [(some 26, 3)]) (f := Jo.Fact.eq (.bool b1)) rfl rfl rfl rfl (fun vs wj hJ hd K hK => ?_) ?_
    · have d3 : (Jo.Fact.eq (.bool true)).P (vs 3) wj := hd 3 (by decide)
      clear hd
      simp only [Jo.putl, List.foldl_cons, List.foldl_nil, Act.put, List.setIfInBounds_toArray, List.set_cons_zero, List.set_cons_succ] at hK ⊢
      generalize vs 3 = u3 at hK d3 ⊢
      replace d3 : u3 = _ := d3
      subst d3
      go_simp
      exact hK.out _ _ rfl (Below.refl _ _)
    refine Jo.jcons (i := 7) (o := ⟨some 30, _, _, _, _, _⟩) (di := some 30) (L := [(some 26, 3), (some 27, 4), (some 28, 5), (some 29, 6)]) (f := Jo.Fact.num 0) rfl rfl rfl rfl (fun vs wj hJ hd K hK => ?_) ?_
    · have d3 : (Jo.Fact.eq (.bool true)).P (vs 3) wj := hd 3 (by decide)
      have d4 : (Jo.Fact.eq (.agg #[.int .i64 0, .bool s0, .int .u64 M0, .int .i64 E0])).P (vs 4) wj := hd 4 (by decide)
      have d5 : (Jo.Fact.eq (.agg #[.int .i64 0, .bool s0, .int .u64 M0, .int .i64 E0])).P (vs 5) wj := hd 5 (by decide)
      have d6 : (Jo.Fact.eq (.bool b1)).P (vs 6) wj := hd 6 (by decide)
      clear hd
      simp only [Jo.putl, List.foldl_cons, List.foldl_nil, Act.put, List.setIfInBounds_toArray, List.set_cons_zero, List.set_cons_succ] at hK ⊢
      generalize vs 3 = u3 at hK d3 ⊢
      generalize vs 4 = u4 at hK d4 ⊢
      generalize vs 5 = u5 at hK d5 ⊢
      generalize vs 6 = u6 at hK d6 ⊢
      replace d3 : u3 = _ := d3
      subst d3
      replace d4 : u4 = _ := d4
      subst d4
      replace d5 : u5 = _ := d5
      subst d5
      replace d6 : u6 = _ := d6
      subst d6
      go_simp
      refine (aSub (hT.below hJ) q.top q.top q.rk HNX.out HS.out).mono ?_
      rintro ee wk ⟨K3, s3, M3, E3, rfl, q3, B⟩
      exact hK.out _ _ ⟨K3, s3, M3, E3, rfl, q3⟩ B
    refine Jo.jcons (i := 8) (o := ⟨some 31, _, _, _, _, _⟩) (di := some 31) (L := [(some 26, 3)]) (f := Jo.Fact.eq (.agg #[.int .i64 0, .bool false, .int .u64 0, .int .i64 0])) rfl rfl rfl rfl (fun vs wj hJ hd K hK => ?_) ?_
    · have d3 : (Jo.Fact.eq (.bool true)).P (vs 3) wj := hd 3 (by decide)
      clear hd
      simp only [Jo.putl, List.foldl_cons, List.foldl_nil, Act.put, List.setIfInBounds_toArray, List.set_cons_zero, List.set_cons_succ] at hK ⊢
      generalize vs 3 = u3 at hK d3 ⊢
      replace d3 : u3 = _ := d3
      subst d3
      have xX60 : World.cell? wj ⟨w3.heap.size, 0, none⟩ = some (.int .i64 0) := (X6.below hJ).cell 0
      have xX61 : World.cell? wj ⟨w3.heap.size, 1, none⟩ = some (.bool false) := (X6.below hJ).cell 1
      have xX62 : World.cell? wj ⟨w3.heap.size, 2, none⟩ = some (.int .u64 0) := (X6.below hJ).cell 2
      have xX63 : World.cell? wj ⟨w3.heap.size, 3, none⟩ = some (.int .i64 0) := (X6.below hJ).cell 3
      go_simp
      exact hK.out _ _ rfl (Below.refl _ _)
    refine Jo.jcons (i := 9) (o := ⟨some 32, _, _, _, _, _⟩) (di := some 32) (L := [(some 26, 3), (some 30, 7), (some 31, 8)]) (f := Jo.Fact.eq (.bool false)) rfl rfl rfl rfl (fun vs wj hJ hd K hK => ?_) ?_
    · have d3 : (Jo.Fact.eq (.bool true)).P (vs 3) wj := hd 3 (by decide)
      have d7 : (Jo.Fact.num 0).P (vs 7) wj := hd 7 (by decide)
      have d8 : (Jo.Fact.eq (.agg #[.int .i64 0, .bool false, .int .u64 0, .int .i64 0])).P (vs 8) wj := hd 8 (by decide)
      clear hd
      simp only [Jo.putl, List.foldl_cons, List.foldl_nil, Act.put, List.setIfInBounds_toArray, List.set_cons_zero, List.set_cons_succ] at hK ⊢
      generalize vs 3 = u3 at hK d3 ⊢
      generalize vs 7 = u7 at hK d7 ⊢
      generalize vs 8 = u8 at hK d8 ⊢
      replace d3 : u3 = _ := d3
      subst d3
      obtain ⟨K3, s3, M3, E3, rfl, q3⟩ := d7
      replace d8 : u8 = _ := d8
      subst d8
      obtain ⟨rfl, rfl, rfl, rfl⟩ := q3.uniq Fq.nought
      go_simp
      exact hK.out _ _ (by first | rfl | (show Value.bool _ = Value.bool _; simp)) (Below.refl _ _)
    refine Jo.jcons (i := 10) (o := ⟨some 33, _, _, _, _, _⟩) (di := some 33) (L := [(some 26, 3), (some 32, 9)]) (f := Jo.Fact.eq (.bool false)) rfl rfl rfl rfl (fun vs wj hJ hd K hK => ?_) ?_
    · have d3 : (Jo.Fact.eq (.bool true)).P (vs 3) wj := hd 3 (by decide)
      have d9 : (Jo.Fact.eq (.bool false)).P (vs 9) wj := hd 9 (by decide)
      clear hd
      simp only [Jo.putl, List.foldl_cons, List.foldl_nil, Act.put, List.setIfInBounds_toArray, List.set_cons_zero, List.set_cons_succ] at hK ⊢
      generalize vs 3 = u3 at hK d3 ⊢
      generalize vs 9 = u9 at hK d9 ⊢
      replace d3 : u3 = _ := d3
      subst d3
      replace d9 : u9 = _ := d9
      subst d9
      go_simp
      exact hK.out _ _ rfl (Below.refl _ _)
    exact Jo.Steps.nil
  have d0 : (Jo.Fact.eq (.pointer (some ⟨w.heap.size, 0, none⟩))).P (vs 0) w5 := hd 0 (by decide)
  have d1 : (Jo.Fact.eq (.int .i64 0)).P (vs 1) w5 := hd 1 (by decide)
  have d2 : (Jo.Fact.eq (.bool true)).P (vs 2) w5 := hd 2 (by decide)
  have d3 : (Jo.Fact.eq (.bool true)).P (vs 3) w5 := hd 3 (by decide)
  have d4 : (Jo.Fact.eq (.agg #[.int .i64 0, .bool s0, .int .u64 M0, .int .i64 E0])).P (vs 4) w5 := hd 4 (by decide)
  have d5 : (Jo.Fact.eq (.agg #[.int .i64 0, .bool s0, .int .u64 M0, .int .i64 E0])).P (vs 5) w5 := hd 5 (by decide)
  have d6 : (Jo.Fact.eq (.bool b1)).P (vs 6) w5 := hd 6 (by decide)
  have d7 : (Jo.Fact.num 0).P (vs 7) w5 := hd 7 (by decide)
  have d8 : (Jo.Fact.eq (.agg #[.int .i64 0, .bool false, .int .u64 0, .int .i64 0])).P (vs 8) w5 := hd 8 (by decide)
  have d9 : (Jo.Fact.eq (.bool false)).P (vs 9) w5 := hd 9 (by decide)
  have d10 : (Jo.Fact.eq (.bool false)).P (vs 10) w5 := hd 10 (by decide)
  clear hd
  simp only [Jo.putl, List.foldl_cons, List.foldl_nil, Act.put, List.setIfInBounds_toArray, List.set_cons_zero, List.set_cons_succ]
  generalize vs 0 = u0 at d0 ⊢
  generalize vs 1 = u1 at d1 ⊢
  generalize vs 2 = u2 at d2 ⊢
  generalize vs 3 = u3 at d3 ⊢
  generalize vs 4 = u4 at d4 ⊢
  generalize vs 5 = u5 at d5 ⊢
  generalize vs 6 = u6 at d6 ⊢
  generalize vs 7 = u7 at d7 ⊢
  generalize vs 8 = u8 at d8 ⊢
  generalize vs 9 = u9 at d9 ⊢
  generalize vs 10 = u10 at d10 ⊢
  clear vs
  replace d0 : u0 = _ := d0
  subst d0
  replace d1 : u1 = _ := d1
  subst d1
  replace d2 : u2 = _ := d2
  subst d2
  replace d3 : u3 = _ := d3
  subst d3
  replace d4 : u4 = _ := d4
  subst d4
  replace d5 : u5 = _ := d5
  subst d5
  replace d6 : u6 = _ := d6
  subst d6
  obtain ⟨K3, s3, M3, E3, rfl, _⟩ := d7
  replace d8 : u8 = _ := d8
  subst d8
  replace d9 : u9 = _ := d9
  subst d9
  replace d10 : u10 = _ := d10
  subst d10
  replace X0 := X0.below hJ
  replace X6 := X6.below hJ
  replace hT := hT.below hJ
  replace HB := Lib.hid (bt HB.out hJ)
  refine Jo.jdone (by kernel_rfl) ?_
  go_upto_region 7 with (fail)
  refine Jo.region_joint (T := [0, 1, 2, 3, 4, 5, 6, 7, 8, 9, 10, 11, 12, 13, 14, 15, 16, 17, 18, 19, 20, 21, 22, 23, 24, 25, 26, 27, 28, 29, 30, 31, 32, 33, 34]) (ds := [some 34, some 35, some 36, some 37, some 38, some 39, some 40, some 41, some 42, some 43, some 44, some 45, some 46, some 47, some 48, some 49, some 50, some 51, some 52, some 53, some 54, some 55, some 56, some 57, some 58, some 59, some 60, some 61, some 62, some 63, some 64, some 65, some 66, some 67, some 4]) (ls := [[], [0], [1], [1], [1], [1, 2, 3, 4], [1], [1, 5, 6], [1, 7], [8], [9], [9], [9], [9, 10, 11, 12], [9], [9, 13, 14], [9, 15], [16], [17], [17], [17], [17, 18, 19, 20], [17], [17, 21, 22], [17, 23], [24], [25], [25], [25, 26, 27], [25], [25, 28, 29], [25], [25, 30, 31], [25, 32], [33]]) (k := 35) (L := [(some 34, 0), (some 35, 1), (some 36, 2), (some 37, 3), (some 38, 4), (some 39, 5), (some 40, 6), (some 41, 7), (some 42, 8), (some 43, 9), (some 44, 10), (some 45, 11), (some 46, 12), (some 47, 13), (some 48, 14), (some 49, 15), (some 50, 16), (some 51, 17), (some 52, 18), (some 53, 19), (some 54, 20), (some 55, 21), (some 56, 22), (some 57, 23), (some 58, 24), (some 59, 25), (some 60, 26), (some 61, 27), (some 62, 28), (some 63, 29), (some 64, 30), (some 65, 31), (some 66, 32), (some 67, 33), (some 4, 34)]) (fuel := 0) (J := fun wj => Below (World.heap w5).size w5 wj)
    (F := [Jo.Fact.eq (.bool true), Jo.Fact.eq (.bool true), Jo.Fact.eq (.agg #[.int .i64 0, .bool s0, .int .u64 M0, .int .i64 E0]), Jo.Fact.eq (.agg #[.int .i64 0, .bool false, .int .u64 0, .int .i64 0]), Jo.Fact.eq (.bool b1), Jo.Fact.num x, Jo.Fact.eq (.agg #[.int .i64 0, .bool s0, .int .u64 M0, .int .i64 E0]), Jo.Fact.eq (.bool true), Jo.Fact.eq (.bool true), Jo.Fact.eq (.bool true), Jo.Fact.eq (.agg #[.int .i64 0, .bool s0, .int .u64 M0, .int .i64 E0]), Jo.Fact.num o1, Jo.Fact.eq (.bool b1), Jo.Fact.num x, Jo.Fact.eq (.agg #[.int .i64 0, .bool s0, .int .u64 M0, .int .i64 E0]), Jo.Fact.eq (.bool true), Jo.Fact.eq (.bool true), Jo.Fact.eq (.bool true), Jo.Fact.eq (.agg #[.int .i64 0, .bool s0, .int .u64 M0, .int .i64 E0]), Jo.Fact.eq (.agg #[.int .i64 0, .bool false, .int .u64 0, .int .i64 0]), Jo.Fact.eq (.bool b1), Jo.Fact.num 0, Jo.Fact.eq (.agg #[.int .i64 0, .bool false, .int .u64 0, .int .i64 0]), Jo.Fact.eq (.bool true), Jo.Fact.eq (.bool true), Jo.Fact.eq (.bool true), Jo.Fact.eq (.agg #[.int .i64 0, .bool s0, .int .u64 M0, .int .i64 E0]), Jo.Fact.eq (.bool b1), Jo.Fact.num t, Jo.Fact.eq (.bool b1), Jo.Fact.num x, Jo.Fact.eq (.agg #[.int .i64 0, .bool s0, .int .u64 M0, .int .i64 E0]), Jo.Fact.eq (.bool true), Jo.Fact.eq (.bool true), Jo.Fact.eq (.bool true)])
    (by kernel_rfl) (by kernel_rfl) (by decide) rfl rfl (fun _ _ h b => bt h b) ((Below.refl _ _).drew) ?_ (fun vs w6 hJ hd => ?_)
  · refine Jo.jcons (i := 0) (o := ⟨some 34, _, _, _, _, _⟩) (di := some 34) (L := []) (f := Jo.Fact.eq (.bool true)) rfl rfl rfl rfl (fun vs wj hJ hd K hK => ?_) ?_
    · clear hd
      simp only [Jo.putl, List.foldl_nil, Act.put, List.setIfInBounds_toArray, List.set_cons_zero, List.set_cons_succ] at hK ⊢
      go_simp
      exact hK.out _ _ rfl (Below.refl _ _)
    refine Jo.jcons (i := 1) (o := ⟨some 35, _, _, _, _, _⟩) (di := some 35) (L := [(some 34, 0)]) (f := Jo.Fact.eq (.bool true)) rfl rfl rfl rfl (fun vs wj hJ hd K hK => ?_) ?_
    · have d0 : (Jo.Fact.eq (.bool true)).P (vs 0) wj := hd 0 (by decide)
      clear hd
      simp only [Jo.putl, List.foldl_cons, List.foldl_nil, Act.put, List.setIfInBounds_toArray, List.set_cons_zero, List.set_cons_succ] at hK ⊢
      generalize vs 0 = u0 at hK d0 ⊢
      replace d0 : u0 = _ := d0
      subst d0
      go_simp
      exact hK.out _ _ rfl (Below.refl _ _)
    refine Jo.jcons (i := 2) (o := ⟨some 36, _, _, _, _, _⟩) (di := some 36) (L := [(some 35, 1)]) (f := Jo.Fact.eq (.agg #[.int .i64 0, .bool s0, .int .u64 M0, .int .i64 E0])) rfl rfl rfl rfl (fun vs wj hJ hd K hK => ?_) ?_
    · have d1 : (Jo.Fact.eq (.bool true)).P (vs 1) wj := hd 1 (by decide)
      clear hd
      simp only [Jo.putl, List.foldl_cons, List.foldl_nil, Act.put, List.setIfInBounds_toArray, List.set_cons_zero, List.set_cons_succ] at hK ⊢
      generalize vs 1 = u1 at hK d1 ⊢
      replace d1 : u1 = _ := d1
      subst d1
      have xX00 : World.cell? wj ⟨w.heap.size, 0, none⟩ = some (.int .i64 0) := (X0.below hJ).cell 0
      have xX01 : World.cell? wj ⟨w.heap.size, 1, none⟩ = some (.bool s0) := (X0.below hJ).cell 1
      have xX02 : World.cell? wj ⟨w.heap.size, 2, none⟩ = some (.int .u64 M0) := (X0.below hJ).cell 2
      have xX03 : World.cell? wj ⟨w.heap.size, 3, none⟩ = some (.int .i64 E0) := (X0.below hJ).cell 3
      go_simp
      exact hK.out _ _ rfl (Below.refl _ _)
    refine Jo.jcons (i := 3) (o := ⟨some 37, _, _, _, _, _⟩) (di := some 37) (L := [(some 35, 1)]) (f := Jo.Fact.eq (.agg #[.int .i64 0, .bool false, .int .u64 0, .int .i64 0])) rfl rfl rfl rfl (fun vs wj hJ hd K hK => ?_) ?_
    · have d1 : (Jo.Fact.eq (.bool true)).P (vs 1) wj := hd 1 (by decide)
      clear hd
      simp only [Jo.putl, List.foldl_cons, List.foldl_nil, Act.put, List.setIfInBounds_toArray, List.set_cons_zero, List.set_cons_succ] at hK ⊢
      generalize vs 1 = u1 at hK d1 ⊢
      replace d1 : u1 = _ := d1
      subst d1
      have xX60 : World.cell? wj ⟨w3.heap.size, 0, none⟩ = some (.int .i64 0) := (X6.below hJ).cell 0
      have xX61 : World.cell? wj ⟨w3.heap.size, 1, none⟩ = some (.bool false) := (X6.below hJ).cell 1
      have xX62 : World.cell? wj ⟨w3.heap.size, 2, none⟩ = some (.int .u64 0) := (X6.below hJ).cell 2
      have xX63 : World.cell? wj ⟨w3.heap.size, 3, none⟩ = some (.int .i64 0) := (X6.below hJ).cell 3
      go_simp
      exact hK.out _ _ rfl (Below.refl _ _)
    refine Jo.jcons (i := 4) (o := ⟨some 38, _, _, _, _, _⟩) (di := some 38) (L := [(some 35, 1)]) (f := Jo.Fact.eq (.bool b1)) rfl rfl rfl rfl (fun vs wj hJ hd K hK => ?_) ?_
    · have d1 : (Jo.Fact.eq (.bool true)).P (vs 1) wj := hd 1 (by decide)
      clear hd
      simp only [Jo.putl, List.foldl_cons, List.foldl_nil, Act.put, List.setIfInBounds_toArray, List.set_cons_zero, List.set_cons_succ] at hK ⊢
      generalize vs 1 = u1 at hK d1 ⊢
      replace d1 : u1 = _ := d1
      subst d1
      go_simp
      exact hK.out _ _ rfl (Below.refl _ _)
    refine Jo.jcons (i := 5) (o := ⟨some 39, _, _, _, _, _⟩) (di := some 39) (L := [(some 35, 1), (some 36, 2), (some 37, 3), (some 38, 4)]) (f := Jo.Fact.num x) rfl rfl rfl rfl (fun vs wj hJ hd K hK => ?_) ?_
    · have d1 : (Jo.Fact.eq (.bool true)).P (vs 1) wj := hd 1 (by decide)
      have d2 : (Jo.Fact.eq (.agg #[.int .i64 0, .bool s0, .int .u64 M0, .int .i64 E0])).P (vs 2) wj := hd 2 (by decide)
      have d3 : (Jo.Fact.eq (.agg #[.int .i64 0, .bool false, .int .u64 0, .int .i64 0])).P (vs 3) wj := hd 3 (by decide)
      have d4 : (Jo.Fact.eq (.bool b1)).P (vs 4) wj := hd 4 (by decide)
      clear hd
      simp only [Jo.putl, List.foldl_cons, List.foldl_nil, Act.put, List.setIfInBounds_toArray, List.set_cons_zero, List.set_cons_succ] at hK ⊢
      generalize vs 1 = u1 at hK d1 ⊢
      generalize vs 2 = u2 at hK d2 ⊢
      generalize vs 3 = u3 at hK d3 ⊢
      generalize vs 4 = u4 at hK d4 ⊢
      replace d1 : u1 = _ := d1
      subst d1
      replace d2 : u2 = _ := d2
      subst d2
      replace d3 : u3 = _ := d3
      subst d3
      replace d4 : u4 = _ := d4
      subst d4
      go_simp
      refine (aAdd (hT.below hJ) q.top Fq.nought.top q.rk Fq.nought.rk HZ.out).mono ?_
      rintro ee wk ⟨K4, s4, M4, E4, rfl, q4, B⟩
      exact hK.out _ _ ⟨K4, s4, M4, E4, rfl, q4⟩ B
    refine Jo.jcons (i := 6) (o := ⟨some 40, _, _, _, _, _⟩) (di := some 40) (L := [(some 35, 1)]) (f := Jo.Fact.eq (.agg #[.int .i64 0, .bool s0, .int .u64 M0, .int .i64 E0])) rfl rfl rfl rfl (fun vs wj hJ hd K hK => ?_) ?_
    · have d1 : (Jo.Fact.eq (.bool true)).P (vs 1) wj := hd 1 (by decide)
      clear hd
      simp only [Jo.putl, List.foldl_cons, List.foldl_nil, Act.put, List.setIfInBounds_toArray, List.set_cons_zero, List.set_cons_succ] at hK ⊢
      generalize vs 1 = u1 at hK d1 ⊢
      replace d1 : u1 = _ := d1
      subst d1
      have xX00 : World.cell? wj ⟨w.heap.size, 0, none⟩ = some (.int .i64 0) := (X0.below hJ).cell 0
      have xX01 : World.cell? wj ⟨w.heap.size, 1, none⟩ = some (.bool s0) := (X0.below hJ).cell 1
      have xX02 : World.cell? wj ⟨w.heap.size, 2, none⟩ = some (.int .u64 M0) := (X0.below hJ).cell 2
      have xX03 : World.cell? wj ⟨w.heap.size, 3, none⟩ = some (.int .i64 E0) := (X0.below hJ).cell 3
      go_simp
      exact hK.out _ _ rfl (Below.refl _ _)
    refine Jo.jcons (i := 7) (o := ⟨some 41, _, _, _, _, _⟩) (di := some 41) (L := [(some 35, 1), (some 39, 5), (some 40, 6)]) (f := Jo.Fact.eq (.bool true)) rfl rfl rfl rfl (fun vs wj hJ hd K hK => ?_) ?_
    · have d1 : (Jo.Fact.eq (.bool true)).P (vs 1) wj := hd 1 (by decide)
      have d5 : (Jo.Fact.num x).P (vs 5) wj := hd 5 (by decide)
      have d6 : (Jo.Fact.eq (.agg #[.int .i64 0, .bool s0, .int .u64 M0, .int .i64 E0])).P (vs 6) wj := hd 6 (by decide)
      clear hd
      simp only [Jo.putl, List.foldl_cons, List.foldl_nil, Act.put, List.setIfInBounds_toArray, List.set_cons_zero, List.set_cons_succ] at hK ⊢
      generalize vs 1 = u1 at hK d1 ⊢
      generalize vs 5 = u5 at hK d5 ⊢
      generalize vs 6 = u6 at hK d6 ⊢
      replace d1 : u1 = _ := d1
      subst d1
      obtain ⟨K4, s4, M4, E4, rfl, q4⟩ := d5
      replace d6 : u6 = _ := d6
      subst d6
      obtain ⟨rfl, rfl, rfl, rfl⟩ := q4.uniq q
      go_simp
      exact hK.out _ _ (by first | rfl | (show Value.bool _ = Value.bool _; simp)) (Below.refl _ _)
    refine Jo.jcons (i := 8) (o := ⟨some 42, _, _, _, _, _⟩) (di := some 42) (L := [(some 35, 1), (some 41, 7)]) (f := Jo.Fact.eq (.bool true)) rfl rfl rfl rfl (fun vs wj hJ hd K hK => ?_) ?_
    · have d1 : (Jo.Fact.eq (.bool true)).P (vs 1) wj := hd 1 (by decide)
      have d7 : (Jo.Fact.eq (.bool true)).P (vs 7) wj := hd 7 (by decide)
      clear hd
      simp only [Jo.putl, List.foldl_cons, List.foldl_nil, Act.put, List.setIfInBounds_toArray, List.set_cons_zero, List.set_cons_succ] at hK ⊢
      generalize vs 1 = u1 at hK d1 ⊢
      generalize vs 7 = u7 at hK d7 ⊢
      replace d1 : u1 = _ := d1
      subst d1
      replace d7 : u7 = _ := d7
      subst d7
      go_simp
      exact hK.out _ _ rfl (Below.refl _ _)
    refine Jo.jcons (i := 9) (o := ⟨some 43, _, _, _, _, _⟩) (di := some 43) (L := [(some 42, 8)]) (f := Jo.Fact.eq (.bool true)) rfl rfl rfl rfl (fun vs wj hJ hd K hK => ?_) ?_
    · have d8 : (Jo.Fact.eq (.bool true)).P (vs 8) wj := hd 8 (by decide)
      clear hd
      simp only [Jo.putl, List.foldl_cons, List.foldl_nil, Act.put, List.setIfInBounds_toArray, List.set_cons_zero, List.set_cons_succ] at hK ⊢
      generalize vs 8 = u8 at hK d8 ⊢
      replace d8 : u8 = _ := d8
      subst d8
      go_simp
      exact hK.out _ _ rfl (Below.refl _ _)
    refine Jo.jcons (i := 10) (o := ⟨some 44, _, _, _, _, _⟩) (di := some 44) (L := [(some 43, 9)]) (f := Jo.Fact.eq (.agg #[.int .i64 0, .bool s0, .int .u64 M0, .int .i64 E0])) rfl rfl rfl rfl (fun vs wj hJ hd K hK => ?_) ?_
    · have d9 : (Jo.Fact.eq (.bool true)).P (vs 9) wj := hd 9 (by decide)
      clear hd
      simp only [Jo.putl, List.foldl_cons, List.foldl_nil, Act.put, List.setIfInBounds_toArray, List.set_cons_zero, List.set_cons_succ] at hK ⊢
      generalize vs 9 = u9 at hK d9 ⊢
      replace d9 : u9 = _ := d9
      subst d9
      have xX00 : World.cell? wj ⟨w.heap.size, 0, none⟩ = some (.int .i64 0) := (X0.below hJ).cell 0
      have xX01 : World.cell? wj ⟨w.heap.size, 1, none⟩ = some (.bool s0) := (X0.below hJ).cell 1
      have xX02 : World.cell? wj ⟨w.heap.size, 2, none⟩ = some (.int .u64 M0) := (X0.below hJ).cell 2
      have xX03 : World.cell? wj ⟨w.heap.size, 3, none⟩ = some (.int .i64 E0) := (X0.below hJ).cell 3
      go_simp
      exact hK.out _ _ rfl (Below.refl _ _)
    refine Jo.jcons (i := 11) (o := ⟨some 45, _, _, _, _, _⟩) (di := some 45) (L := [(some 43, 9)]) (f := Jo.Fact.num o1) rfl rfl rfl rfl (fun vs wj hJ hd K hK => ?_) ?_
    · have d9 : (Jo.Fact.eq (.bool true)).P (vs 9) wj := hd 9 (by decide)
      clear hd
      simp only [Jo.putl, List.foldl_cons, List.foldl_nil, Act.put, List.setIfInBounds_toArray, List.set_cons_zero, List.set_cons_succ] at hK ⊢
      generalize vs 9 = u9 at hK d9 ⊢
      replace d9 : u9 = _ := d9
      subst d9
      go_simp
      refine (nOf _ (by decide) (by decide) HO1.out).mono ?_
      rintro ee wk ⟨K5, s5, M5, E5, rfl, q5, B⟩
      exact hK.out _ _ ⟨K5, s5, M5, E5, rfl, q5⟩ B
    refine Jo.jcons (i := 12) (o := ⟨some 46, _, _, _, _, _⟩) (di := some 46) (L := [(some 43, 9)]) (f := Jo.Fact.eq (.bool b1)) rfl rfl rfl rfl (fun vs wj hJ hd K hK => ?_) ?_
    · have d9 : (Jo.Fact.eq (.bool true)).P (vs 9) wj := hd 9 (by decide)
      clear hd
      simp only [Jo.putl, List.foldl_cons, List.foldl_nil, Act.put, List.setIfInBounds_toArray, List.set_cons_zero, List.set_cons_succ] at hK ⊢
      generalize vs 9 = u9 at hK d9 ⊢
      replace d9 : u9 = _ := d9
      subst d9
      go_simp
      exact hK.out _ _ rfl (Below.refl _ _)
    refine Jo.jcons (i := 13) (o := ⟨some 47, _, _, _, _, _⟩) (di := some 47) (L := [(some 43, 9), (some 44, 10), (some 45, 11), (some 46, 12)]) (f := Jo.Fact.num x) rfl rfl rfl rfl (fun vs wj hJ hd K hK => ?_) ?_
    · have d9 : (Jo.Fact.eq (.bool true)).P (vs 9) wj := hd 9 (by decide)
      have d10 : (Jo.Fact.eq (.agg #[.int .i64 0, .bool s0, .int .u64 M0, .int .i64 E0])).P (vs 10) wj := hd 10 (by decide)
      have d11 : (Jo.Fact.num o1).P (vs 11) wj := hd 11 (by decide)
      have d12 : (Jo.Fact.eq (.bool b1)).P (vs 12) wj := hd 12 (by decide)
      clear hd
      simp only [Jo.putl, List.foldl_cons, List.foldl_nil, Act.put, List.setIfInBounds_toArray, List.set_cons_zero, List.set_cons_succ] at hK ⊢
      generalize vs 9 = u9 at hK d9 ⊢
      generalize vs 10 = u10 at hK d10 ⊢
      generalize vs 11 = u11 at hK d11 ⊢
      generalize vs 12 = u12 at hK d12 ⊢
      replace d9 : u9 = _ := d9
      subst d9
      replace d10 : u10 = _ := d10
      subst d10
      obtain ⟨K5, s5, M5, E5, rfl, q5⟩ := d11
      replace d12 : u12 = _ := d12
      subst d12
      go_simp
      refine (aMul q.top q5.top q.rk q5.rk HONE.out).mono ?_
      rintro ee wk ⟨K6, s6, M6, E6, rfl, q6, B⟩
      exact hK.out _ _ ⟨K6, s6, M6, E6, rfl, q6⟩ B
    refine Jo.jcons (i := 14) (o := ⟨some 48, _, _, _, _, _⟩) (di := some 48) (L := [(some 43, 9)]) (f := Jo.Fact.eq (.agg #[.int .i64 0, .bool s0, .int .u64 M0, .int .i64 E0])) rfl rfl rfl rfl (fun vs wj hJ hd K hK => ?_) ?_
    · have d9 : (Jo.Fact.eq (.bool true)).P (vs 9) wj := hd 9 (by decide)
      clear hd
      simp only [Jo.putl, List.foldl_cons, List.foldl_nil, Act.put, List.setIfInBounds_toArray, List.set_cons_zero, List.set_cons_succ] at hK ⊢
      generalize vs 9 = u9 at hK d9 ⊢
      replace d9 : u9 = _ := d9
      subst d9
      have xX00 : World.cell? wj ⟨w.heap.size, 0, none⟩ = some (.int .i64 0) := (X0.below hJ).cell 0
      have xX01 : World.cell? wj ⟨w.heap.size, 1, none⟩ = some (.bool s0) := (X0.below hJ).cell 1
      have xX02 : World.cell? wj ⟨w.heap.size, 2, none⟩ = some (.int .u64 M0) := (X0.below hJ).cell 2
      have xX03 : World.cell? wj ⟨w.heap.size, 3, none⟩ = some (.int .i64 E0) := (X0.below hJ).cell 3
      go_simp
      exact hK.out _ _ rfl (Below.refl _ _)
    refine Jo.jcons (i := 15) (o := ⟨some 49, _, _, _, _, _⟩) (di := some 49) (L := [(some 43, 9), (some 47, 13), (some 48, 14)]) (f := Jo.Fact.eq (.bool true)) rfl rfl rfl rfl (fun vs wj hJ hd K hK => ?_) ?_
    · have d9 : (Jo.Fact.eq (.bool true)).P (vs 9) wj := hd 9 (by decide)
      have d13 : (Jo.Fact.num x).P (vs 13) wj := hd 13 (by decide)
      have d14 : (Jo.Fact.eq (.agg #[.int .i64 0, .bool s0, .int .u64 M0, .int .i64 E0])).P (vs 14) wj := hd 14 (by decide)
      clear hd
      simp only [Jo.putl, List.foldl_cons, List.foldl_nil, Act.put, List.setIfInBounds_toArray, List.set_cons_zero, List.set_cons_succ] at hK ⊢
      generalize vs 9 = u9 at hK d9 ⊢
      generalize vs 13 = u13 at hK d13 ⊢
      generalize vs 14 = u14 at hK d14 ⊢
      replace d9 : u9 = _ := d9
      subst d9
      obtain ⟨K6, s6, M6, E6, rfl, q6⟩ := d13
      replace d14 : u14 = _ := d14
      subst d14
      obtain ⟨rfl, rfl, rfl, rfl⟩ := q6.uniq q
      go_simp
      exact hK.out _ _ (by first | rfl | (show Value.bool _ = Value.bool _; simp)) (Below.refl _ _)
    refine Jo.jcons (i := 16) (o := ⟨some 50, _, _, _, _, _⟩) (di := some 50) (L := [(some 43, 9), (some 49, 15)]) (f := Jo.Fact.eq (.bool true)) rfl rfl rfl rfl (fun vs wj hJ hd K hK => ?_) ?_
    · have d9 : (Jo.Fact.eq (.bool true)).P (vs 9) wj := hd 9 (by decide)
      have d15 : (Jo.Fact.eq (.bool true)).P (vs 15) wj := hd 15 (by decide)
      clear hd
      simp only [Jo.putl, List.foldl_cons, List.foldl_nil, Act.put, List.setIfInBounds_toArray, List.set_cons_zero, List.set_cons_succ] at hK ⊢
      generalize vs 9 = u9 at hK d9 ⊢
      generalize vs 15 = u15 at hK d15 ⊢
      replace d9 : u9 = _ := d9
      subst d9
      replace d15 : u15 = _ := d15
      subst d15
      go_simp
      exact hK.out _ _ rfl (Below.refl _ _)
    refine Jo.jcons (i := 17) (o := ⟨some 51, _, _, _, _, _⟩) (di := some 51) (L := [(some 50, 16)]) (f := Jo.Fact.eq (.bool true)) rfl rfl rfl rfl (fun vs wj hJ hd K hK => ?_) ?_
    · have d16 : (Jo.Fact.eq (.bool true)).P (vs 16) wj := hd 16 (by decide)
      clear hd
      simp only [Jo.putl, List.foldl_cons, List.foldl_nil, Act.put, List.setIfInBounds_toArray, List.set_cons_zero, List.set_cons_succ] at hK ⊢
      generalize vs 16 = u16 at hK d16 ⊢
      replace d16 : u16 = _ := d16
      subst d16
      go_simp
      exact hK.out _ _ rfl (Below.refl _ _)
    refine Jo.jcons (i := 18) (o := ⟨some 52, _, _, _, _, _⟩) (di := some 52) (L := [(some 51, 17)]) (f := Jo.Fact.eq (.agg #[.int .i64 0, .bool s0, .int .u64 M0, .int .i64 E0])) rfl rfl rfl rfl (fun vs wj hJ hd K hK => ?_) ?_
    · have d17 : (Jo.Fact.eq (.bool true)).P (vs 17) wj := hd 17 (by decide)
      clear hd
      simp only [Jo.putl, List.foldl_cons, List.foldl_nil, Act.put, List.setIfInBounds_toArray, List.set_cons_zero, List.set_cons_succ] at hK ⊢
      generalize vs 17 = u17 at hK d17 ⊢
      replace d17 : u17 = _ := d17
      subst d17
      have xX00 : World.cell? wj ⟨w.heap.size, 0, none⟩ = some (.int .i64 0) := (X0.below hJ).cell 0
      have xX01 : World.cell? wj ⟨w.heap.size, 1, none⟩ = some (.bool s0) := (X0.below hJ).cell 1
      have xX02 : World.cell? wj ⟨w.heap.size, 2, none⟩ = some (.int .u64 M0) := (X0.below hJ).cell 2
      have xX03 : World.cell? wj ⟨w.heap.size, 3, none⟩ = some (.int .i64 E0) := (X0.below hJ).cell 3
      go_simp
      exact hK.out _ _ rfl (Below.refl _ _)
    refine Jo.jcons (i := 19) (o := ⟨some 53, _, _, _, _, _⟩) (di := some 53) (L := [(some 51, 17)]) (f := Jo.Fact.eq (.agg #[.int .i64 0, .bool false, .int .u64 0, .int .i64 0])) rfl rfl rfl rfl (fun vs wj hJ hd K hK => ?_) ?_
    · have d17 : (Jo.Fact.eq (.bool true)).P (vs 17) wj := hd 17 (by decide)
      clear hd
      simp only [Jo.putl, List.foldl_cons, List.foldl_nil, Act.put, List.setIfInBounds_toArray, List.set_cons_zero, List.set_cons_succ] at hK ⊢
      generalize vs 17 = u17 at hK d17 ⊢
      replace d17 : u17 = _ := d17
      subst d17
      have xX60 : World.cell? wj ⟨w3.heap.size, 0, none⟩ = some (.int .i64 0) := (X6.below hJ).cell 0
      have xX61 : World.cell? wj ⟨w3.heap.size, 1, none⟩ = some (.bool false) := (X6.below hJ).cell 1
      have xX62 : World.cell? wj ⟨w3.heap.size, 2, none⟩ = some (.int .u64 0) := (X6.below hJ).cell 2
      have xX63 : World.cell? wj ⟨w3.heap.size, 3, none⟩ = some (.int .i64 0) := (X6.below hJ).cell 3
      go_simp
      exact hK.out _ _ rfl (Below.refl _ _)
    refine Jo.jcons (i := 20) (o := ⟨some 54, _, _, _, _, _⟩) (di := some 54) (L := [(some 51, 17)]) (f := Jo.Fact.eq (.bool b1)) rfl rfl rfl rfl (fun vs wj hJ hd K hK => ?_) ?_
    · have d17 : (Jo.Fact.eq (.bool true)).P (vs 17) wj := hd 17 (by decide)
      clear hd
      simp only [Jo.putl, List.foldl_cons, List.foldl_nil, Act.put, List.setIfInBounds_toArray, List.set_cons_zero, List.set_cons_succ] at hK ⊢
      generalize vs 17 = u17 at hK d17 ⊢
      replace d17 : u17 = _ := d17
      subst d17
      go_simp
      exact hK.out _ _ rfl (Below.refl _ _)
    refine Jo.jcons (i := 21) (o := ⟨some 55, _, _, _, _, _⟩) (di := some 55) (L := [(some 51, 17), (some 52, 18), (some 53, 19), (some 54, 20)]) (f := Jo.Fact.num 0) rfl rfl rfl rfl (fun vs wj hJ hd K hK => ?_) ?_
    · have d17 : (Jo.Fact.eq (.bool true)).P (vs 17) wj := hd 17 (by decide)
      have d18 : (Jo.Fact.eq (.agg #[.int .i64 0, .bool s0, .int .u64 M0, .int .i64 E0])).P (vs 18) wj := hd 18 (by decide)
      have d19 : (Jo.Fact.eq (.agg #[.int .i64 0, .bool false, .int .u64 0, .int .i64 0])).P (vs 19) wj := hd 19 (by decide)
      have d20 : (Jo.Fact.eq (.bool b1)).P (vs 20) wj := hd 20 (by decide)
      clear hd
      simp only [Jo.putl, List.foldl_cons, List.foldl_nil, Act.put, List.setIfInBounds_toArray, List.set_cons_zero, List.set_cons_succ] at hK ⊢
      generalize vs 17 = u17 at hK d17 ⊢
      generalize vs 18 = u18 at hK d18 ⊢
      generalize vs 19 = u19 at hK d19 ⊢
      generalize vs 20 = u20 at hK d20 ⊢
      replace d17 : u17 = _ := d17
      subst d17
      replace d18 : u18 = _ := d18
      subst d18
      replace d19 : u19 = _ := d19
      subst d19
      replace d20 : u20 = _ := d20
      subst d20
      go_simp
      refine (aMul q.top Fq.nought.top q.rk Fq.nought.rk HMZ.out).mono ?_
      rintro ee wk ⟨K7, s7, M7, E7, rfl, q7, B⟩
      exact hK.out _ _ ⟨K7, s7, M7, E7, rfl, q7⟩ B
    refine Jo.jcons (i := 22) (o := ⟨some 56, _, _, _, _, _⟩) (di := some 56) (L := [(some 51, 17)]) (f := Jo.Fact.eq (.agg #[.int .i64 0, .bool false, .int .u64 0, .int .i64 0])) rfl rfl rfl rfl (fun vs wj hJ hd K hK => ?_) ?_
    · have d17 : (Jo.Fact.eq (.bool true)).P (vs 17) wj := hd 17 (by decide)
      clear hd
      simp only [Jo.putl, List.foldl_cons, List.foldl_nil, Act.put, List.setIfInBounds_toArray, List.set_cons_zero, List.set_cons_succ] at hK ⊢
      generalize vs 17 = u17 at hK d17 ⊢
      replace d17 : u17 = _ := d17
      subst d17
      have xX60 : World.cell? wj ⟨w3.heap.size, 0, none⟩ = some (.int .i64 0) := (X6.below hJ).cell 0
      have xX61 : World.cell? wj ⟨w3.heap.size, 1, none⟩ = some (.bool false) := (X6.below hJ).cell 1
      have xX62 : World.cell? wj ⟨w3.heap.size, 2, none⟩ = some (.int .u64 0) := (X6.below hJ).cell 2
      have xX63 : World.cell? wj ⟨w3.heap.size, 3, none⟩ = some (.int .i64 0) := (X6.below hJ).cell 3
      go_simp
      exact hK.out _ _ rfl (Below.refl _ _)
    refine Jo.jcons (i := 23) (o := ⟨some 57, _, _, _, _, _⟩) (di := some 57) (L := [(some 51, 17), (some 55, 21), (some 56, 22)]) (f := Jo.Fact.eq (.bool true)) rfl rfl rfl rfl (fun vs wj hJ hd K hK => ?_) ?_
    · have d17 : (Jo.Fact.eq (.bool true)).P (vs 17) wj := hd 17 (by decide)
      have d21 : (Jo.Fact.num 0).P (vs 21) wj := hd 21 (by decide)
      have d22 : (Jo.Fact.eq (.agg #[.int .i64 0, .bool false, .int .u64 0, .int .i64 0])).P (vs 22) wj := hd 22 (by decide)
      clear hd
      simp only [Jo.putl, List.foldl_cons, List.foldl_nil, Act.put, List.setIfInBounds_toArray, List.set_cons_zero, List.set_cons_succ] at hK ⊢
      generalize vs 17 = u17 at hK d17 ⊢
      generalize vs 21 = u21 at hK d21 ⊢
      generalize vs 22 = u22 at hK d22 ⊢
      replace d17 : u17 = _ := d17
      subst d17
      obtain ⟨K7, s7, M7, E7, rfl, q7⟩ := d21
      replace d22 : u22 = _ := d22
      subst d22
      obtain ⟨rfl, rfl, rfl, rfl⟩ := q7.uniq Fq.nought
      go_simp
      exact hK.out _ _ (by first | rfl | (show Value.bool _ = Value.bool _; simp)) (Below.refl _ _)
    refine Jo.jcons (i := 24) (o := ⟨some 58, _, _, _, _, _⟩) (di := some 58) (L := [(some 51, 17), (some 57, 23)]) (f := Jo.Fact.eq (.bool true)) rfl rfl rfl rfl (fun vs wj hJ hd K hK => ?_) ?_
    · have d17 : (Jo.Fact.eq (.bool true)).P (vs 17) wj := hd 17 (by decide)
      have d23 : (Jo.Fact.eq (.bool true)).P (vs 23) wj := hd 23 (by decide)
      clear hd
      simp only [Jo.putl, List.foldl_cons, List.foldl_nil, Act.put, List.setIfInBounds_toArray, List.set_cons_zero, List.set_cons_succ] at hK ⊢
      generalize vs 17 = u17 at hK d17 ⊢
      generalize vs 23 = u23 at hK d23 ⊢
      replace d17 : u17 = _ := d17
      subst d17
      replace d23 : u23 = _ := d23
      subst d23
      go_simp
      exact hK.out _ _ rfl (Below.refl _ _)
    refine Jo.jcons (i := 25) (o := ⟨some 59, _, _, _, _, _⟩) (di := some 59) (L := [(some 58, 24)]) (f := Jo.Fact.eq (.bool true)) rfl rfl rfl rfl (fun vs wj hJ hd K hK => ?_) ?_
    · have d24 : (Jo.Fact.eq (.bool true)).P (vs 24) wj := hd 24 (by decide)
      clear hd
      simp only [Jo.putl, List.foldl_cons, List.foldl_nil, Act.put, List.setIfInBounds_toArray, List.set_cons_zero, List.set_cons_succ] at hK ⊢
      generalize vs 24 = u24 at hK d24 ⊢
      replace d24 : u24 = _ := d24
      subst d24
      go_simp
      exact hK.out _ _ rfl (Below.refl _ _)
    refine Jo.jcons (i := 26) (o := ⟨some 60, _, _, _, _, _⟩) (di := some 60) (L := [(some 59, 25)]) (f := Jo.Fact.eq (.agg #[.int .i64 0, .bool s0, .int .u64 M0, .int .i64 E0])) rfl rfl rfl rfl (fun vs wj hJ hd K hK => ?_) ?_
    · have d25 : (Jo.Fact.eq (.bool true)).P (vs 25) wj := hd 25 (by decide)
      clear hd
      simp only [Jo.putl, List.foldl_cons, List.foldl_nil, Act.put, List.setIfInBounds_toArray, List.set_cons_zero, List.set_cons_succ] at hK ⊢
      generalize vs 25 = u25 at hK d25 ⊢
      replace d25 : u25 = _ := d25
      subst d25
      have xX00 : World.cell? wj ⟨w.heap.size, 0, none⟩ = some (.int .i64 0) := (X0.below hJ).cell 0
      have xX01 : World.cell? wj ⟨w.heap.size, 1, none⟩ = some (.bool s0) := (X0.below hJ).cell 1
      have xX02 : World.cell? wj ⟨w.heap.size, 2, none⟩ = some (.int .u64 M0) := (X0.below hJ).cell 2
      have xX03 : World.cell? wj ⟨w.heap.size, 3, none⟩ = some (.int .i64 E0) := (X0.below hJ).cell 3
      go_simp
      exact hK.out _ _ rfl (Below.refl _ _)
    refine Jo.jcons (i := 27) (o := ⟨some 61, _, _, _, _, _⟩) (di := some 61) (L := [(some 59, 25)]) (f := Jo.Fact.eq (.bool b1)) rfl rfl rfl rfl (fun vs wj hJ hd K hK => ?_) ?_
    · have d25 : (Jo.Fact.eq (.bool true)).P (vs 25) wj := hd 25 (by decide)
      clear hd
      simp only [Jo.putl, List.foldl_cons, List.foldl_nil, Act.put, List.setIfInBounds_toArray, List.set_cons_zero, List.set_cons_succ] at hK ⊢
      generalize vs 25 = u25 at hK d25 ⊢
      replace d25 : u25 = _ := d25
      subst d25
      go_simp
      exact hK.out _ _ rfl (Below.refl _ _)
    refine Jo.jcons (i := 28) (o := ⟨some 62, _, _, _, _, _⟩) (di := some 62) (L := [(some 59, 25), (some 60, 26), (some 61, 27)]) (f := Jo.Fact.num t) rfl rfl rfl rfl (fun vs wj hJ hd K hK => ?_) ?_
    · have d25 : (Jo.Fact.eq (.bool true)).P (vs 25) wj := hd 25 (by decide)
      have d26 : (Jo.Fact.eq (.agg #[.int .i64 0, .bool s0, .int .u64 M0, .int .i64 E0])).P (vs 26) wj := hd 26 (by decide)
      have d27 : (Jo.Fact.eq (.bool b1)).P (vs 27) wj := hd 27 (by decide)
      clear hd
      simp only [Jo.putl, List.foldl_cons, List.foldl_nil, Act.put, List.setIfInBounds_toArray, List.set_cons_zero, List.set_cons_succ] at hK ⊢
      generalize vs 25 = u25 at hK d25 ⊢
      generalize vs 26 = u26 at hK d26 ⊢
      generalize vs 27 = u27 at hK d27 ⊢
      replace d25 : u25 = _ := d25
      subst d25
      replace d26 : u26 = _ := d26
      subst d26
      replace d27 : u27 = _ := d27
      subst d27
      go_simp
      refine (aTwice q.top q.rk HT2.out).mono ?_
      rintro ee wk ⟨K8, s8, M8, E8, rfl, q8, B⟩
      exact hK.out _ _ ⟨K8, s8, M8, E8, rfl, q8⟩ B
    refine Jo.jcons (i := 29) (o := ⟨some 63, _, _, _, _, _⟩) (di := some 63) (L := [(some 59, 25)]) (f := Jo.Fact.eq (.bool b1)) rfl rfl rfl rfl (fun vs wj hJ hd K hK => ?_) ?_
    · have d25 : (Jo.Fact.eq (.bool true)).P (vs 25) wj := hd 25 (by decide)
      clear hd
      simp only [Jo.putl, List.foldl_cons, List.foldl_nil, Act.put, List.setIfInBounds_toArray, List.set_cons_zero, List.set_cons_succ] at hK ⊢
      generalize vs 25 = u25 at hK d25 ⊢
      replace d25 : u25 = _ := d25
      subst d25
      go_simp
      exact hK.out _ _ rfl (Below.refl _ _)
    refine Jo.jcons (i := 30) (o := ⟨some 64, _, _, _, _, _⟩) (di := some 64) (L := [(some 59, 25), (some 62, 28), (some 63, 29)]) (f := Jo.Fact.num x) rfl rfl rfl rfl (fun vs wj hJ hd K hK => ?_) ?_
    · have d25 : (Jo.Fact.eq (.bool true)).P (vs 25) wj := hd 25 (by decide)
      have d28 : (Jo.Fact.num t).P (vs 28) wj := hd 28 (by decide)
      have d29 : (Jo.Fact.eq (.bool b1)).P (vs 29) wj := hd 29 (by decide)
      clear hd
      simp only [Jo.putl, List.foldl_cons, List.foldl_nil, Act.put, List.setIfInBounds_toArray, List.set_cons_zero, List.set_cons_succ] at hK ⊢
      generalize vs 25 = u25 at hK d25 ⊢
      generalize vs 28 = u28 at hK d28 ⊢
      generalize vs 29 = u29 at hK d29 ⊢
      replace d25 : u25 = _ := d25
      subst d25
      obtain ⟨K8, s8, M8, E8, rfl, q8⟩ := d28
      replace d29 : u29 = _ := d29
      subst d29
      go_simp
      refine (aHalf q8.top q8.rk HH.out).mono ?_
      rintro ee wk ⟨K9, s9, M9, E9, rfl, q9, B⟩
      exact hK.out _ _ ⟨K9, s9, M9, E9, rfl, q9⟩ B
    refine Jo.jcons (i := 31) (o := ⟨some 65, _, _, _, _, _⟩) (di := some 65) (L := [(some 59, 25)]) (f := Jo.Fact.eq (.agg #[.int .i64 0, .bool s0, .int .u64 M0, .int .i64 E0])) rfl rfl rfl rfl (fun vs wj hJ hd K hK => ?_) ?_
    · have d25 : (Jo.Fact.eq (.bool true)).P (vs 25) wj := hd 25 (by decide)
      clear hd
      simp only [Jo.putl, List.foldl_cons, List.foldl_nil, Act.put, List.setIfInBounds_toArray, List.set_cons_zero, List.set_cons_succ] at hK ⊢
      generalize vs 25 = u25 at hK d25 ⊢
      replace d25 : u25 = _ := d25
      subst d25
      have xX00 : World.cell? wj ⟨w.heap.size, 0, none⟩ = some (.int .i64 0) := (X0.below hJ).cell 0
      have xX01 : World.cell? wj ⟨w.heap.size, 1, none⟩ = some (.bool s0) := (X0.below hJ).cell 1
      have xX02 : World.cell? wj ⟨w.heap.size, 2, none⟩ = some (.int .u64 M0) := (X0.below hJ).cell 2
      have xX03 : World.cell? wj ⟨w.heap.size, 3, none⟩ = some (.int .i64 E0) := (X0.below hJ).cell 3
      go_simp
      exact hK.out _ _ rfl (Below.refl _ _)
    refine Jo.jcons (i := 32) (o := ⟨some 66, _, _, _, _, _⟩) (di := some 66) (L := [(some 59, 25), (some 64, 30), (some 65, 31)]) (f := Jo.Fact.eq (.bool true)) rfl rfl rfl rfl (fun vs wj hJ hd K hK => ?_) ?_
    · have d25 : (Jo.Fact.eq (.bool true)).P (vs 25) wj := hd 25 (by decide)
      have d30 : (Jo.Fact.num x).P (vs 30) wj := hd 30 (by decide)
      have d31 : (Jo.Fact.eq (.agg #[.int .i64 0, .bool s0, .int .u64 M0, .int .i64 E0])).P (vs 31) wj := hd 31 (by decide)
      clear hd
      simp only [Jo.putl, List.foldl_cons, List.foldl_nil, Act.put, List.setIfInBounds_toArray, List.set_cons_zero, List.set_cons_succ] at hK ⊢
      generalize vs 25 = u25 at hK d25 ⊢
      generalize vs 30 = u30 at hK d30 ⊢
      generalize vs 31 = u31 at hK d31 ⊢
      replace d25 : u25 = _ := d25
      subst d25
      obtain ⟨K9, s9, M9, E9, rfl, q9⟩ := d30
      replace d31 : u31 = _ := d31
      subst d31
      obtain ⟨rfl, rfl, rfl, rfl⟩ := q9.uniq q
      go_simp
      exact hK.out _ _ (by first | rfl | (show Value.bool _ = Value.bool _; simp)) (Below.refl _ _)
    refine Jo.jcons (i := 33) (o := ⟨some 67, _, _, _, _, _⟩) (di := some 67) (L := [(some 59, 25), (some 66, 32)]) (f := Jo.Fact.eq (.bool true)) rfl rfl rfl rfl (fun vs wj hJ hd K hK => ?_) ?_
    · have d25 : (Jo.Fact.eq (.bool true)).P (vs 25) wj := hd 25 (by decide)
      have d32 : (Jo.Fact.eq (.bool true)).P (vs 32) wj := hd 32 (by decide)
      clear hd
      simp only [Jo.putl, List.foldl_cons, List.foldl_nil, Act.put, List.setIfInBounds_toArray, List.set_cons_zero, List.set_cons_succ] at hK ⊢
      generalize vs 25 = u25 at hK d25 ⊢
      generalize vs 32 = u32 at hK d32 ⊢
      replace d25 : u25 = _ := d25
      subst d25
      replace d32 : u32 = _ := d32
      subst d32
      go_simp
      exact hK.out _ _ rfl (Below.refl _ _)
    refine Jo.jcons (i := 34) (o := ⟨some 4, _, _, _, _, _⟩) (di := some 4) (L := [(some 67, 33)]) (f := Jo.Fact.eq (.bool true)) rfl rfl rfl rfl (fun vs wj hJ hd K hK => ?_) ?_
    · have d33 : (Jo.Fact.eq (.bool true)).P (vs 33) wj := hd 33 (by decide)
      clear hd
      simp only [Jo.putl, List.foldl_cons, List.foldl_nil, Act.put, List.setIfInBounds_toArray, List.set_cons_zero, List.set_cons_succ] at hK ⊢
      generalize vs 33 = u33 at hK d33 ⊢
      replace d33 : u33 = _ := d33
      subst d33
      go_simp
      exact hK.out _ _ rfl (Below.refl _ _)
    exact Jo.Steps.nil
  have d0 : (Jo.Fact.eq (.bool true)).P (vs 0) w6 := hd 0 (by decide)
  have d1 : (Jo.Fact.eq (.bool true)).P (vs 1) w6 := hd 1 (by decide)
  have d2 : (Jo.Fact.eq (.agg #[.int .i64 0, .bool s0, .int .u64 M0, .int .i64 E0])).P (vs 2) w6 := hd 2 (by decide)
  have d3 : (Jo.Fact.eq (.agg #[.int .i64 0, .bool false, .int .u64 0, .int .i64 0])).P (vs 3) w6 := hd 3 (by decide)
  have d4 : (Jo.Fact.eq (.bool b1)).P (vs 4) w6 := hd 4 (by decide)
  have d5 : (Jo.Fact.num x).P (vs 5) w6 := hd 5 (by decide)
  have d6 : (Jo.Fact.eq (.agg #[.int .i64 0, .bool s0, .int .u64 M0, .int .i64 E0])).P (vs 6) w6 := hd 6 (by decide)
  have d7 : (Jo.Fact.eq (.bool true)).P (vs 7) w6 := hd 7 (by decide)
  have d8 : (Jo.Fact.eq (.bool true)).P (vs 8) w6 := hd 8 (by decide)
  have d9 : (Jo.Fact.eq (.bool true)).P (vs 9) w6 := hd 9 (by decide)
  have d10 : (Jo.Fact.eq (.agg #[.int .i64 0, .bool s0, .int .u64 M0, .int .i64 E0])).P (vs 10) w6 := hd 10 (by decide)
  have d11 : (Jo.Fact.num o1).P (vs 11) w6 := hd 11 (by decide)
  have d12 : (Jo.Fact.eq (.bool b1)).P (vs 12) w6 := hd 12 (by decide)
  have d13 : (Jo.Fact.num x).P (vs 13) w6 := hd 13 (by decide)
  have d14 : (Jo.Fact.eq (.agg #[.int .i64 0, .bool s0, .int .u64 M0, .int .i64 E0])).P (vs 14) w6 := hd 14 (by decide)
  have d15 : (Jo.Fact.eq (.bool true)).P (vs 15) w6 := hd 15 (by decide)
  have d16 : (Jo.Fact.eq (.bool true)).P (vs 16) w6 := hd 16 (by decide)
  have d17 : (Jo.Fact.eq (.bool true)).P (vs 17) w6 := hd 17 (by decide)
  have d18 : (Jo.Fact.eq (.agg #[.int .i64 0, .bool s0, .int .u64 M0, .int .i64 E0])).P (vs 18) w6 := hd 18 (by decide)
  have d19 : (Jo.Fact.eq (.agg #[.int .i64 0, .bool false, .int .u64 0, .int .i64 0])).P (vs 19) w6 := hd 19 (by decide)
  have d20 : (Jo.Fact.eq (.bool b1)).P (vs 20) w6 := hd 20 (by decide)
  have d21 : (Jo.Fact.num 0).P (vs 21) w6 := hd 21 (by decide)
  have d22 : (Jo.Fact.eq (.agg #[.int .i64 0, .bool false, .int .u64 0, .int .i64 0])).P (vs 22) w6 := hd 22 (by decide)
  have d23 : (Jo.Fact.eq (.bool true)).P (vs 23) w6 := hd 23 (by decide)
  have d24 : (Jo.Fact.eq (.bool true)).P (vs 24) w6 := hd 24 (by decide)
  have d25 : (Jo.Fact.eq (.bool true)).P (vs 25) w6 := hd 25 (by decide)
  have d26 : (Jo.Fact.eq (.agg #[.int .i64 0, .bool s0, .int .u64 M0, .int .i64 E0])).P (vs 26) w6 := hd 26 (by decide)
  have d27 : (Jo.Fact.eq (.bool b1)).P (vs 27) w6 := hd 27 (by decide)
  have d28 : (Jo.Fact.num t).P (vs 28) w6 := hd 28 (by decide)
  have d29 : (Jo.Fact.eq (.bool b1)).P (vs 29) w6 := hd 29 (by decide)
  have d30 : (Jo.Fact.num x).P (vs 30) w6 := hd 30 (by decide)
  have d31 : (Jo.Fact.eq (.agg #[.int .i64 0, .bool s0, .int .u64 M0, .int .i64 E0])).P (vs 31) w6 := hd 31 (by decide)
  have d32 : (Jo.Fact.eq (.bool true)).P (vs 32) w6 := hd 32 (by decide)
  have d33 : (Jo.Fact.eq (.bool true)).P (vs 33) w6 := hd 33 (by decide)
  have d34 : (Jo.Fact.eq (.bool true)).P (vs 34) w6 := hd 34 (by decide)
  clear hd
  simp only [Jo.putl, List.foldl_cons, List.foldl_nil, Act.put, List.setIfInBounds_toArray, List.set_cons_zero, List.set_cons_succ]
  generalize vs 0 = u0 at d0 ⊢
  generalize vs 1 = u1 at d1 ⊢
  generalize vs 2 = u2 at d2 ⊢
  generalize vs 3 = u3 at d3 ⊢
  generalize vs 4 = u4 at d4 ⊢
  generalize vs 5 = u5 at d5 ⊢
  generalize vs 6 = u6 at d6 ⊢
  generalize vs 7 = u7 at d7 ⊢
  generalize vs 8 = u8 at d8 ⊢
  generalize vs 9 = u9 at d9 ⊢
  generalize vs 10 = u10 at d10 ⊢
  generalize vs 11 = u11 at d11 ⊢
  generalize vs 12 = u12 at d12 ⊢
  generalize vs 13 = u13 at d13 ⊢
  generalize vs 14 = u14 at d14 ⊢
  generalize vs 15 = u15 at d15 ⊢
  generalize vs 16 = u16 at d16 ⊢
  generalize vs 17 = u17 at d17 ⊢
  generalize vs 18 = u18 at d18 ⊢
  generalize vs 19 = u19 at d19 ⊢
  generalize vs 20 = u20 at d20 ⊢
  generalize vs 21 = u21 at d21 ⊢
  generalize vs 22 = u22 at d22 ⊢
  generalize vs 23 = u23 at d23 ⊢
  generalize vs 24 = u24 at d24 ⊢
  generalize vs 25 = u25 at d25 ⊢
  generalize vs 26 = u26 at d26 ⊢
  generalize vs 27 = u27 at d27 ⊢
  generalize vs 28 = u28 at d28 ⊢
  generalize vs 29 = u29 at d29 ⊢
  generalize vs 30 = u30 at d30 ⊢
  generalize vs 31 = u31 at d31 ⊢
  generalize vs 32 = u32 at d32 ⊢
  generalize vs 33 = u33 at d33 ⊢
  generalize vs 34 = u34 at d34 ⊢
  clear vs
  replace d0 : u0 = _ := d0
  subst d0
  replace d1 : u1 = _ := d1
  subst d1
  replace d2 : u2 = _ := d2
  subst d2
  replace d3 : u3 = _ := d3
  subst d3
  replace d4 : u4 = _ := d4
  subst d4
  obtain ⟨K4, s4, M4, E4, rfl, _⟩ := d5
  replace d6 : u6 = _ := d6
  subst d6
  replace d7 : u7 = _ := d7
  subst d7
  replace d8 : u8 = _ := d8
  subst d8
  replace d9 : u9 = _ := d9
  subst d9
  replace d10 : u10 = _ := d10
  subst d10
  obtain ⟨K5, s5, M5, E5, rfl, _⟩ := d11
  replace d12 : u12 = _ := d12
  subst d12
  obtain ⟨K6, s6, M6, E6, rfl, _⟩ := d13
  replace d14 : u14 = _ := d14
  subst d14
  replace d15 : u15 = _ := d15
  subst d15
  replace d16 : u16 = _ := d16
  subst d16
  replace d17 : u17 = _ := d17
  subst d17
  replace d18 : u18 = _ := d18
  subst d18
  replace d19 : u19 = _ := d19
  subst d19
  replace d20 : u20 = _ := d20
  subst d20
  obtain ⟨K7, s7, M7, E7, rfl, _⟩ := d21
  replace d22 : u22 = _ := d22
  subst d22
  replace d23 : u23 = _ := d23
  subst d23
  replace d24 : u24 = _ := d24
  subst d24
  replace d25 : u25 = _ := d25
  subst d25
  replace d26 : u26 = _ := d26
  subst d26
  replace d27 : u27 = _ := d27
  subst d27
  obtain ⟨K8, s8, M8, E8, rfl, _⟩ := d28
  replace d29 : u29 = _ := d29
  subst d29
  obtain ⟨K9, s9, M9, E9, rfl, _⟩ := d30
  replace d31 : u31 = _ := d31
  subst d31
  replace d32 : u32 = _ := d32
  subst d32
  replace d33 : u33 = _ := d33
  subst d33
  replace d34 : u34 = _ := d34
  subst d34
  replace X0 := X0.below hJ
  replace X6 := X6.below hJ
  replace hT := hT.below hJ
  replace HB := Lib.hid (bt HB.out hJ)
  refine Jo.jdone (by kernel_rfl) ?_
  go_wp2
  go_ret
  exact ⟨rfl, HB.out⟩
set_option maxHeartbeats 8000000 in
theorem arithUnits_m1 (s0 : Bool) (M0 E0 x : Int) (b1 : Bool) (w : World) (hT : Tb w) (q : Fq 1 s0 M0 E0 x) (hE : ¬ 1048576 ≤ E0) :
    Calls Tryd.prog 9 #[.agg #[.int .i64 1, .bool s0, .int .u64 M0, .int .i64 E0], .bool b1] w (PB w true) := by
  have bx := q.bd
  obtain ⟨o1, ho1⟩ : ∃ o, opl 1 = o := ⟨_, rfl⟩
  have hone : mulp b1 x o1 = x := by rw [← ho1]; exact mulp_one b1 bx.1 bx.2
  have HO1 : Hid (sgi (decide ((1 : Int) < 0)) (lo (1 : Int).natAbs 0) = o1) := Lib.hid ho1
  obtain ⟨t, ht⟩ : ∃ t, mulp b1 x (opl 2) = t := ⟨_, rfl⟩
  have hh : mulp b1 t hlf = x := by rw [← ht]; exact unit_twice q (by intro h; first | omega | exact absurd h (by decide)) b1
  have HONE := Lib.hid hone
  have HT2 := Lib.hid ht
  have HH := Lib.hid hh
  have HZ : Hid (addp b1 x 0 = x) := Lib.hid (addp_zero b1 bx.1 bx.2)
  have HMZ : Hid (mulp b1 x 0 = 0) := Lib.hid (mulp_zero b1 (.inr rfl))
  have HM := Lib.hid (decide_eq_true q.1)
  have hfin : infp x = false := by rw [fq_inf q]; rfl
  obtain ⟨f1, f2⟩ := infp_false bx.1 bx.2 hfin
  obtain ⟨x2, hx2⟩ : ∃ y, -x = y := ⟨_, rfl⟩
  have HS : Hid (addp b1 x x2 = 0) := Lib.hid (by rw [← hx2]; exact addp_self b1 f1 f2)
  have HNX : Hid (-rk 1 s0 M0 E0 = x2) := Lib.hid (by rw [q.rk, hx2])
  clear hfin f1 f2 hx2
  clear bx ho1 hone ht hh
  go_enter Tryd.func9, Tryd.ntmps9
  go_upto_region 1 with (fail)
  have X0 := (Bo.newAt w (g := w.heap.size) (by simp) #[.int .i64 1, .bool s0, .int .u64 M0, .int .i64 E0] 24)
  have HB := Lib.hid (bel1 w (.cells #[.int .i64 1, .bool s0, .int .u64 M0, .int .i64 E0] 24))
  replace hT := hT.below HB.out
  generalize hW1 : (w.alloc (.cells #[.int .i64 1, .bool s0, .int .u64 M0, .int .i64 E0] 24)) = w1 at *
  clear hW1
  go_wp2_with fail
  refine (awake6 hT).mono ?_
  rintro ee w2 ⟨rfl, B⟩
  replace X0 := X0.below B
  replace hT := hT.below B
  replace HB := Lib.hid (bt HB.out B)
  clear B
  have xX00 := X0.at (i := 0) (v := .int .i64 1) rfl
  have xX01 := X0.at (i := 1) (v := .bool s0) rfl
  have xX02 := X0.at (i := 2) (v := .int .u64 M0) rfl
  have xX03 := X0.at (i := 3) (v := .int .i64 E0) rfl
  go_wp2_with fail
  refine (nMay (r := true) HM.out).mono ?_
  rintro ee w3 ⟨rfl, B⟩
  clear xX00 xX01 xX02 xX03
  replace X0 := X0.below B
  replace hT := hT.below B
  replace HB := Lib.hid (bt HB.out B)
  clear B
  have xX00 := X0.at (i := 0) (v := .int .i64 1) rfl
  have xX01 := X0.at (i := 1) (v := .bool s0) rfl
  have xX02 := X0.at (i := 2) (v := .int .u64 M0) rfl
  have xX03 := X0.at (i := 3) (v := .int .i64 E0) rfl
  go_upto_region 5 with (fail)
  clear xX00 xX01 xX02 xX03
  have lX6 := Nat.le_refl (World.heap w3).size
  have nX6X0 := X0.lt
  replace X0 := X0.below (bel1 _ (.cells #[.int .i64 0, .bool false, .int .u64 0, .int .i64 0] 24))
  replace hT := hT.below (bel1 _ (.cells #[.int .i64 0, .bool false, .int .u64 0, .int .i64 0] 24))
  replace HB := Lib.hid (bt HB.out (bel1 _ (.cells #[.int .i64 0, .bool false, .int .u64 0, .int .i64 0] 24)))
  have X6 := Bo.new w3 #[.int .i64 0, .bool false, .int .u64 0, .int .i64 0] 24
  generalize hWn : World.alloc w3 (.cells #[.int .i64 0, .bool false, .int .u64 0, .int .i64 0] 24) = w4 at *
  clear hWn
  clear lX6
  refine Jo.region_joint (T := [0, 1, 2, 3, 4, 5, 6, 7, 8, 9, 10]) (ds := [some 23, some 24, some 25, some 26, some 27, some 28, some 29, some 30, some 31, some 32, some 33]) (ls := [[], [0], [1], [2], [3], [3], [3], [3, 4, 5, 6], [3], [3, 7, 8], [3, 9]]) (k := 11) (L := [(some 23, 0), (some 24, 1), (some 25, 2), (some 26, 3), (some 27, 4), (some 28, 5), (some 29, 6), (some 30, 7), (some 31, 8), (some 32, 9), (some 33, 10)]) (fuel := 0) (J := fun wj => Below (World.heap w4).size w4 wj)
    (F := [Jo.Fact.eq (.pointer (some ⟨w.heap.size, 0, none⟩)), Jo.Fact.eq (.int .i64 1), Jo.Fact.eq (.bool true), Jo.Fact.eq (.bool true), Jo.Fact.eq (.agg #[.int .i64 1, .bool s0, .int .u64 M0, .int .i64 E0]), Jo.Fact.eq (.agg #[.int .i64 1, .bool s0, .int .u64 M0, .int .i64 E0]), Jo.Fact.eq (.bool b1), Jo.Fact.num 0, Jo.Fact.eq (.agg #[.int .i64 0, .bool false, .int .u64 0, .int .i64 0]), Jo.Fact.eq (.bool false), Jo.Fact.eq (.bool false)])
    (by kernel_rfl) (by kernel_rfl) (by decide) rfl rfl (fun _ _ h b => bt h b) ((Below.refl _ _).drew) ?_ (fun vs w5 hJ hd => ?_)
  · refine Jo.jcons (i := 0) (o := ⟨some 23, _, _, _, _, _⟩) (di := some 23) (L := []) (f := Jo.Fact.eq (.pointer (some ⟨w.heap.size, 0, none⟩))) rfl rfl rfl rfl (fun vs wj hJ hd K hK => ?_) ?_
    · clear hd
      simp only [Jo.putl, List.foldl_nil, Act.put, List.setIfInBounds_toArray, List.set_cons_zero, List.set_cons_succ] at hK ⊢
      go_simp
      exact hK.out _ _ rfl (Below.refl _ _)
    refine Jo.jcons (i := 1) (o := ⟨some 24, _, _, _, _, _⟩) (di := some 24) (L := [(some 23, 0)]) (f := Jo.Fact.eq (.int .i64 1)) rfl rfl rfl rfl (fun vs wj hJ hd K hK => ?_) ?_
    · have d0 : (Jo.Fact.eq (.pointer (some ⟨w.heap.size, 0, none⟩))).P (vs 0) wj := hd 0 (by decide)
      clear hd
      simp only [Jo.putl, List.foldl_cons, List.foldl_nil, Act.put, List.setIfInBounds_toArray, List.set_cons_zero, List.set_cons_succ] at hK ⊢
      generalize vs 0 = u0 at hK d0 ⊢
      replace d0 : u0 = _ := d0
      subst d0
      have xX00 : World.cell? wj ⟨w.heap.size, 0, none⟩ = some (.int .i64 1) := (X0.below hJ).cell 0
      have xX01 : World.cell? wj ⟨w.heap.size, 1, none⟩ = some (.bool s0) := (X0.below hJ).cell 1
      have xX02 : World.cell? wj ⟨w.heap.size, 2, none⟩ = some (.int .u64 M0) := (X0.below hJ).cell 2
      have xX03 : World.cell? wj ⟨w.heap.size, 3, none⟩ = some (.int .i64 E0) := (X0.below hJ).cell 3
      go_simp
      exact hK.out _ _ rfl (Below.refl _ _)
    refine Jo.jcons (i := 2) (o := ⟨some 25, _, _, _, _, _⟩) (di := some 25) (L := [(some 24, 1)]) (f := Jo.Fact.eq (.bool true)) rfl rfl rfl rfl (fun vs wj hJ hd K hK => ?_) ?_
    · have d1 : (Jo.Fact.eq (.int .i64 1)).P (vs 1) wj := hd 1 (by decide)
      clear hd
      simp only [Jo.putl, List.foldl_cons, List.foldl_nil, Act.put, List.setIfInBounds_toArray, List.set_cons_zero, List.set_cons_succ] at hK ⊢
      generalize vs 1 = u1 at hK d1 ⊢
      replace d1 : u1 = _ := d1
      subst d1
      go_simp
      exact hK.out _ _ (by first | rfl | (show Value.bool _ = Value.bool _; simp)) (Below.refl _ _)
    refine Jo.jcons (i := 3) (o := ⟨some 26, _, _, _, _, _⟩) (di := some 26) (L := [(some 25, 2)]) (f := Jo.Fact.eq (.bool true)) rfl rfl rfl rfl (fun vs wj hJ hd K hK => ?_) ?_
    · have d2 : (Jo.Fact.eq (.bool true)).P (vs 2) wj := hd 2 (by decide)
      clear hd
      simp only [Jo.putl, List.foldl_cons, List.foldl_nil, Act.put, List.setIfInBounds_toArray, List.set_cons_zero, List.set_cons_succ] at hK ⊢
      generalize vs 2 = u2 at hK d2 ⊢
      replace d2 : u2 = _ := d2
      subst d2
      go_simp
      exact hK.out _ _ rfl (Below.refl _ _)
    refine Jo.jcons (i := 4) (o := ⟨some 27, _, _, _, _, _⟩) (di := some 27) (L := [(some 26, 3)]) (f := Jo.Fact.eq (.agg #[.int .i64 1, .bool s0, .int .u64 M0, .int .i64 E0])) rfl rfl rfl rfl (fun vs wj hJ hd K hK => ?_) ?_
    · have d3 : (Jo.Fact.eq (.bool true)).P (vs 3) wj := hd 3 (by decide)
      clear hd
      simp only [Jo.putl, List.foldl_cons, List.foldl_nil, Act.put, List.setIfInBounds_toArray, List.set_cons_zero, List.set_cons_succ] at hK ⊢
      generalize vs 3 = u3 at hK d3 ⊢
      replace d3 : u3 = _ := d3
      subst d3
      have xX00 : World.cell? wj ⟨w.heap.size, 0, none⟩ = some (.int .i64 1) := (X0.below hJ).cell 0
      have xX01 : World.cell? wj ⟨w.heap.size, 1, none⟩ = some (.bool s0) := (X0.below hJ).cell 1
      have xX02 : World.cell? wj ⟨w.heap.size, 2, none⟩ = some (.int .u64 M0) := (X0.below hJ).cell 2
      have xX03 : World.cell? wj ⟨w.heap.size, 3, none⟩ = some (.int .i64 E0) := (X0.below hJ).cell 3
      go_simp
      exact hK.out _ _ rfl (Below.refl _ _)
    refine Jo.jcons (i := 5) (o := ⟨some 28, _, _, _, _, _⟩) (di := some 28) (L := [(some 26, 3)]) (f := Jo.Fact.eq (.agg #[.int .i64 1, .bool s0, .int .u64 M0, .int .i64 E0])) rfl rfl rfl rfl (fun vs wj hJ hd K hK => ?_) ?_
    · have d3 : (Jo.Fact.eq (.bool true)).P (vs 3) wj := hd 3 (by decide)
      clear hd
      simp only [Jo.putl, List.foldl_cons, List.foldl_nil, Act.put, List.setIfInBounds_toArray, List.set_cons_zero, List.set_cons_succ] at hK ⊢
      generalize vs 3 = u3 at hK d3 ⊢
      replace d3 : u3 = _ := d3
      subst d3
      have xX00 : World.cell? wj ⟨w.heap.size, 0, none⟩ = some (.int .i64 1) := (X0.below hJ).cell 0
      have xX01 : World.cell? wj ⟨w.heap.size, 1, none⟩ = some (.bool s0) := (X0.below hJ).cell 1
      have xX02 : World.cell? wj ⟨w.heap.size, 2, none⟩ = some (.int .u64 M0) := (X0.below hJ).cell 2
      have xX03 : World.cell? wj ⟨w.heap.size, 3, none⟩ = some (.int .i64 E0) := (X0.below hJ).cell 3
      go_simp
      exact hK.out _ _ rfl (Below.refl _ _)
    refine Jo.jcons (i := 6) (o := ⟨some 29, _, _, _, _, _⟩) (di := some 29) (L := [(some 26, 3)]) (f := Jo.Fact.eq (.bool b1)) rfl rfl rfl rfl (fun vs wj hJ hd K hK => ?_) ?_
    · have d3 : (Jo.Fact.eq (.bool true)).P (vs 3) wj := hd 3 (by decide)
      clear hd
      simp only [Jo.putl, List.foldl_cons, List.foldl_nil, Act.put, List.setIfInBounds_toArray, List.set_cons_zero, List.set_cons_succ] at hK ⊢
      generalize vs 3 = u3 at hK d3 ⊢
      replace d3 : u3 = _ := d3
      subst d3
      go_simp
      exact hK.out _ _ rfl (Below.refl _ _)
    refine Jo.jcons (i := 7) (o := ⟨some 30, _, _, _, _, _⟩) (di := some 30) (L := [(some 26, 3), (some 27, 4), (some 28, 5), (some 29, 6)]) (f := Jo.Fact.num 0) rfl rfl rfl rfl (fun vs wj hJ hd K hK => ?_) ?_
    · have d3 : (Jo.Fact.eq (.bool true)).P (vs 3) wj := hd 3 (by decide)
      have d4 : (Jo.Fact.eq (.agg #[.int .i64 1, .bool s0, .int .u64 M0, .int .i64 E0])).P (vs 4) wj := hd 4 (by decide)
      have d5 : (Jo.Fact.eq (.agg #[.int .i64 1, .bool s0, .int .u64 M0, .int .i64 E0])).P (vs 5) wj := hd 5 (by decide)
      have d6 : (Jo.Fact.eq (.bool b1)).P (vs 6) wj := hd 6 (by decide)
      clear hd
      simp only [Jo.putl, List.foldl_cons, List.foldl_nil, Act.put, List.setIfInBounds_toArray, List.set_cons_zero, List.set_cons_succ] at hK ⊢
      generalize vs 3 = u3 at hK d3 ⊢
      generalize vs 4 = u4 at hK d4 ⊢
      generalize vs 5 = u5 at hK d5 ⊢
      generalize vs 6 = u6 at hK d6 ⊢
      replace d3 : u3 = _ := d3
      subst d3
      replace d4 : u4 = _ := d4
      subst d4
      replace d5 : u5 = _ := d5
      subst d5
      replace d6 : u6 = _ := d6
      subst d6
      go_simp
      refine (aSub (hT.below hJ) q.top q.top q.rk HNX.out HS.out).mono ?_
      rintro ee wk ⟨K3, s3, M3, E3, rfl, q3, B⟩
      exact hK.out _ _ ⟨K3, s3, M3, E3, rfl, q3⟩ B
    refine Jo.jcons (i := 8) (o := ⟨some 31, _, _, _, _, _⟩) (di := some 31) (L := [(some 26, 3)]) (f := Jo.Fact.eq (.agg #[.int .i64 0, .bool false, .int .u64 0, .int .i64 0])) rfl rfl rfl rfl (fun vs wj hJ hd K hK => ?_) ?_
    · have d3 : (Jo.Fact.eq (.bool true)).P (vs 3) wj := hd 3 (by decide)
      clear hd
      simp only [Jo.putl, List.foldl_cons, List.foldl_nil, Act.put, List.setIfInBounds_toArray, List.set_cons_zero, List.set_cons_succ] at hK ⊢
      generalize vs 3 = u3 at hK d3 ⊢
      replace d3 : u3 = _ := d3
      subst d3
      have xX60 : World.cell? wj ⟨w3.heap.size, 0, none⟩ = some (.int .i64 0) := (X6.below hJ).cell 0
      have xX61 : World.cell? wj ⟨w3.heap.size, 1, none⟩ = some (.bool false) := (X6.below hJ).cell 1
      have xX62 : World.cell? wj ⟨w3.heap.size, 2, none⟩ = some (.int .u64 0) := (X6.below hJ).cell 2
      have xX63 : World.cell? wj ⟨w3.heap.size, 3, none⟩ = some (.int .i64 0) := (X6.below hJ).cell 3
      go_simp
      exact hK.out _ _ rfl (Below.refl _ _)
    refine Jo.jcons (i := 9) (o := ⟨some 32, _, _, _, _, _⟩) (di := some 32) (L := [(some 26, 3), (some 30, 7), (some 31, 8)]) (f := Jo.Fact.eq (.bool false)) rfl rfl rfl rfl (fun vs wj hJ hd K hK => ?_) ?_
    · have d3 : (Jo.Fact.eq (.bool true)).P (vs 3) wj := hd 3 (by decide)
      have d7 : (Jo.Fact.num 0).P (vs 7) wj := hd 7 (by decide)
      have d8 : (Jo.Fact.eq (.agg #[.int .i64 0, .bool false, .int .u64 0, .int .i64 0])).P (vs 8) wj := hd 8 (by decide)
      clear hd
      simp only [Jo.putl, List.foldl_cons, List.foldl_nil, Act.put, List.setIfInBounds_toArray, List.set_cons_zero, List.set_cons_succ] at hK ⊢
      generalize vs 3 = u3 at hK d3 ⊢
      generalize vs 7 = u7 at hK d7 ⊢
      generalize vs 8 = u8 at hK d8 ⊢
      replace d3 : u3 = _ := d3
      subst d3
      obtain ⟨K3, s3, M3, E3, rfl, q3⟩ := d7
      replace d8 : u8 = _ := d8
      subst d8
      obtain ⟨rfl, rfl, rfl, rfl⟩ := q3.uniq Fq.nought
      go_simp
      exact hK.out _ _ (by first | rfl | (show Value.bool _ = Value.bool _; simp)) (Below.refl _ _)
    refine Jo.jcons (i := 10) (o := ⟨some 33, _, _, _, _, _⟩) (di := some 33) (L := [(some 26, 3), (some 32, 9)]) (f := Jo.Fact.eq (.bool false)) rfl rfl rfl rfl (fun vs wj hJ hd K hK => ?_) ?_
    · have d3 : (Jo.Fact.eq (.bool true)).P (vs 3) wj := hd 3 (by decide)
      have d9 : (Jo.Fact.eq (.bool false)).P (vs 9) wj := hd 9 (by decide)
      clear hd
      simp only [Jo.putl, List.foldl_cons, List.foldl_nil, Act.put, List.setIfInBounds_toArray, List.set_cons_zero, List.set_cons_succ] at hK ⊢
      generalize vs 3 = u3 at hK d3 ⊢
      generalize vs 9 = u9 at hK d9 ⊢
      replace d3 : u3 = _ := d3
      subst d3
      replace d9 : u9 = _ := d9
      subst d9
      go_simp
      exact hK.out _ _ rfl (Below.refl _ _)
    exact Jo.Steps.nil
  have d0 : (Jo.Fact.eq (.pointer (some ⟨w.heap.size, 0, none⟩))).P (vs 0) w5 := hd 0 (by decide)
  have d1 : (Jo.Fact.eq (.int .i64 1)).P (vs 1) w5 := hd 1 (by decide)
  have d2 : (Jo.Fact.eq (.bool true)).P (vs 2) w5 := hd 2 (by decide)
  have d3 : (Jo.Fact.eq (.bool true)).P (vs 3) w5 := hd 3 (by decide)
  have d4 : (Jo.Fact.eq (.agg #[.int .i64 1, .bool s0, .int .u64 M0, .int .i64 E0])).P (vs 4) w5 := hd 4 (by decide)
  have d5 : (Jo.Fact.eq (.agg #[.int .i64 1, .bool s0, .int .u64 M0, .int .i64 E0])).P (vs 5) w5 := hd 5 (by decide)
  have d6 : (Jo.Fact.eq (.bool b1)).P (vs 6) w5 := hd 6 (by decide)
  have d7 : (Jo.Fact.num 0).P (vs 7) w5 := hd 7 (by decide)
  have d8 : (Jo.Fact.eq (.agg #[.int .i64 0, .bool false, .int .u64 0, .int .i64 0])).P (vs 8) w5 := hd 8 (by decide)
  have d9 : (Jo.Fact.eq (.bool false)).P (vs 9) w5 := hd 9 (by decide)
  have d10 : (Jo.Fact.eq (.bool false)).P (vs 10) w5 := hd 10 (by decide)
  clear hd
  simp only [Jo.putl, List.foldl_cons, List.foldl_nil, Act.put, List.setIfInBounds_toArray, List.set_cons_zero, List.set_cons_succ]
  generalize vs 0 = u0 at d0 ⊢
  generalize vs 1 = u1 at d1 ⊢
  generalize vs 2 = u2 at d2 ⊢
  generalize vs 3 = u3 at d3 ⊢
  generalize vs 4 = u4 at d4 ⊢
  generalize vs 5 = u5 at d5 ⊢
  generalize vs 6 = u6 at d6 ⊢
  generalize vs 7 = u7 at d7 ⊢
  generalize vs 8 = u8 at d8 ⊢
  generalize vs 9 = u9 at d9 ⊢
  generalize vs 10 = u10 at d10 ⊢
  clear vs
  replace d0 : u0 = _ := d0
  subst d0
  replace d1 : u1 = _ := d1
  subst d1
  replace d2 : u2 = _ := d2
  subst d2
  replace d3 : u3 = _ := d3
  subst d3
  replace d4 : u4 = _ := d4
  subst d4
  replace d5 : u5 = _ := d5
  subst d5
  replace d6 : u6 = _ := d6
  subst d6
  obtain ⟨K3, s3, M3, E3, rfl, _⟩ := d7
  replace d8 : u8 = _ := d8
  subst d8
  replace d9 : u9 = _ := d9
  subst d9
  replace d10 : u10 = _ := d10
  subst d10
  replace X0 := X0.below hJ
  replace X6 := X6.below hJ
  replace hT := hT.below hJ
  replace HB := Lib.hid (bt HB.out hJ)
  refine Jo.jdone (by kernel_rfl) ?_
  go_upto_region 7 with (fail)
  refine Jo.region_joint (T := [0, 1, 2, 3, 4, 5, 6, 7, 8, 9, 10, 11, 12, 13, 14, 15, 16, 17, 18, 19, 20, 21, 22, 23, 24, 25, 26, 27, 28, 29, 30, 31, 32, 33, 34]) (ds := [some 34, some 35, some 36, some 37, some 38, some 39, some 40, some 41, some 42, some 43, some 44, some 45, some 46, some 47, some 48, some 49, some 50, some 51, some 52, some 53, some 54, some 55, some 56, some 57, some 58, some 59, some 60, some 61, some 62, some 63, some 64, some 65, some 66, some 67, some 4]) (ls := [[], [0], [1], [1], [1], [1, 2, 3, 4], [1], [1, 5, 6], [1, 7], [8], [9], [9], [9], [9, 10, 11, 12], [9], [9, 13, 14], [9, 15], [16], [17], [17], [17], [17, 18, 19, 20], [17], [17, 21, 22], [17, 23], [24], [25], [25], [25, 26, 27], [25], [25, 28, 29], [25], [25, 30, 31], [25, 32], [33]]) (k := 35) (L := [(some 34, 0), (some 35, 1), (some 36, 2), (some 37, 3), (some 38, 4), (some 39, 5), (some 40, 6), (some 41, 7), (some 42, 8), (some 43, 9), (some 44, 10), (some 45, 11), (some 46, 12), (some 47, 13), (some 48, 14), (some 49, 15), (some 50, 16), (some 51, 17), (some 52, 18), (some 53, 19), (some 54, 20), (some 55, 21), (some 56, 22), (some 57, 23), (some 58, 24), (some 59, 25), (some 60, 26), (some 61, 27), (some 62, 28), (some 63, 29), (some 64, 30), (some 65, 31), (some 66, 32), (some 67, 33), (some 4, 34)]) (fuel := 0) (J := fun wj => Below (World.heap w5).size w5 wj)
    (F := [Jo.Fact.eq (.bool true), Jo.Fact.eq (.bool true), Jo.Fact.eq (.agg #[.int .i64 1, .bool s0, .int .u64 M0, .int .i64 E0]), Jo.Fact.eq (.agg #[.int .i64 0, .bool false, .int .u64 0, .int .i64 0]), Jo.Fact.eq (.bool b1), Jo.Fact.num x, Jo.Fact.eq (.agg #[.int .i64 1, .bool s0, .int .u64 M0, .int .i64 E0]), Jo.Fact.eq (.bool true), Jo.Fact.eq (.bool true), Jo.Fact.eq (.bool true), Jo.Fact.eq (.agg #[.int .i64 1, .bool s0, .int .u64 M0, .int .i64 E0]), Jo.Fact.num o1, Jo.Fact.eq (.bool b1), Jo.Fact.num x, Jo.Fact.eq (.agg #[.int .i64 1, .bool s0, .int .u64 M0, .int .i64 E0]), Jo.Fact.eq (.bool true), Jo.Fact.eq (.bool true), Jo.Fact.eq (.bool true), Jo.Fact.eq (.agg #[.int .i64 1, .bool s0, .int .u64 M0, .int .i64 E0]), Jo.Fact.eq (.agg #[.int .i64 0, .bool false, .int .u64 0, .int .i64 0]), Jo.Fact.eq (.bool b1), Jo.Fact.num 0, Jo.Fact.eq (.agg #[.int .i64 0, .bool false, .int .u64 0, .int .i64 0]), Jo.Fact.eq (.bool true), Jo.Fact.eq (.bool true), Jo.Fact.eq (.bool true), Jo.Fact.eq (.agg #[.int .i64 1, .bool s0, .int .u64 M0, .int .i64 E0]), Jo.Fact.eq (.bool b1), Jo.Fact.num t, Jo.Fact.eq (.bool b1), Jo.Fact.num x, Jo.Fact.eq (.agg #[.int .i64 1, .bool s0, .int .u64 M0, .int .i64 E0]), Jo.Fact.eq (.bool true), Jo.Fact.eq (.bool true), Jo.Fact.eq (.bool true)])
    (by kernel_rfl) (by kernel_rfl) (by decide) rfl rfl (fun _ _ h b => bt h b) ((Below.refl _ _).drew) ?_ (fun vs w6 hJ hd => ?_)
  · refine Jo.jcons (i := 0) (o := ⟨some 34, _, _, _, _, _⟩) (di := some 34) (L := []) (f := Jo.Fact.eq (.bool true)) rfl rfl rfl rfl (fun vs wj hJ hd K hK => ?_) ?_
    · clear hd
      simp only [Jo.putl, List.foldl_nil, Act.put, List.setIfInBounds_toArray, List.set_cons_zero, List.set_cons_succ] at hK ⊢
      go_simp
      exact hK.out _ _ rfl (Below.refl _ _)
    refine Jo.jcons (i := 1) (o := ⟨some 35, _, _, _, _, _⟩) (di := some 35) (L := [(some 34, 0)]) (f := Jo.Fact.eq (.bool true)) rfl rfl rfl rfl (fun vs wj hJ hd K hK => ?_) ?_
    · have d0 : (Jo.Fact.eq (.bool true)).P (vs 0) wj := hd 0 (by decide)
      clear hd
      simp only [Jo.putl, List.foldl_cons, List.foldl_nil, Act.put, List.setIfInBounds_toArray, List.set_cons_zero, List.set_cons_succ] at hK ⊢
      generalize vs 0 = u0 at hK d0 ⊢
      replace d0 : u0 = _ := d0
      subst d0
      go_simp
      exact hK.out _ _ rfl (Below.refl _ _)
    refine Jo.jcons (i := 2) (o := ⟨some 36, _, _, _, _, _⟩) (di := some 36) (L := [(some 35, 1)]) (f := Jo.Fact.eq (.agg #[.int .i64 1, .bool s0, .int .u64 M0, .int .i64 E0])) rfl rfl rfl rfl (fun vs wj hJ hd K hK => ?_) ?_
    · have d1 : (Jo.Fact.eq (.bool true)).P (vs 1) wj := hd 1 (by decide)
      clear hd
      simp only [Jo.putl, List.foldl_cons, List.foldl_nil, Act.put, List.setIfInBounds_toArray, List.set_cons_zero, List.set_cons_succ] at hK ⊢
      generalize vs 1 = u1 at hK d1 ⊢
      replace d1 : u1 = _ := d1
      subst d1
      have xX00 : World.cell? wj ⟨w.heap.size, 0, none⟩ = some (.int .i64 1) := (X0.below hJ).cell 0
      have xX01 : World.cell? wj ⟨w.heap.size, 1, none⟩ = some (.bool s0) := (X0.below hJ).cell 1
      have xX02 : World.cell? wj ⟨w.heap.size, 2, none⟩ = some (.int .u64 M0) := (X0.below hJ).cell 2
      have xX03 : World.cell? wj ⟨w.heap.size, 3, none⟩ = some (.int .i64 E0) := (X0.below hJ).cell 3
      go_simp
      exact hK.out _ _ rfl (Below.refl _ _)
    refine Jo.jcons (i := 3) (o := ⟨some 37, _, _, _, _, _⟩) (di := some 37) (L := [(some 35, 1)]) (f := Jo.Fact.eq (.agg #[.int .i64 0, .bool false, .int .u64 0, .int .i64 0])) rfl rfl rfl rfl (fun vs wj hJ hd K hK => ?_) ?_
    · have d1 : (Jo.Fact.eq (.bool true)).P (vs 1) wj := hd 1 (by decide)
      clear hd
      simp only [Jo.putl, List.foldl_cons, List.foldl_nil, Act.put, List.setIfInBounds_toArray, List.set_cons_zero, List.set_cons_succ] at hK ⊢
      generalize vs 1 = u1 at hK d1 ⊢
      replace d1 : u1 = _ := d1
      subst d1
      have xX60 : World.cell? wj ⟨w3.heap.size, 0, none⟩ = some (.int .i64 0) := (X6.below hJ).cell 0
      have xX61 : World.cell? wj ⟨w3.heap.size, 1, none⟩ = some (.bool false) := (X6.below hJ).cell 1
      have xX62 : World.cell? wj ⟨w3.heap.size, 2, none⟩ = some (.int .u64 0) := (X6.below hJ).cell 2
      have xX63 : World.cell? wj ⟨w3.heap.size, 3, none⟩ = some (.int .i64 0) := (X6.below hJ).cell 3
      go_simp
      exact hK.out _ _ rfl (Below.refl _ _)
    refine Jo.jcons (i := 4) (o := ⟨some 38, _, _, _, _, _⟩) (di := some 38) (L := [(some 35, 1)]) (f := Jo.Fact.eq (.bool b1)) rfl rfl rfl rfl (fun vs wj hJ hd K hK => ?_) ?_
    · have d1 : (Jo.Fact.eq (.bool true)).P (vs 1) wj := hd 1 (by decide)
      clear hd
      simp only [Jo.putl, List.foldl_cons, List.foldl_nil, Act.put, List.setIfInBounds_toArray, List.set_cons_zero, List.set_cons_succ] at hK ⊢
      generalize vs 1 = u1 at hK d1 ⊢
      replace d1 : u1 = _ := d1
      subst d1
      go_simp
      exact hK.out _ _ rfl (Below.refl _ _)
    refine Jo.jcons (i := 5) (o := ⟨some 39, _, _, _, _, _⟩) (di := some 39) (L := [(some 35, 1), (some 36, 2), (some 37, 3), (some 38, 4)]) (f := Jo.Fact.num x) rfl rfl rfl rfl (fun vs wj hJ hd K hK => ?_) ?_
    · have d1 : (Jo.Fact.eq (.bool true)).P (vs 1) wj := hd 1 (by decide)
      have d2 : (Jo.Fact.eq (.agg #[.int .i64 1, .bool s0, .int .u64 M0, .int .i64 E0])).P (vs 2) wj := hd 2 (by decide)
      have d3 : (Jo.Fact.eq (.agg #[.int .i64 0, .bool false, .int .u64 0, .int .i64 0])).P (vs 3) wj := hd 3 (by decide)
      have d4 : (Jo.Fact.eq (.bool b1)).P (vs 4) wj := hd 4 (by decide)
      clear hd
      simp only [Jo.putl, List.foldl_cons, List.foldl_nil, Act.put, List.setIfInBounds_toArray, List.set_cons_zero, List.set_cons_succ] at hK ⊢
      generalize vs 1 = u1 at hK d1 ⊢
      generalize vs 2 = u2 at hK d2 ⊢
      generalize vs 3 = u3 at hK d3 ⊢
      generalize vs 4 = u4 at hK d4 ⊢
      replace d1 : u1 = _ := d1
      subst d1
      replace d2 : u2 = _ := d2
      subst d2
      replace d3 : u3 = _ := d3
      subst d3
      replace d4 : u4 = _ := d4
      subst d4
      go_simp
      refine (aAdd (hT.below hJ) q.top Fq.nought.top q.rk Fq.nought.rk HZ.out).mono ?_
      rintro ee wk ⟨K4, s4, M4, E4, rfl, q4, B⟩
      exact hK.out _ _ ⟨K4, s4, M4, E4, rfl, q4⟩ B
    refine Jo.jcons (i := 6) (o := ⟨some 40, _, _, _, _, _⟩) (di := some 40) (L := [(some 35, 1)]) (f := Jo.Fact.eq (.agg #[.int .i64 1, .bool s0, .int .u64 M0, .int .i64 E0])) rfl rfl rfl rfl (fun vs wj hJ hd K hK => ?_) ?_
    · have d1 : (Jo.Fact.eq (.bool true)).P (vs 1) wj := hd 1 (by decide)
      clear hd
      simp only [Jo.putl, List.foldl_cons, List.foldl_nil, Act.put, List.setIfInBounds_toArray, List.set_cons_zero, List.set_cons_succ] at hK ⊢
      generalize vs 1 = u1 at hK d1 ⊢
      replace d1 : u1 = _ := d1
      subst d1
      have xX00 : World.cell? wj ⟨w.heap.size, 0, none⟩ = some (.int .i64 1) := (X0.below hJ).cell 0
      have xX01 : World.cell? wj ⟨w.heap.size, 1, none⟩ = some (.bool s0) := (X0.below hJ).cell 1
      have xX02 : World.cell? wj ⟨w.heap.size, 2, none⟩ = some (.int .u64 M0) := (X0.below hJ).cell 2
      have xX03 : World.cell? wj ⟨w.heap.size, 3, none⟩ = some (.int .i64 E0) := (X0.below hJ).cell 3
      go_simp
      exact hK.out _ _ rfl (Below.refl _ _)
    refine Jo.jcons (i := 7) (o := ⟨some 41, _, _, _, _, _⟩) (di := some 41) (L := [(some 35, 1), (some 39, 5), (some 40, 6)]) (f := Jo.Fact.eq (.bool true)) rfl rfl rfl rfl (fun vs wj hJ hd K hK => ?_) ?_
    · have d1 : (Jo.Fact.eq (.bool true)).P (vs 1) wj := hd 1 (by decide)
      have d5 : (Jo.Fact.num x).P (vs 5) wj := hd 5 (by decide)
      have d6 : (Jo.Fact.eq (.agg #[.int .i64 1, .bool s0, .int .u64 M0, .int .i64 E0])).P (vs 6) wj := hd 6 (by decide)
      clear hd
      simp only [Jo.putl, List.foldl_cons, List.foldl_nil, Act.put, List.setIfInBounds_toArray, List.set_cons_zero, List.set_cons_succ] at hK ⊢
      generalize vs 1 = u1 at hK d1 ⊢
      generalize vs 5 = u5 at hK d5 ⊢
      generalize vs 6 = u6 at hK d6 ⊢
      replace d1 : u1 = _ := d1
      subst d1
      obtain ⟨K4, s4, M4, E4, rfl, q4⟩ := d5
      replace d6 : u6 = _ := d6
      subst d6
      obtain ⟨rfl, rfl, rfl, rfl⟩ := q4.uniq q
      go_simp
      exact hK.out _ _ (by first | rfl | (show Value.bool _ = Value.bool _; simp)) (Below.refl _ _)
    refine Jo.jcons (i := 8) (o := ⟨some 42, _, _, _, _, _⟩) (di := some 42) (L := [(some 35, 1), (some 41, 7)]) (f := Jo.Fact.eq (.bool true)) rfl rfl rfl rfl (fun vs wj hJ hd K hK => ?_) ?_
    · have d1 : (Jo.Fact.eq (.bool true)).P (vs 1) wj := hd 1 (by decide)
      have d7 : (Jo.Fact.eq (.bool true)).P (vs 7) wj := hd 7 (by decide)
      clear hd
      simp only [Jo.putl, List.foldl_cons, List.foldl_nil, Act.put, List.setIfInBounds_toArray, List.set_cons_zero, List.set_cons_succ] at hK ⊢
      generalize vs 1 = u1 at hK d1 ⊢
      generalize vs 7 = u7 at hK d7 ⊢
      replace d1 : u1 = _ := d1
      subst d1
      replace d7 : u7 = _ := d7
      subst d7
      go_simp
      exact hK.out _ _ rfl (Below.refl _ _)
    refine Jo.jcons (i := 9) (o := ⟨some 43, _, _, _, _, _⟩) (di := some 43) (L := [(some 42, 8)]) (f := Jo.Fact.eq (.bool true)) rfl rfl rfl rfl (fun vs wj hJ hd K hK => ?_) ?_
    · have d8 : (Jo.Fact.eq (.bool true)).P (vs 8) wj := hd 8 (by decide)
      clear hd
      simp only [Jo.putl, List.foldl_cons, List.foldl_nil, Act.put, List.setIfInBounds_toArray, List.set_cons_zero, List.set_cons_succ] at hK ⊢
      generalize vs 8 = u8 at hK d8 ⊢
      replace d8 : u8 = _ := d8
      subst d8
      go_simp
      exact hK.out _ _ rfl (Below.refl _ _)
    refine Jo.jcons (i := 10) (o := ⟨some 44, _, _, _, _, _⟩) (di := some 44) (L := [(some 43, 9)]) (f := Jo.Fact.eq (.agg #[.int .i64 1, .bool s0, .int .u64 M0, .int .i64 E0])) rfl rfl rfl rfl (fun vs wj hJ hd K hK => ?_) ?_
    · have d9 : (Jo.Fact.eq (.bool true)).P (vs 9) wj := hd 9 (by decide)
      clear hd
      simp only [Jo.putl, List.foldl_cons, List.foldl_nil, Act.put, List.setIfInBounds_toArray, List.set_cons_zero, List.set_cons_succ] at hK ⊢
      generalize vs 9 = u9 at hK d9 ⊢
      replace d9 : u9 = _ := d9
      subst d9
      have xX00 : World.cell? wj ⟨w.heap.size, 0, none⟩ = some (.int .i64 1) := (X0.below hJ).cell 0
      have xX01 : World.cell? wj ⟨w.heap.size, 1, none⟩ = some (.bool s0) := (X0.below hJ).cell 1
      have xX02 : World.cell? wj ⟨w.heap.size, 2, none⟩ = some (.int .u64 M0) := (X0.below hJ).cell 2
      have xX03 : World.cell? wj ⟨w.heap.size, 3, none⟩ = some (.int .i64 E0) := (X0.below hJ).cell 3
      go_simp
      exact hK.out _ _ rfl (Below.refl _ _)
    refine Jo.jcons (i := 11) (o := ⟨some 45, _, _, _, _, _⟩) (di := some 45) (L := [(some 43, 9)]) (f := Jo.Fact.num o1) rfl rfl rfl rfl (fun vs wj hJ hd K hK => ?_) ?_
    · have d9 : (Jo.Fact.eq (.bool true)).P (vs 9) wj := hd 9 (by decide)
      clear hd
      simp only [Jo.putl, List.foldl_cons, List.foldl_nil, Act.put, List.setIfInBounds_toArray, List.set_cons_zero, List.set_cons_succ] at hK ⊢
      generalize vs 9 = u9 at hK d9 ⊢
      replace d9 : u9 = _ := d9
      subst d9
      go_simp
      refine (nOf _ (by decide) (by decide) HO1.out).mono ?_
      rintro ee wk ⟨K5, s5, M5, E5, rfl, q5, B⟩
      exact hK.out _ _ ⟨K5, s5, M5, E5, rfl, q5⟩ B
    refine Jo.jcons (i := 12) (o := ⟨some 46, _, _, _, _, _⟩) (di := some 46) (L := [(some 43, 9)]) (f := Jo.Fact.eq (.bool b1)) rfl rfl rfl rfl (fun vs wj hJ hd K hK => ?_) ?_
    · have d9 : (Jo.Fact.eq (.bool true)).P (vs 9) wj := hd 9 (by decide)
      clear hd
      simp only [Jo.putl, List.foldl_cons, List.foldl_nil, Act.put, List.setIfInBounds_toArray, List.set_cons_zero, List.set_cons_succ] at hK ⊢
      generalize vs 9 = u9 at hK d9 ⊢
      replace d9 : u9 = _ := d9
      subst d9
      go_simp
      exact hK.out _ _ rfl (Below.refl _ _)
    refine Jo.jcons (i := 13) (o := ⟨some 47, _, _, _, _, _⟩) (di := some 47) (L := [(some 43, 9), (some 44, 10), (some 45, 11), (some 46, 12)]) (f := Jo.Fact.num x) rfl rfl rfl rfl (fun vs wj hJ hd K hK => ?_) ?_
    · have d9 : (Jo.Fact.eq (.bool true)).P (vs 9) wj := hd 9 (by decide)
      have d10 : (Jo.Fact.eq (.agg #[.int .i64 1, .bool s0, .int .u64 M0, .int .i64 E0])).P (vs 10) wj := hd 10 (by decide)
      have d11 : (Jo.Fact.num o1).P (vs 11) wj := hd 11 (by decide)
      have d12 : (Jo.Fact.eq (.bool b1)).P (vs 12) wj := hd 12 (by decide)
      clear hd
      simp only [Jo.putl, List.foldl_cons, List.foldl_nil, Act.put, List.setIfInBounds_toArray, List.set_cons_zero, List.set_cons_succ] at hK ⊢
      generalize vs 9 = u9 at hK d9 ⊢
      generalize vs 10 = u10 at hK d10 ⊢
      generalize vs 11 = u11 at hK d11 ⊢
      generalize vs 12 = u12 at hK d12 ⊢
      replace d9 : u9 = _ := d9
      subst d9
      replace d10 : u10 = _ := d10
      subst d10
      obtain ⟨K5, s5, M5, E5, rfl, q5⟩ := d11
      replace d12 : u12 = _ := d12
      subst d12
      go_simp
      refine (aMul q.top q5.top q.rk q5.rk HONE.out).mono ?_
      rintro ee wk ⟨K6, s6, M6, E6, rfl, q6, B⟩
      exact hK.out _ _ ⟨K6, s6, M6, E6, rfl, q6⟩ B
    refine Jo.jcons (i := 14) (o := ⟨some 48, _, _, _, _, _⟩) (di := some 48) (L := [(some 43, 9)]) (f := Jo.Fact.eq (.agg #[.int .i64 1, .bool s0, .int .u64 M0, .int .i64 E0])) rfl rfl rfl rfl (fun vs wj hJ hd K hK => ?_) ?_
    · have d9 : (Jo.Fact.eq (.bool true)).P (vs 9) wj := hd 9 (by decide)
      clear hd
      simp only [Jo.putl, List.foldl_cons, List.foldl_nil, Act.put, List.setIfInBounds_toArray, List.set_cons_zero, List.set_cons_succ] at hK ⊢
      generalize vs 9 = u9 at hK d9 ⊢
      replace d9 : u9 = _ := d9
      subst d9
      have xX00 : World.cell? wj ⟨w.heap.size, 0, none⟩ = some (.int .i64 1) := (X0.below hJ).cell 0
      have xX01 : World.cell? wj ⟨w.heap.size, 1, none⟩ = some (.bool s0) := (X0.below hJ).cell 1
      have xX02 : World.cell? wj ⟨w.heap.size, 2, none⟩ = some (.int .u64 M0) := (X0.below hJ).cell 2
      have xX03 : World.cell? wj ⟨w.heap.size, 3, none⟩ = some (.int .i64 E0) := (X0.below hJ).cell 3
      go_simp
      exact hK.out _ _ rfl (Below.refl _ _)
    refine Jo.jcons (i := 15) (o := ⟨some 49, _, _, _, _, _⟩) (di := some 49) (L := [(some 43, 9), (some 47, 13), (some 48, 14)]) (f := Jo.Fact.eq (.bool true)) rfl rfl rfl rfl (fun vs wj hJ hd K hK => ?_) ?_
    · have d9 : (Jo.Fact.eq (.bool true)).P (vs 9) wj := hd 9 (by decide)
      have d13 : (Jo.Fact.num x).P (vs 13) wj := hd 13 (by decide)
      have d14 : (Jo.Fact.eq (.agg #[.int .i64 1, .bool s0, .int .u64 M0, .int .i64 E0])).P (vs 14) wj := hd 14 (by decide)
      clear hd
      simp only [Jo.putl, List.foldl_cons, List.foldl_nil, Act.put, List.setIfInBounds_toArray, List.set_cons_zero, List.set_cons_succ] at hK ⊢
      generalize vs 9 = u9 at hK d9 ⊢
      generalize vs 13 = u13 at hK d13 ⊢
      generalize vs 14 = u14 at hK d14 ⊢
      replace d9 : u9 = _ := d9
      subst d9
      obtain ⟨K6, s6, M6, E6, rfl, q6⟩ := d13
      replace d14 : u14 = _ := d14
      subst d14
      obtain ⟨rfl, rfl, rfl, rfl⟩ := q6.uniq q
      go_simp
      exact hK.out _ _ (by first | rfl | (show Value.bool _ = Value.bool _; simp)) (Below.refl _ _)
    refine Jo.jcons (i := 16) (o := ⟨some 50, _, _, _, _, _⟩) (di := some 50) (L := [(some 43, 9), (some 49, 15)]) (f := Jo.Fact.eq (.bool true)) rfl rfl rfl rfl (fun vs wj hJ hd K hK => ?_) ?_
    · have d9 : (Jo.Fact.eq (.bool true)).P (vs 9) wj := hd 9 (by decide)
      have d15 : (Jo.Fact.eq (.bool true)).P (vs 15) wj := hd 15 (by decide)
      clear hd
      simp only [Jo.putl, List.foldl_cons, List.foldl_nil, Act.put, List.setIfInBounds_toArray, List.set_cons_zero, List.set_cons_succ] at hK ⊢
      generalize vs 9 = u9 at hK d9 ⊢
      generalize vs 15 = u15 at hK d15 ⊢
      replace d9 : u9 = _ := d9
      subst d9
      replace d15 : u15 = _ := d15
      subst d15
      go_simp
      exact hK.out _ _ rfl (Below.refl _ _)
    refine Jo.jcons (i := 17) (o := ⟨some 51, _, _, _, _, _⟩) (di := some 51) (L := [(some 50, 16)]) (f := Jo.Fact.eq (.bool true)) rfl rfl rfl rfl (fun vs wj hJ hd K hK => ?_) ?_
    · have d16 : (Jo.Fact.eq (.bool true)).P (vs 16) wj := hd 16 (by decide)
      clear hd
      simp only [Jo.putl, List.foldl_cons, List.foldl_nil, Act.put, List.setIfInBounds_toArray, List.set_cons_zero, List.set_cons_succ] at hK ⊢
      generalize vs 16 = u16 at hK d16 ⊢
      replace d16 : u16 = _ := d16
      subst d16
      go_simp
      exact hK.out _ _ rfl (Below.refl _ _)
    refine Jo.jcons (i := 18) (o := ⟨some 52, _, _, _, _, _⟩) (di := some 52) (L := [(some 51, 17)]) (f := Jo.Fact.eq (.agg #[.int .i64 1, .bool s0, .int .u64 M0, .int .i64 E0])) rfl rfl rfl rfl (fun vs wj hJ hd K hK => ?_) ?_
    · have d17 : (Jo.Fact.eq (.bool true)).P (vs 17) wj := hd 17 (by decide)
      clear hd
      simp only [Jo.putl, List.foldl_cons, List.foldl_nil, Act.put, List.setIfInBounds_toArray, List.set_cons_zero, List.set_cons_succ] at hK ⊢
      generalize vs 17 = u17 at hK d17 ⊢
      replace d17 : u17 = _ := d17
      subst d17
      have xX00 : World.cell? wj ⟨w.heap.size, 0, none⟩ = some (.int .i64 1) := (X0.below hJ).cell 0
      have xX01 : World.cell? wj ⟨w.heap.size, 1, none⟩ = some (.bool s0) := (X0.below hJ).cell 1
      have xX02 : World.cell? wj ⟨w.heap.size, 2, none⟩ = some (.int .u64 M0) := (X0.below hJ).cell 2
      have xX03 : World.cell? wj ⟨w.heap.size, 3, none⟩ = some (.int .i64 E0) := (X0.below hJ).cell 3
      go_simp
      exact hK.out _ _ rfl (Below.refl _ _)
    refine Jo.jcons (i := 19) (o := ⟨some 53, _, _, _, _, _⟩) (di := some 53) (L := [(some 51, 17)]) (f := Jo.Fact.eq (.agg #[.int .i64 0, .bool false, .int .u64 0, .int .i64 0])) rfl rfl rfl rfl (fun vs wj hJ hd K hK => ?_) ?_
    · have d17 : (Jo.Fact.eq (.bool true)).P (vs 17) wj := hd 17 (by decide)
      clear hd
      simp only [Jo.putl, List.foldl_cons, List.foldl_nil, Act.put, List.setIfInBounds_toArray, List.set_cons_zero, List.set_cons_succ] at hK ⊢
      generalize vs 17 = u17 at hK d17 ⊢
      replace d17 : u17 = _ := d17
      subst d17
      have xX60 : World.cell? wj ⟨w3.heap.size, 0, none⟩ = some (.int .i64 0) := (X6.below hJ).cell 0
      have xX61 : World.cell? wj ⟨w3.heap.size, 1, none⟩ = some (.bool false) := (X6.below hJ).cell 1
      have xX62 : World.cell? wj ⟨w3.heap.size, 2, none⟩ = some (.int .u64 0) := (X6.below hJ).cell 2
      have xX63 : World.cell? wj ⟨w3.heap.size, 3, none⟩ = some (.int .i64 0) := (X6.below hJ).cell 3
      go_simp
      exact hK.out _ _ rfl (Below.refl _ _)
    refine Jo.jcons (i := 20) (o := ⟨some 54, _, _, _, _, _⟩) (di := some 54) (L := [(some 51, 17)]) (f := Jo.Fact.eq (.bool b1)) rfl rfl rfl rfl (fun vs wj hJ hd K hK => ?_) ?_
    · have d17 : (Jo.Fact.eq (.bool true)).P (vs 17) wj := hd 17 (by decide)
      clear hd
      simp only [Jo.putl, List.foldl_cons, List.foldl_nil, Act.put, List.setIfInBounds_toArray, List.set_cons_zero, List.set_cons_succ] at hK ⊢
      generalize vs 17 = u17 at hK d17 ⊢
      replace d17 : u17 = _ := d17
      subst d17
      go_simp
      exact hK.out _ _ rfl (Below.refl _ _)
    refine Jo.jcons (i := 21) (o := ⟨some 55, _, _, _, _, _⟩) (di := some 55) (L := [(some 51, 17), (some 52, 18), (some 53, 19), (some 54, 20)]) (f := Jo.Fact.num 0) rfl rfl rfl rfl (fun vs wj hJ hd K hK => ?_) ?_
    · have d17 : (Jo.Fact.eq (.bool true)).P (vs 17) wj := hd 17 (by decide)
      have d18 : (Jo.Fact.eq (.agg #[.int .i64 1, .bool s0, .int .u64 M0, .int .i64 E0])).P (vs 18) wj := hd 18 (by decide)
      have d19 : (Jo.Fact.eq (.agg #[.int .i64 0, .bool false, .int .u64 0, .int .i64 0])).P (vs 19) wj := hd 19 (by decide)
      have d20 : (Jo.Fact.eq (.bool b1)).P (vs 20) wj := hd 20 (by decide)
      clear hd
      simp only [Jo.putl, List.foldl_cons, List.foldl_nil, Act.put, List.setIfInBounds_toArray, List.set_cons_zero, List.set_cons_succ] at hK ⊢
      generalize vs 17 = u17 at hK d17 ⊢
      generalize vs 18 = u18 at hK d18 ⊢
      generalize vs 19 = u19 at hK d19 ⊢
      generalize vs 20 = u20 at hK d20 ⊢
      replace d17 : u17 = _ := d17
      subst d17
      replace d18 : u18 = _ := d18
      subst d18
      replace d19 : u19 = _ := d19
      subst d19
      replace d20 : u20 = _ := d20
      subst d20
      go_simp
      refine (aMul q.top Fq.nought.top q.rk Fq.nought.rk HMZ.out).mono ?_
      rintro ee wk ⟨K7, s7, M7, E7, rfl, q7, B⟩
      exact hK.out _ _ ⟨K7, s7, M7, E7, rfl, q7⟩ B
    refine Jo.jcons (i := 22) (o := ⟨some 56, _, _, _, _, _⟩) (di := some 56) (L := [(some 51, 17)]) (f := Jo.Fact.eq (.agg #[.int .i64 0, .bool false, .int .u64 0, .int .i64 0])) rfl rfl rfl rfl (fun vs wj hJ hd K hK => ?_) ?_
    · have d17 : (Jo.Fact.eq (.bool true)).P (vs 17) wj := hd 17 (by decide)
      clear hd
      simp only [Jo.putl, List.foldl_cons, List.foldl_nil, Act.put, List.setIfInBounds_toArray, List.set_cons_zero, List.set_cons_succ] at hK ⊢
      generalize vs 17 = u17 at hK d17 ⊢
      replace d17 : u17 = _ := d17
      subst d17
      have xX60 : World.cell? wj ⟨w3.heap.size, 0, none⟩ = some (.int .i64 0) := (X6.below hJ).cell 0
      have xX61 : World.cell? wj ⟨w3.heap.size, 1, none⟩ = some (.bool false) := (X6.below hJ).cell 1
      have xX62 : World.cell? wj ⟨w3.heap.size, 2, none⟩ = some (.int .u64 0) := (X6.below hJ).cell 2
      have xX63 : World.cell? wj ⟨w3.heap.size, 3, none⟩ = some (.int .i64 0) := (X6.below hJ).cell 3
      go_simp
      exact hK.out _ _ rfl (Below.refl _ _)
    refine Jo.jcons (i := 23) (o := ⟨some 57, _, _, _, _, _⟩) (di := some 57) (L := [(some 51, 17), (some 55, 21), (some 56, 22)]) (f := Jo.Fact.eq (.bool true)) rfl rfl rfl rfl (fun vs wj hJ hd K hK => ?_) ?_
    · have d17 : (Jo.Fact.eq (.bool true)).P (vs 17) wj := hd 17 (by decide)
      have d21 : (Jo.Fact.num 0).P (vs 21) wj := hd 21 (by decide)
      have d22 : (Jo.Fact.eq (.agg #[.int .i64 0, .bool false, .int .u64 0, .int .i64 0])).P (vs 22) wj := hd 22 (by decide)
      clear hd
      simp only [Jo.putl, List.foldl_cons, List.foldl_nil, Act.put, List.setIfInBounds_toArray, List.set_cons_zero, List.set_cons_succ] at hK ⊢
      generalize vs 17 = u17 at hK d17 ⊢
      generalize vs 21 = u21 at hK d21 ⊢
      generalize vs 22 = u22 at hK d22 ⊢
      replace d17 : u17 = _ := d17
      subst d17
      obtain ⟨K7, s7, M7, E7, rfl, q7⟩ := d21
      replace d22 : u22 = _ := d22
      subst d22
      obtain ⟨rfl, rfl, rfl, rfl⟩ := q7.uniq Fq.nought
      go_simp
      exact hK.out _ _ (by first | rfl | (show Value.bool _ = Value.bool _; simp)) (Below.refl _ _)
    refine Jo.jcons (i := 24) (o := ⟨some 58, _, _, _, _, _⟩) (di := some 58) (L := [(some 51, 17), (some 57, 23)]) (f := Jo.Fact.eq (.bool true)) rfl rfl rfl rfl (fun vs wj hJ hd K hK => ?_) ?_
    · have d17 : (Jo.Fact.eq (.bool true)).P (vs 17) wj := hd 17 (by decide)
      have d23 : (Jo.Fact.eq (.bool true)).P (vs 23) wj := hd 23 (by decide)
      clear hd
      simp only [Jo.putl, List.foldl_cons, List.foldl_nil, Act.put, List.setIfInBounds_toArray, List.set_cons_zero, List.set_cons_succ] at hK ⊢
      generalize vs 17 = u17 at hK d17 ⊢
      generalize vs 23 = u23 at hK d23 ⊢
      replace d17 : u17 = _ := d17
      subst d17
      replace d23 : u23 = _ := d23
      subst d23
      go_simp
      exact hK.out _ _ rfl (Below.refl _ _)
    refine Jo.jcons (i := 25) (o := ⟨some 59, _, _, _, _, _⟩) (di := some 59) (L := [(some 58, 24)]) (f := Jo.Fact.eq (.bool true)) rfl rfl rfl rfl (fun vs wj hJ hd K hK => ?_) ?_
    · have d24 : (Jo.Fact.eq (.bool true)).P (vs 24) wj := hd 24 (by decide)
      clear hd
      simp only [Jo.putl, List.foldl_cons, List.foldl_nil, Act.put, List.setIfInBounds_toArray, List.set_cons_zero, List.set_cons_succ] at hK ⊢
      generalize vs 24 = u24 at hK d24 ⊢
      replace d24 : u24 = _ := d24
      subst d24
      go_simp
      exact hK.out _ _ rfl (Below.refl _ _)
    refine Jo.jcons (i := 26) (o := ⟨some 60, _, _, _, _, _⟩) (di := some 60) (L := [(some 59, 25)]) (f := Jo.Fact.eq (.agg #[.int .i64 1, .bool s0, .int .u64 M0, .int .i64 E0])) rfl rfl rfl rfl (fun vs wj hJ hd K hK => ?_) ?_
    · have d25 : (Jo.Fact.eq (.bool true)).P (vs 25) wj := hd 25 (by decide)
      clear hd
      simp only [Jo.putl, List.foldl_cons, List.foldl_nil, Act.put, List.setIfInBounds_toArray, List.set_cons_zero, List.set_cons_succ] at hK ⊢
      generalize vs 25 = u25 at hK d25 ⊢
      replace d25 : u25 = _ := d25
      subst d25
      have xX00 : World.cell? wj ⟨w.heap.size, 0, none⟩ = some (.int .i64 1) := (X0.below hJ).cell 0
      have xX01 : World.cell? wj ⟨w.heap.size, 1, none⟩ = some (.bool s0) := (X0.below hJ).cell 1
      have xX02 : World.cell? wj ⟨w.heap.size, 2, none⟩ = some (.int .u64 M0) := (X0.below hJ).cell 2
      have xX03 : World.cell? wj ⟨w.heap.size, 3, none⟩ = some (.int .i64 E0) := (X0.below hJ).cell 3
      go_simp
      exact hK.out _ _ rfl (Below.refl _ _)
    refine Jo.jcons (i := 27) (o := ⟨some 61, _, _, _, _, _⟩) (di := some 61) (L := [(some 59, 25)]) (f := Jo.Fact.eq (.bool b1)) rfl rfl rfl rfl (fun vs wj hJ hd K hK => ?_) ?_
    · have d25 : (Jo.Fact.eq (.bool true)).P (vs 25) wj := hd 25 (by decide)
      clear hd
      simp only [Jo.putl, List.foldl_cons, List.foldl_nil, Act.put, List.setIfInBounds_toArray, List.set_cons_zero, List.set_cons_succ] at hK ⊢
      generalize vs 25 = u25 at hK d25 ⊢
      replace d25 : u25 = _ := d25
      subst d25
      go_simp
      exact hK.out _ _ rfl (Below.refl _ _)
    refine Jo.jcons (i := 28) (o := ⟨some 62, _, _, _, _, _⟩) (di := some 62) (L := [(some 59, 25), (some 60, 26), (some 61, 27)]) (f := Jo.Fact.num t) rfl rfl rfl rfl (fun vs wj hJ hd K hK => ?_) ?_
    · have d25 : (Jo.Fact.eq (.bool true)).P (vs 25) wj := hd 25 (by decide)
      have d26 : (Jo.Fact.eq (.agg #[.int .i64 1, .bool s0, .int .u64 M0, .int .i64 E0])).P (vs 26) wj := hd 26 (by decide)
      have d27 : (Jo.Fact.eq (.bool b1)).P (vs 27) wj := hd 27 (by decide)
      clear hd
      simp only [Jo.putl, List.foldl_cons, List.foldl_nil, Act.put, List.setIfInBounds_toArray, List.set_cons_zero, List.set_cons_succ] at hK ⊢
      generalize vs 25 = u25 at hK d25 ⊢
      generalize vs 26 = u26 at hK d26 ⊢
      generalize vs 27 = u27 at hK d27 ⊢
      replace d25 : u25 = _ := d25
      subst d25
      replace d26 : u26 = _ := d26
      subst d26
      replace d27 : u27 = _ := d27
      subst d27
      go_simp
      refine (aTwice q.top q.rk HT2.out).mono ?_
      rintro ee wk ⟨K8, s8, M8, E8, rfl, q8, B⟩
      exact hK.out _ _ ⟨K8, s8, M8, E8, rfl, q8⟩ B
    refine Jo.jcons (i := 29) (o := ⟨some 63, _, _, _, _, _⟩) (di := some 63) (L := [(some 59, 25)]) (f := Jo.Fact.eq (.bool b1)) rfl rfl rfl rfl (fun vs wj hJ hd K hK => ?_) ?_
    · have d25 : (Jo.Fact.eq (.bool true)).P (vs 25) wj := hd 25 (by decide)
      clear hd
      simp only [Jo.putl, List.foldl_cons, List.foldl_nil, Act.put, List.setIfInBounds_toArray, List.set_cons_zero, List.set_cons_succ] at hK ⊢
      generalize vs 25 = u25 at hK d25 ⊢
      replace d25 : u25 = _ := d25
      subst d25
      go_simp
      exact hK.out _ _ rfl (Below.refl _ _)
    refine Jo.jcons (i := 30) (o := ⟨some 64, _, _, _, _, _⟩) (di := some 64) (L := [(some 59, 25), (some 62, 28), (some 63, 29)]) (f := Jo.Fact.num x) rfl rfl rfl rfl (fun vs wj hJ hd K hK => ?_) ?_
    · have d25 : (Jo.Fact.eq (.bool true)).P (vs 25) wj := hd 25 (by decide)
      have d28 : (Jo.Fact.num t).P (vs 28) wj := hd 28 (by decide)
      have d29 : (Jo.Fact.eq (.bool b1)).P (vs 29) wj := hd 29 (by decide)
      clear hd
      simp only [Jo.putl, List.foldl_cons, List.foldl_nil, Act.put, List.setIfInBounds_toArray, List.set_cons_zero, List.set_cons_succ] at hK ⊢
      generalize vs 25 = u25 at hK d25 ⊢
      generalize vs 28 = u28 at hK d28 ⊢
      generalize vs 29 = u29 at hK d29 ⊢
      replace d25 : u25 = _ := d25
      subst d25
      obtain ⟨K8, s8, M8, E8, rfl, q8⟩ := d28
      replace d29 : u29 = _ := d29
      subst d29
      go_simp
      refine (aHalf q8.top q8.rk HH.out).mono ?_
      rintro ee wk ⟨K9, s9, M9, E9, rfl, q9, B⟩
      exact hK.out _ _ ⟨K9, s9, M9, E9, rfl, q9⟩ B
    refine Jo.jcons (i := 31) (o := ⟨some 65, _, _, _, _, _⟩) (di := some 65) (L := [(some 59, 25)]) (f := Jo.Fact.eq (.agg #[.int .i64 1, .bool s0, .int .u64 M0, .int .i64 E0])) rfl rfl rfl rfl (fun vs wj hJ hd K hK => ?_) ?_
    · have d25 : (Jo.Fact.eq (.bool true)).P (vs 25) wj := hd 25 (by decide)
      clear hd
      simp only [Jo.putl, List.foldl_cons, List.foldl_nil, Act.put, List.setIfInBounds_toArray, List.set_cons_zero, List.set_cons_succ] at hK ⊢
      generalize vs 25 = u25 at hK d25 ⊢
      replace d25 : u25 = _ := d25
      subst d25
      have xX00 : World.cell? wj ⟨w.heap.size, 0, none⟩ = some (.int .i64 1) := (X0.below hJ).cell 0
      have xX01 : World.cell? wj ⟨w.heap.size, 1, none⟩ = some (.bool s0) := (X0.below hJ).cell 1
      have xX02 : World.cell? wj ⟨w.heap.size, 2, none⟩ = some (.int .u64 M0) := (X0.below hJ).cell 2
      have xX03 : World.cell? wj ⟨w.heap.size, 3, none⟩ = some (.int .i64 E0) := (X0.below hJ).cell 3
      go_simp
      exact hK.out _ _ rfl (Below.refl _ _)
    refine Jo.jcons (i := 32) (o := ⟨some 66, _, _, _, _, _⟩) (di := some 66) (L := [(some 59, 25), (some 64, 30), (some 65, 31)]) (f := Jo.Fact.eq (.bool true)) rfl rfl rfl rfl (fun vs wj hJ hd K hK => ?_) ?_
    · have d25 : (Jo.Fact.eq (.bool true)).P (vs 25) wj := hd 25 (by decide)
      have d30 : (Jo.Fact.num x).P (vs 30) wj := hd 30 (by decide)
      have d31 : (Jo.Fact.eq (.agg #[.int .i64 1, .bool s0, .int .u64 M0, .int .i64 E0])).P (vs 31) wj := hd 31 (by decide)
      clear hd
      simp only [Jo.putl, List.foldl_cons, List.foldl_nil, Act.put, List.setIfInBounds_toArray, List.set_cons_zero, List.set_cons_succ] at hK ⊢
      generalize vs 25 = u25 at hK d25 ⊢
      generalize vs 30 = u30 at hK d30 ⊢
      generalize vs 31 = u31 at hK d31 ⊢
      replace d25 : u25 = _ := d25
      subst d25
      obtain ⟨K9, s9, M9, E9, rfl, q9⟩ := d30
      replace d31 : u31 = _ := d31
      subst d31
      obtain ⟨rfl, rfl, rfl, rfl⟩ := q9.uniq q
      go_simp
      exact hK.out _ _ (by first | rfl | (show Value.bool _ = Value.bool _; simp)) (Below.refl _ _)
    refine Jo.jcons (i := 33) (o := ⟨some 67, _, _, _, _, _⟩) (di := some 67) (L := [(some 59, 25), (some 66, 32)]) (f := Jo.Fact.eq (.bool true)) rfl rfl rfl rfl (fun vs wj hJ hd K hK => ?_) ?_
    · have d25 : (Jo.Fact.eq (.bool true)).P (vs 25) wj := hd 25 (by decide)
      have d32 : (Jo.Fact.eq (.bool true)).P (vs 32) wj := hd 32 (by decide)
      clear hd
      simp only [Jo.putl, List.foldl_cons, List.foldl_nil, Act.put, List.setIfInBounds_toArray, List.set_cons_zero, List.set_cons_succ] at hK ⊢
      generalize vs 25 = u25 at hK d25 ⊢
      generalize vs 32 = u32 at hK d32 ⊢
      replace d25 : u25 = _ := d25
      subst d25
      replace d32 : u32 = _ := d32
      subst d32
      go_simp
      exact hK.out _ _ rfl (Below.refl _ _)
    refine Jo.jcons (i := 34) (o := ⟨some 4, _, _, _, _, _⟩) (di := some 4) (L := [(some 67, 33)]) (f := Jo.Fact.eq (.bool true)) rfl rfl rfl rfl (fun vs wj hJ hd K hK => ?_) ?_
    · have d33 : (Jo.Fact.eq (.bool true)).P (vs 33) wj := hd 33 (by decide)
      clear hd
      simp only [Jo.putl, List.foldl_cons, List.foldl_nil, Act.put, List.setIfInBounds_toArray, List.set_cons_zero, List.set_cons_succ] at hK ⊢
      generalize vs 33 = u33 at hK d33 ⊢
      replace d33 : u33 = _ := d33
      subst d33
      go_simp
      exact hK.out _ _ rfl (Below.refl _ _)
    exact Jo.Steps.nil
  have d0 : (Jo.Fact.eq (.bool true)).P (vs 0) w6 := hd 0 (by decide)
  have d1 : (Jo.Fact.eq (.bool true)).P (vs 1) w6 := hd 1 (by decide)
  have d2 : (Jo.Fact.eq (.agg #[.int .i64 1, .bool s0, .int .u64 M0, .int .i64 E0])).P (vs 2) w6 := hd 2 (by decide)
  have d3 : (Jo.Fact.eq (.agg #[.int .i64 0, .bool false, .int .u64 0, .int .i64 0])).P (vs 3) w6 := hd 3 (by decide)
  have d4 : (Jo.Fact.eq (.bool b1)).P (vs 4) w6 := hd 4 (by decide)
  have d5 : (Jo.Fact.num x).P (vs 5) w6 := hd 5 (by decide)
  have d6 : (Jo.Fact.eq (.agg #[.int .i64 1, .bool s0, .int .u64 M0, .int .i64 E0])).P (vs 6) w6 := hd 6 (by decide)
  have d7 : (Jo.Fact.eq (.bool true)).P (vs 7) w6 := hd 7 (by decide)
  have d8 : (Jo.Fact.eq (.bool true)).P (vs 8) w6 := hd 8 (by decide)
  have d9 : (Jo.Fact.eq (.bool true)).P (vs 9) w6 := hd 9 (by decide)
  have d10 : (Jo.Fact.eq (.agg #[.int .i64 1, .bool s0, .int .u64 M0, .int .i64 E0])).P (vs 10) w6 := hd 10 (by decide)
  have d11 : (Jo.Fact.num o1).P (vs 11) w6 := hd 11 (by decide)
  have d12 : (Jo.Fact.eq (.bool b1)).P (vs 12) w6 := hd 12 (by decide)
  have d13 : (Jo.Fact.num x).P (vs 13) w6 := hd 13 (by decide)
  have d14 : (Jo.Fact.eq (.agg #[.int .i64 1, .bool s0, .int .u64 M0, .int .i64 E0])).P (vs 14) w6 := hd 14 (by decide)
  have d15 : (Jo.Fact.eq (.bool true)).P (vs 15) w6 := hd 15 (by decide)
  have d16 : (Jo.Fact.eq (.bool true)).P (vs 16) w6 := hd 16 (by decide)
  have d17 : (Jo.Fact.eq (.bool true)).P (vs 17) w6 := hd 17 (by decide)
  have d18 : (Jo.Fact.eq (.agg #[.int .i64 1, .bool s0, .int .u64 M0, .int .i64 E0])).P (vs 18) w6 := hd 18 (by decide)
  have d19 : (Jo.Fact.eq (.agg #[.int .i64 0, .bool false, .int .u64 0, .int .i64 0])).P (vs 19) w6 := hd 19 (by decide)
  have d20 : (Jo.Fact.eq (.bool b1)).P (vs 20) w6 := hd 20 (by decide)
  have d21 : (Jo.Fact.num 0).P (vs 21) w6 := hd 21 (by decide)
  have d22 : (Jo.Fact.eq (.agg #[.int .i64 0, .bool false, .int .u64 0, .int .i64 0])).P (vs 22) w6 := hd 22 (by decide)
  have d23 : (Jo.Fact.eq (.bool true)).P (vs 23) w6 := hd 23 (by decide)
  have d24 : (Jo.Fact.eq (.bool true)).P (vs 24) w6 := hd 24 (by decide)
  have d25 : (Jo.Fact.eq (.bool true)).P (vs 25) w6 := hd 25 (by decide)
  have d26 : (Jo.Fact.eq (.agg #[.int .i64 1, .bool s0, .int .u64 M0, .int .i64 E0])).P (vs 26) w6 := hd 26 (by decide)
  have d27 : (Jo.Fact.eq (.bool b1)).P (vs 27) w6 := hd 27 (by decide)
  have d28 : (Jo.Fact.num t).P (vs 28) w6 := hd 28 (by decide)
  have d29 : (Jo.Fact.eq (.bool b1)).P (vs 29) w6 := hd 29 (by decide)
  have d30 : (Jo.Fact.num x).P (vs 30) w6 := hd 30 (by decide)
  have d31 : (Jo.Fact.eq (.agg #[.int .i64 1, .bool s0, .int .u64 M0, .int .i64 E0])).P (vs 31) w6 := hd 31 (by decide)
  have d32 : (Jo.Fact.eq (.bool true)).P (vs 32) w6 := hd 32 (by decide)
  have d33 : (Jo.Fact.eq (.bool true)).P (vs 33) w6 := hd 33 (by decide)
  have d34 : (Jo.Fact.eq (.bool true)).P (vs 34) w6 := hd 34 (by decide)
  clear hd
  simp only [Jo.putl, List.foldl_cons, List.foldl_nil, Act.put, List.setIfInBounds_toArray, List.set_cons_zero, List.set_cons_succ]
  generalize vs 0 = u0 at d0 ⊢
  generalize vs 1 = u1 at d1 ⊢
  generalize vs 2 = u2 at d2 ⊢
  generalize vs 3 = u3 at d3 ⊢
  generalize vs 4 = u4 at d4 ⊢
  generalize vs 5 = u5 at d5 ⊢
  generalize vs 6 = u6 at d6 ⊢
  generalize vs 7 = u7 at d7 ⊢
  generalize vs 8 = u8 at d8 ⊢
  generalize vs 9 = u9 at d9 ⊢
  generalize vs 10 = u10 at d10 ⊢
  generalize vs 11 = u11 at d11 ⊢
  generalize vs 12 = u12 at d12 ⊢
  generalize vs 13 = u13 at d13 ⊢
  generalize vs 14 = u14 at d14 ⊢
  generalize vs 15 = u15 at d15 ⊢
  generalize vs 16 = u16 at d16 ⊢
  generalize vs 17 = u17 at d17 ⊢
  generalize vs 18 = u18 at d18 ⊢
  generalize vs 19 = u19 at d19 ⊢
  generalize vs 20 = u20 at d20 ⊢
  generalize vs 21 = u21 at d21 ⊢
  generalize vs 22 = u22 at d22 ⊢
  generalize vs 23 = u23 at d23 ⊢
  generalize vs 24 = u24 at d24 ⊢
  generalize vs 25 = u25 at d25 ⊢
  generalize vs 26 = u26 at d26 ⊢
  generalize vs 27 = u27 at d27 ⊢
  generalize vs 28 = u28 at d28 ⊢
  generalize vs 29 = u29 at d29 ⊢
  generalize vs 30 = u30 at d30 ⊢
  generalize vs 31 = u31 at d31 ⊢
  generalize vs 32 = u32 at d32 ⊢
  generalize vs 33 = u33 at d33 ⊢
  generalize vs 34 = u34 at d34 ⊢
  clear vs
  replace d0 : u0 = _ := d0
  subst d0
  replace d1 : u1 = _ := d1
  subst d1
  replace d2 : u2 = _ := d2
  subst d2
  replace d3 : u3 = _ := d3
  subst d3
  replace d4 : u4 = _ := d4
  subst d4
  obtain ⟨K4, s4, M4, E4, rfl, _⟩ := d5
  replace d6 : u6 = _ := d6
  subst d6
  replace d7 : u7 = _ := d7
  subst d7
  replace d8 : u8 = _ := d8
  subst d8
  replace d9 : u9 = _ := d9
  subst d9
  replace d10 : u10 = _ := d10
  subst d10
  obtain ⟨K5, s5, M5, E5, rfl, _⟩ := d11
  replace d12 : u12 = _ := d12
  subst d12
  obtain ⟨K6, s6, M6, E6, rfl, _⟩ := d13
  replace d14 : u14 = _ := d14
  subst d14
  replace d15 : u15 = _ := d15
  subst d15
  replace d16 : u16 = _ := d16
  subst d16
  replace d17 : u17 = _ := d17
  subst d17
  replace d18 : u18 = _ := d18
  subst d18
  replace d19 : u19 = _ := d19
  subst d19
  replace d20 : u20 = _ := d20
  subst d20
  obtain ⟨K7, s7, M7, E7, rfl, _⟩ := d21
  replace d22 : u22 = _ := d22
  subst d22
  replace d23 : u23 = _ := d23
  subst d23
  replace d24 : u24 = _ := d24
  subst d24
  replace d25 : u25 = _ := d25
  subst d25
  replace d26 : u26 = _ := d26
  subst d26
  replace d27 : u27 = _ := d27
  subst d27
  obtain ⟨K8, s8, M8, E8, rfl, _⟩ := d28
  replace d29 : u29 = _ := d29
  subst d29
  obtain ⟨K9, s9, M9, E9, rfl, _⟩ := d30
  replace d31 : u31 = _ := d31
  subst d31
  replace d32 : u32 = _ := d32
  subst d32
  replace d33 : u33 = _ := d33
  subst d33
  replace d34 : u34 = _ := d34
  subst d34
  replace X0 := X0.below hJ
  replace X6 := X6.below hJ
  replace hT := hT.below hJ
  replace HB := Lib.hid (bt HB.out hJ)
  refine Jo.jdone (by kernel_rfl) ?_
  go_wp2
  go_ret
  exact ⟨rfl, HB.out⟩
set_option maxHeartbeats 8000000 in
theorem arithUnits_m2 (s0 : Bool) (M0 E0 x : Int) (b1 : Bool) (w : World) (hT : Tb w) (q : Fq 2 s0 M0 E0 x) :
    Calls Tryd.prog 9 #[.agg #[.int .i64 2, .bool s0, .int .u64 M0, .int .i64 E0], .bool b1] w (PB w true) := by
  have bx := q.bd
  obtain ⟨o1, ho1⟩ : ∃ o, opl 1 = o := ⟨_, rfl⟩
  have hone : mulp b1 x o1 = x := by rw [← ho1]; exact mulp_one b1 bx.1 bx.2
  have HO1 : Hid (sgi (decide ((1 : Int) < 0)) (lo (1 : Int).natAbs 0) = o1) := Lib.hid ho1
  obtain ⟨t, ht⟩ : ∃ t, mulp b1 x (opl 2) = t := ⟨_, rfl⟩
  have hh : mulp b1 t hlf = x := by rw [← ht]; exact unit_twice q (by intro h; first | omega | exact absurd h (by decide)) b1
  have HONE := Lib.hid hone
  have HT2 := Lib.hid ht
  have HH := Lib.hid hh
  have HZ : Hid (addp b1 x 0 = x) := Lib.hid (addp_zero b1 bx.1 bx.2)
  have HMZ : Hid (mulp b1 x 0 = 0) := Lib.hid (mulp_zero b1 (.inr rfl))
  have HM := Lib.hid (decide_eq_true q.1)
  clear bx ho1 hone ht hh
  go_enter Tryd.func9, Tryd.ntmps9
  go_upto_region 1 with (fail)
  have X0 := (Bo.newAt w (g := w.heap.size) (by simp) #[.int .i64 2, .bool s0, .int .u64 M0, .int .i64 E0] 24)
  have HB := Lib.hid (bel1 w (.cells #[.int .i64 2, .bool s0, .int .u64 M0, .int .i64 E0] 24))
  replace hT := hT.below HB.out
  generalize hW1 : (w.alloc (.cells #[.int .i64 2, .bool s0, .int .u64 M0, .int .i64 E0] 24)) = w1 at *
  clear hW1
  go_wp2_with fail
  refine (awake6 hT).mono ?_
  rintro ee w2 ⟨rfl, B⟩
  replace X0 := X0.below B
  replace hT := hT.below B
  replace HB := Lib.hid (bt HB.out B)
  clear B
  have xX00 := X0.at (i := 0) (v := .int .i64 2) rfl
  have xX01 := X0.at (i := 1) (v := .bool s0) rfl
  have xX02 := X0.at (i := 2) (v := .int .u64 M0) rfl
  have xX03 := X0.at (i := 3) (v := .int .i64 E0) rfl
  go_wp2_with fail
  refine (nMay (r := true) HM.out).mono ?_
  rintro ee w3 ⟨rfl, B⟩
  clear xX00 xX01 xX02 xX03
  replace X0 := X0.below B
  replace hT := hT.below B
  replace HB := Lib.hid (bt HB.out B)
  clear B
  have xX00 := X0.at (i := 0) (v := .int .i64 2) rfl
  have xX01 := X0.at (i := 1) (v := .bool s0) rfl
  have xX02 := X0.at (i := 2) (v := .int .u64 M0) rfl
  have xX03 := X0.at (i := 3) (v := .int .i64 E0) rfl
  go_upto_region 5 with (fail)
  clear xX00 xX01 xX02 xX03
  have lX6 := Nat.le_refl (World.heap w3).size
  have nX6X0 := X0.lt
  replace X0 := X0.below (bel1 _ (.cells #[.int .i64 0, .bool false, .int .u64 0, .int .i64 0] 24))
  replace hT := hT.below (bel1 _ (.cells #[.int .i64 0, .bool false, .int .u64 0, .int .i64 0] 24))
  replace HB := Lib.hid (bt HB.out (bel1 _ (.cells #[.int .i64 0, .bool false, .int .u64 0, .int .i64 0] 24)))
  have X6 := Bo.new w3 #[.int .i64 0, .bool false, .int .u64 0, .int .i64 0] 24
  generalize hWn : World.alloc w3 (.cells #[.int .i64 0, .bool false, .int .u64 0, .int .i64 0] 24) = w4 at *
  clear hWn
  clear lX6
  refine Jo.region_joint (T := [0, 1, 2, 3, 4, 5, 6, 7, 8, 9, 10]) (ds := [some 23, some 24, some 25, some 26, some 27, some 28, some 29, some 30, some 31, some 32, some 33]) (ls := [[], [0], [1], [2], [3], [3], [3], [3, 4, 5, 6], [3], [3, 7, 8], [3, 9]]) (k := 11) (L := [(some 23, 0), (some 24, 1), (some 25, 2), (some 26, 3), (some 27, 4), (some 28, 5), (some 29, 6), (some 30, 7), (some 31, 8), (some 32, 9), (some 33, 10)]) (fuel := 0) (J := fun wj => Below (World.heap w4).size w4 wj)
    (F := [Jo.Fact.eq (.pointer (some ⟨w.heap.size, 0, none⟩)), Jo.Fact.eq (.int .i64 2), Jo.Fact.eq (.bool false), Jo.Fact.eq (.bool false), Jo.Fact.eq undef, Jo.Fact.eq undef, Jo.Fact.eq undef, Jo.Fact.eq undef, Jo.Fact.eq undef, Jo.Fact.eq undef, Jo.Fact.eq (.bool false)])
    (by kernel_rfl) (by kernel_rfl) (by decide) rfl rfl (fun _ _ h b => bt h b) ((Below.refl _ _).drew) ?_ (fun vs w5 hJ hd => ?_)
  · refine Jo.jcons (i := 0) (o := ⟨some 23, _, _, _, _, _⟩) (di := some 23) (L := []) (f := Jo.Fact.eq (.pointer (some ⟨w.heap.size, 0, none⟩))) rfl rfl rfl rfl (fun vs wj hJ hd K hK => ?_) ?_
    · clear hd
      simp only [Jo.putl, List.foldl_nil, Act.put, List.setIfInBounds_toArray, List.set_cons_zero, List.set_cons_succ] at hK ⊢
      go_simp
      exact hK.out _ _ rfl (Below.refl _ _)
    refine Jo.jcons (i := 1) (o := ⟨some 24, _, _, _, _, _⟩) (di := some 24) (L := [(some 23, 0)]) (f := Jo.Fact.eq (.int .i64 2)) rfl rfl rfl rfl (fun vs wj hJ hd K hK => ?_) ?_
    · have d0 : (Jo.Fact.eq (.pointer (some ⟨w.heap.size, 0, none⟩))).P (vs 0) wj := hd 0 (by decide)
      clear hd
      simp only [Jo.putl, List.foldl_cons, List.foldl_nil, Act.put, List.setIfInBounds_toArray, List.set_cons_zero, List.set_cons_succ] at hK ⊢
      generalize vs 0 = u0 at hK d0 ⊢
      replace d0 : u0 = _ := d0
      subst d0
      have xX00 : World.cell? wj ⟨w.heap.size, 0, none⟩ = some (.int .i64 2) := (X0.below hJ).cell 0
      have xX01 : World.cell? wj ⟨w.heap.size, 1, none⟩ = some (.bool s0) := (X0.below hJ).cell 1
      have xX02 : World.cell? wj ⟨w.heap.size, 2, none⟩ = some (.int .u64 M0) := (X0.below hJ).cell 2
      have xX03 : World.cell? wj ⟨w.heap.size, 3, none⟩ = some (.int .i64 E0) := (X0.below hJ).cell 3
      go_simp
      exact hK.out _ _ rfl (Below.refl _ _)
    refine Jo.jcons (i := 2) (o := ⟨some 25, _, _, _, _, _⟩) (di := some 25) (L := [(some 24, 1)]) (f := Jo.Fact.eq (.bool false)) rfl rfl rfl rfl (fun vs wj hJ hd K hK => ?_) ?_
    · have d1 : (Jo.Fact.eq (.int .i64 2)).P (vs 1) wj := hd 1 (by decide)
      clear hd
      simp only [Jo.putl, List.foldl_cons, List.foldl_nil, Act.put, List.setIfInBounds_toArray, List.set_cons_zero, List.set_cons_succ] at hK ⊢
      generalize vs 1 = u1 at hK d1 ⊢
      replace d1 : u1 = _ := d1
      subst d1
      go_simp
      exact hK.out _ _ (by first | rfl | (show Value.bool _ = Value.bool _; simp)) (Below.refl _ _)
    refine Jo.jcons (i := 3) (o := ⟨some 26, _, _, _, _, _⟩) (di := some 26) (L := [(some 25, 2)]) (f := Jo.Fact.eq (.bool false)) rfl rfl rfl rfl (fun vs wj hJ hd K hK => ?_) ?_
    · have d2 : (Jo.Fact.eq (.bool false)).P (vs 2) wj := hd 2 (by decide)
      clear hd
      simp only [Jo.putl, List.foldl_cons, List.foldl_nil, Act.put, List.setIfInBounds_toArray, List.set_cons_zero, List.set_cons_succ] at hK ⊢
      generalize vs 2 = u2 at hK d2 ⊢
      replace d2 : u2 = _ := d2
      subst d2
      go_simp
      exact hK.out _ _ rfl (Below.refl _ _)
    refine Jo.jcons (i := 4) (o := ⟨some 27, _, _, _, _, _⟩) (di := some 27) (L := [(some 26, 3)]) (f := Jo.Fact.eq undef) rfl rfl rfl rfl (fun vs wj hJ hd K hK => ?_) ?_
    · have d3 : (Jo.Fact.eq (.bool false)).P (vs 3) wj := hd 3 (by decide)
      clear hd
      simp only [Jo.putl, List.foldl_cons, List.foldl_nil, Act.put, List.setIfInBounds_toArray, List.set_cons_zero, List.set_cons_succ] at hK ⊢
      generalize vs 3 = u3 at hK d3 ⊢
      replace d3 : u3 = _ := d3
      subst d3
      go_simp
      exact hK.out _ _ rfl (Below.refl _ _)
    refine Jo.jcons (i := 5) (o := ⟨some 28, _, _, _, _, _⟩) (di := some 28) (L := [(some 26, 3)]) (f := Jo.Fact.eq undef) rfl rfl rfl rfl (fun vs wj hJ hd K hK => ?_) ?_
    · have d3 : (Jo.Fact.eq (.bool false)).P (vs 3) wj := hd 3 (by decide)
      clear hd
      simp only [Jo.putl, List.foldl_cons, List.foldl_nil, Act.put, List.setIfInBounds_toArray, List.set_cons_zero, List.set_cons_succ] at hK ⊢
      generalize vs 3 = u3 at hK d3 ⊢
      replace d3 : u3 = _ := d3
      subst d3
      go_simp
      exact hK.out _ _ rfl (Below.refl _ _)
    refine Jo.jcons (i := 6) (o := ⟨some 29, _, _, _, _, _⟩) (di := some 29) (L := [(some 26, 3)]) (f := Jo.Fact.eq undef) rfl rfl rfl rfl (fun vs wj hJ hd K hK => ?_) ?_
    · have d3 : (Jo.Fact.eq (.bool false)).P (vs 3) wj := hd 3 (by decide)
      clear hd
      simp only [Jo.putl, List.foldl_cons, List.foldl_nil, Act.put, List.setIfInBounds_toArray, List.set_cons_zero, List.set_cons_succ] at hK ⊢
      generalize vs 3 = u3 at hK d3 ⊢
      replace d3 : u3 = _ := d3
      subst d3
      go_simp
      exact hK.out _ _ rfl (Below.refl _ _)
    refine Jo.jcons (i := 7) (o := ⟨some 30, _, _, _, _, _⟩) (di := some 30) (L := [(some 26, 3), (some 27, 4), (some 28, 5), (some 29, 6)]) (f := Jo.Fact.eq undef) rfl rfl rfl rfl (fun vs wj hJ hd K hK => ?_) ?_
    · have d3 : (Jo.Fact.eq (.bool false)).P (vs 3) wj := hd 3 (by decide)
      have d4 : (Jo.Fact.eq undef).P (vs 4) wj := hd 4 (by decide)
      have d5 : (Jo.Fact.eq undef).P (vs 5) wj := hd 5 (by decide)
      have d6 : (Jo.Fact.eq undef).P (vs 6) wj := hd 6 (by decide)
      clear hd
      simp only [Jo.putl, List.foldl_cons, List.foldl_nil, Act.put, List.setIfInBounds_toArray, List.set_cons_zero, List.set_cons_succ] at hK ⊢
      generalize vs 3 = u3 at hK d3 ⊢
      generalize vs 4 = u4 at hK d4 ⊢
      generalize vs 5 = u5 at hK d5 ⊢
      generalize vs 6 = u6 at hK d6 ⊢
      replace d3 : u3 = _ := d3
      subst d3
      replace d4 : u4 = _ := d4
      subst d4
      replace d5 : u5 = _ := d5
      subst d5
      replace d6 : u6 = _ := d6
      subst d6
      go_simp
      exact hK.out _ _ rfl (Below.refl _ _)
    refine Jo.jcons (i := 8) (o := ⟨some 31, _, _, _, _, _⟩) (di := some 31) (L := [(some 26, 3)]) (f := Jo.Fact.eq undef) rfl rfl rfl rfl (fun vs wj hJ hd K hK => ?_) ?_
    · have d3 : (Jo.Fact.eq (.bool false)).P (vs 3) wj := hd 3 (by decide)
      clear hd
      simp only [Jo.putl, List.foldl_cons, List.foldl_nil, Act.put, List.setIfInBounds_toArray, List.set_cons_zero, List.set_cons_succ] at hK ⊢
      generalize vs 3 = u3 at hK d3 ⊢
      replace d3 : u3 = _ := d3
      subst d3
      go_simp
      exact hK.out _ _ rfl (Below.refl _ _)
    refine Jo.jcons (i := 9) (o := ⟨some 32, _, _, _, _, _⟩) (di := some 32) (L := [(some 26, 3), (some 30, 7), (some 31, 8)]) (f := Jo.Fact.eq undef) rfl rfl rfl rfl (fun vs wj hJ hd K hK => ?_) ?_
    · have d3 : (Jo.Fact.eq (.bool false)).P (vs 3) wj := hd 3 (by decide)
      have d7 : (Jo.Fact.eq undef).P (vs 7) wj := hd 7 (by decide)
      have d8 : (Jo.Fact.eq undef).P (vs 8) wj := hd 8 (by decide)
      clear hd
      simp only [Jo.putl, List.foldl_cons, List.foldl_nil, Act.put, List.setIfInBounds_toArray, List.set_cons_zero, List.set_cons_succ] at hK ⊢
      generalize vs 3 = u3 at hK d3 ⊢
      generalize vs 7 = u7 at hK d7 ⊢
      generalize vs 8 = u8 at hK d8 ⊢
      replace d3 : u3 = _ := d3
      subst d3
      replace d7 : u7 = _ := d7
      subst d7
      replace d8 : u8 = _ := d8
      subst d8
      go_simp
      exact hK.out _ _ rfl (Below.refl _ _)
    refine Jo.jcons (i := 10) (o := ⟨some 33, _, _, _, _, _⟩) (di := some 33) (L := [(some 26, 3), (some 32, 9)]) (f := Jo.Fact.eq (.bool false)) rfl rfl rfl rfl (fun vs wj hJ hd K hK => ?_) ?_
    · have d3 : (Jo.Fact.eq (.bool false)).P (vs 3) wj := hd 3 (by decide)
      have d9 : (Jo.Fact.eq undef).P (vs 9) wj := hd 9 (by decide)
      clear hd
      simp only [Jo.putl, List.foldl_cons, List.foldl_nil, Act.put, List.setIfInBounds_toArray, List.set_cons_zero, List.set_cons_succ] at hK ⊢
      generalize vs 3 = u3 at hK d3 ⊢
      generalize vs 9 = u9 at hK d9 ⊢
      replace d3 : u3 = _ := d3
      subst d3
      replace d9 : u9 = _ := d9
      subst d9
      go_simp
      exact hK.out _ _ rfl (Below.refl _ _)
    exact Jo.Steps.nil
  have d0 : (Jo.Fact.eq (.pointer (some ⟨w.heap.size, 0, none⟩))).P (vs 0) w5 := hd 0 (by decide)
  have d1 : (Jo.Fact.eq (.int .i64 2)).P (vs 1) w5 := hd 1 (by decide)
  have d2 : (Jo.Fact.eq (.bool false)).P (vs 2) w5 := hd 2 (by decide)
  have d3 : (Jo.Fact.eq (.bool false)).P (vs 3) w5 := hd 3 (by decide)
  have d4 : (Jo.Fact.eq undef).P (vs 4) w5 := hd 4 (by decide)
  have d5 : (Jo.Fact.eq undef).P (vs 5) w5 := hd 5 (by decide)
  have d6 : (Jo.Fact.eq undef).P (vs 6) w5 := hd 6 (by decide)
  have d7 : (Jo.Fact.eq undef).P (vs 7) w5 := hd 7 (by decide)
  have d8 : (Jo.Fact.eq undef).P (vs 8) w5 := hd 8 (by decide)
  have d9 : (Jo.Fact.eq undef).P (vs 9) w5 := hd 9 (by decide)
  have d10 : (Jo.Fact.eq (.bool false)).P (vs 10) w5 := hd 10 (by decide)
  clear hd
  simp only [Jo.putl, List.foldl_cons, List.foldl_nil, Act.put, List.setIfInBounds_toArray, List.set_cons_zero, List.set_cons_succ]
  generalize vs 0 = u0 at d0 ⊢
  generalize vs 1 = u1 at d1 ⊢
  generalize vs 2 = u2 at d2 ⊢
  generalize vs 3 = u3 at d3 ⊢
  generalize vs 4 = u4 at d4 ⊢
  generalize vs 5 = u5 at d5 ⊢
  generalize vs 6 = u6 at d6 ⊢
  generalize vs 7 = u7 at d7 ⊢
  generalize vs 8 = u8 at d8 ⊢
  generalize vs 9 = u9 at d9 ⊢
  generalize vs 10 = u10 at d10 ⊢
  clear vs
  replace d0 : u0 = _ := d0
  subst d0
  replace d1 : u1 = _ := d1
  subst d1
  replace d2 : u2 = _ := d2
  subst d2
  replace d3 : u3 = _ := d3
  subst d3
  replace d4 : u4 = _ := d4
  subst d4
  replace d5 : u5 = _ := d5
  subst d5
  replace d6 : u6 = _ := d6
  subst d6
  replace d7 : u7 = _ := d7
  subst d7
  replace d8 : u8 = _ := d8
  subst d8
  replace d9 : u9 = _ := d9
  subst d9
  replace d10 : u10 = _ := d10
  subst d10
  replace X0 := X0.below hJ
  replace X6 := X6.below hJ
  replace hT := hT.below hJ
  replace HB := Lib.hid (bt HB.out hJ)
  refine Jo.jdone (by kernel_rfl) ?_
  go_upto_region 7 with (fail)
  refine Jo.region_joint (T := [0, 1, 2, 3, 4, 5, 6, 7, 8, 9, 10, 11, 12, 13, 14, 15, 16, 17, 18, 19, 20, 21, 22, 23, 24, 25, 26, 27, 28, 29, 30, 31, 32, 33, 34]) (ds := [some 34, some 35, some 36, some 37, some 38, some 39, some 40, some 41, some 42, some 43, some 44, some 45, some 46, some 47, some 48, some 49, some 50, some 51, some 52, some 53, some 54, some 55, some 56, some 57, some 58, some 59, some 60, some 61, some 62, some 63, some 64, some 65, some 66, some 67, some 4]) (ls := [[], [0], [1], [1], [1], [1, 2, 3, 4], [1], [1, 5, 6], [1, 7], [8], [9], [9], [9], [9, 10, 11, 12], [9], [9, 13, 14], [9, 15], [16], [17], [17], [17], [17, 18, 19, 20], [17], [17, 21, 22], [17, 23], [24], [25], [25], [25, 26, 27], [25], [25, 28, 29], [25], [25, 30, 31], [25, 32], [33]]) (k := 35) (L := [(some 34, 0), (some 35, 1), (some 36, 2), (some 37, 3), (some 38, 4), (some 39, 5), (some 40, 6), (some 41, 7), (some 42, 8), (some 43, 9), (some 44, 10), (some 45, 11), (some 46, 12), (some 47, 13), (some 48, 14), (some 49, 15), (some 50, 16), (some 51, 17), (some 52, 18), (some 53, 19), (some 54, 20), (some 55, 21), (some 56, 22), (some 57, 23), (some 58, 24), (some 59, 25), (some 60, 26), (some 61, 27), (some 62, 28), (some 63, 29), (some 64, 30), (some 65, 31), (some 66, 32), (some 67, 33), (some 4, 34)]) (fuel := 0) (J := fun wj => Below (World.heap w5).size w5 wj)
    (F := [Jo.Fact.eq (.bool true), Jo.Fact.eq (.bool true), Jo.Fact.eq (.agg #[.int .i64 2, .bool s0, .int .u64 M0, .int .i64 E0]), Jo.Fact.eq (.agg #[.int .i64 0, .bool false, .int .u64 0, .int .i64 0]), Jo.Fact.eq (.bool b1), Jo.Fact.num x, Jo.Fact.eq (.agg #[.int .i64 2, .bool s0, .int .u64 M0, .int .i64 E0]), Jo.Fact.eq (.bool true), Jo.Fact.eq (.bool true), Jo.Fact.eq (.bool true), Jo.Fact.eq (.agg #[.int .i64 2, .bool s0, .int .u64 M0, .int .i64 E0]), Jo.Fact.num o1, Jo.Fact.eq (.bool b1), Jo.Fact.num x, Jo.Fact.eq (.agg #[.int .i64 2, .bool s0, .int .u64 M0, .int .i64 E0]), Jo.Fact.eq (.bool true), Jo.Fact.eq (.bool true), Jo.Fact.eq (.bool true), Jo.Fact.eq (.agg #[.int .i64 2, .bool s0, .int .u64 M0, .int .i64 E0]), Jo.Fact.eq (.agg #[.int .i64 0, .bool false, .int .u64 0, .int .i64 0]), Jo.Fact.eq (.bool b1), Jo.Fact.num 0, Jo.Fact.eq (.agg #[.int .i64 0, .bool false, .int .u64 0, .int .i64 0]), Jo.Fact.eq (.bool true), Jo.Fact.eq (.bool true), Jo.Fact.eq (.bool true), Jo.Fact.eq (.agg #[.int .i64 2, .bool s0, .int .u64 M0, .int .i64 E0]), Jo.Fact.eq (.bool b1), Jo.Fact.num t, Jo.Fact.eq (.bool b1), Jo.Fact.num x, Jo.Fact.eq (.agg #[.int .i64 2, .bool s0, .int .u64 M0, .int .i64 E0]), Jo.Fact.eq (.bool true), Jo.Fact.eq (.bool true), Jo.Fact.eq (.bool true)])
    (by kernel_rfl) (by kernel_rfl) (by decide) rfl rfl (fun _ _ h b => bt h b) ((Below.refl _ _).drew) ?_ (fun vs w6 hJ hd => ?_)
  · refine Jo.jcons (i := 0) (o := ⟨some 34, _, _, _, _, _⟩) (di := some 34) (L := []) (f := Jo.Fact.eq (.bool true)) rfl rfl rfl rfl (fun vs wj hJ hd K hK => ?_) ?_
    · clear hd
      simp only [Jo.putl, List.foldl_nil, Act.put, List.setIfInBounds_toArray, List.set_cons_zero, List.set_cons_succ] at hK ⊢
      go_simp
      exact hK.out _ _ rfl (Below.refl _ _)
    refine Jo.jcons (i := 1) (o := ⟨some 35, _, _, _, _, _⟩) (di := some 35) (L := [(some 34, 0)]) (f := Jo.Fact.eq (.bool true)) rfl rfl rfl rfl (fun vs wj hJ hd K hK => ?_) ?_
    · have d0 : (Jo.Fact.eq (.bool true)).P (vs 0) wj := hd 0 (by decide)
      clear hd
      simp only [Jo.putl, List.foldl_cons, List.foldl_nil, Act.put, List.setIfInBounds_toArray, List.set_cons_zero, List.set_cons_succ] at hK ⊢
      generalize vs 0 = u0 at hK d0 ⊢
      replace d0 : u0 = _ := d0
      subst d0
      go_simp
      exact hK.out _ _ rfl (Below.refl _ _)
    refine Jo.jcons (i := 2) (o := ⟨some 36, _, _, _, _, _⟩) (di := some 36) (L := [(some 35, 1)]) (f := Jo.Fact.eq (.agg #[.int .i64 2, .bool s0, .int .u64 M0, .int .i64 E0])) rfl rfl rfl rfl (fun vs wj hJ hd K hK => ?_) ?_
    · have d1 : (Jo.Fact.eq (.bool true)).P (vs 1) wj := hd 1 (by decide)
      clear hd
      simp only [Jo.putl, List.foldl_cons, List.foldl_nil, Act.put, List.setIfInBounds_toArray, List.set_cons_zero, List.set_cons_succ] at hK ⊢
      generalize vs 1 = u1 at hK d1 ⊢
      replace d1 : u1 = _ := d1
      subst d1
      have xX00 : World.cell? wj ⟨w.heap.size, 0, none⟩ = some (.int .i64 2) := (X0.below hJ).cell 0
      have xX01 : World.cell? wj ⟨w.heap.size, 1, none⟩ = some (.bool s0) := (X0.below hJ).cell 1
      have xX02 : World.cell? wj ⟨w.heap.size, 2, none⟩ = some (.int .u64 M0) := (X0.below hJ).cell 2
      have xX03 : World.cell? wj ⟨w.heap.size, 3, none⟩ = some (.int .i64 E0) := (X0.below hJ).cell 3
      go_simp
      exact hK.out _ _ rfl (Below.refl _ _)
    refine Jo.jcons (i := 3) (o := ⟨some 37, _, _, _, _, _⟩) (di := some 37) (L := [(some 35, 1)]) (f := Jo.Fact.eq (.agg #[.int .i64 0, .bool false, .int .u64 0, .int .i64 0])) rfl rfl rfl rfl (fun vs wj hJ hd K hK => ?_) ?_
    · have d1 : (Jo.Fact.eq (.bool true)).P (vs 1) wj := hd 1 (by decide)
      clear hd
      simp only [Jo.putl, List.foldl_cons, List.foldl_nil, Act.put, List.setIfInBounds_toArray, List.set_cons_zero, List.set_cons_succ] at hK ⊢
      generalize vs 1 = u1 at hK d1 ⊢
      replace d1 : u1 = _ := d1
      subst d1
      have xX60 : World.cell? wj ⟨w3.heap.size, 0, none⟩ = some (.int .i64 0) := (X6.below hJ).cell 0
      have xX61 : World.cell? wj ⟨w3.heap.size, 1, none⟩ = some (.bool false) := (X6.below hJ).cell 1
      have xX62 : World.cell? wj ⟨w3.heap.size, 2, none⟩ = some (.int .u64 0) := (X6.below hJ).cell 2
      have xX63 : World.cell? wj ⟨w3.heap.size, 3, none⟩ = some (.int .i64 0) := (X6.below hJ).cell 3
      go_simp
      exact hK.out _ _ rfl (Below.refl _ _)
    refine Jo.jcons (i := 4) (o := ⟨some 38, _, _, _, _, _⟩) (di := some 38) (L := [(some 35, 1)]) (f := Jo.Fact.eq (.bool b1)) rfl rfl rfl rfl (fun vs wj hJ hd K hK => ?_) ?_
    · have d1 : (Jo.Fact.eq (.bool true)).P (vs 1) wj := hd 1 (by decide)
      clear hd
      simp only [Jo.putl, List.foldl_cons, List.foldl_nil, Act.put, List.setIfInBounds_toArray, List.set_cons_zero, List.set_cons_succ] at hK ⊢
      generalize vs 1 = u1 at hK d1 ⊢
      replace d1 : u1 = _ := d1
      subst d1
      go_simp
      exact hK.out _ _ rfl (Below.refl _ _)
    refine Jo.jcons (i := 5) (o := ⟨some 39, _, _, _, _, _⟩) (di := some 39) (L := [(some 35, 1), (some 36, 2), (some 37, 3), (some 38, 4)]) (f := Jo.Fact.num x) rfl rfl rfl rfl (fun vs wj hJ hd K hK => ?_) ?_
    · have d1 : (Jo.Fact.eq (.bool true)).P (vs 1) wj := hd 1 (by decide)
      have d2 : (Jo.Fact.eq (.agg #[.int .i64 2, .bool s0, .int .u64 M0, .int .i64 E0])).P (vs 2) wj := hd 2 (by decide)
      have d3 : (Jo.Fact.eq (.agg #[.int .i64 0, .bool false, .int .u64 0, .int .i64 0])).P (vs 3) wj := hd 3 (by decide)
      have d4 : (Jo.Fact.eq (.bool b1)).P (vs 4) wj := hd 4 (by decide)
      clear hd
      simp only [Jo.putl, List.foldl_cons, List.foldl_nil, Act.put, List.setIfInBounds_toArray, List.set_cons_zero, List.set_cons_succ] at hK ⊢
      generalize vs 1 = u1 at hK d1 ⊢
      generalize vs 2 = u2 at hK d2 ⊢
      generalize vs 3 = u3 at hK d3 ⊢
      generalize vs 4 = u4 at hK d4 ⊢
      replace d1 : u1 = _ := d1
      subst d1
      replace d2 : u2 = _ := d2
      subst d2
      replace d3 : u3 = _ := d3
      subst d3
      replace d4 : u4 = _ := d4
      subst d4
      go_simp
      refine (aAdd (hT.below hJ) q.top Fq.nought.top q.rk Fq.nought.rk HZ.out).mono ?_
      rintro ee wk ⟨K4, s4, M4, E4, rfl, q4, B⟩
      exact hK.out _ _ ⟨K4, s4, M4, E4, rfl, q4⟩ B
    refine Jo.jcons (i := 6) (o := ⟨some 40, _, _, _, _, _⟩) (di := some 40) (L := [(some 35, 1)]) (f := Jo.Fact.eq (.agg #[.int .i64 2, .bool s0, .int .u64 M0, .int .i64 E0])) rfl rfl rfl rfl (fun vs wj hJ hd K hK => ?_) ?_
    · have d1 : (Jo.Fact.eq (.bool true)).P (vs 1) wj := hd 1 (by decide)
      clear hd
      simp only [Jo.putl, List.foldl_cons, List.foldl_nil, Act.put, List.setIfInBounds_toArray, List.set_cons_zero, List.set_cons_succ] at hK ⊢
      generalize vs 1 = u1 at hK d1 ⊢
      replace d1 : u1 = _ := d1
      subst d1
      have xX00 : World.cell? wj ⟨w.heap.size, 0, none⟩ = some (.int .i64 2) := (X0.below hJ).cell 0
      have xX01 : World.cell? wj ⟨w.heap.size, 1, none⟩ = some (.bool s0) := (X0.below hJ).cell 1
      have xX02 : World.cell? wj ⟨w.heap.size, 2, none⟩ = some (.int .u64 M0) := (X0.below hJ).cell 2
      have xX03 : World.cell? wj ⟨w.heap.size, 3, none⟩ = some (.int .i64 E0) := (X0.below hJ).cell 3
      go_simp
      exact hK.out _ _ rfl (Below.refl _ _)
    refine Jo.jcons (i := 7) (o := ⟨some 41, _, _, _, _, _⟩) (di := some 41) (L := [(some 35, 1), (some 39, 5), (some 40, 6)]) (f := Jo.Fact.eq (.bool true)) rfl rfl rfl rfl (fun vs wj hJ hd K hK => ?_) ?_
    · have d1 : (Jo.Fact.eq (.bool true)).P (vs 1) wj := hd 1 (by decide)
      have d5 : (Jo.Fact.num x).P (vs 5) wj := hd 5 (by decide)
      have d6 : (Jo.Fact.eq (.agg #[.int .i64 2, .bool s0, .int .u64 M0, .int .i64 E0])).P (vs 6) wj := hd 6 (by decide)
      clear hd
      simp only [Jo.putl, List.foldl_cons, List.foldl_nil, Act.put, List.setIfInBounds_toArray, List.set_cons_zero, List.set_cons_succ] at hK ⊢
      generalize vs 1 = u1 at hK d1 ⊢
      generalize vs 5 = u5 at hK d5 ⊢
      generalize vs 6 = u6 at hK d6 ⊢
      replace d1 : u1 = _ := d1
      subst d1
      obtain ⟨K4, s4, M4, E4, rfl, q4⟩ := d5
      replace d6 : u6 = _ := d6
      subst d6
      obtain ⟨rfl, rfl, rfl, rfl⟩ := q4.uniq q
      go_simp
      exact hK.out _ _ (by first | rfl | (show Value.bool _ = Value.bool _; simp)) (Below.refl _ _)
    refine Jo.jcons (i := 8) (o := ⟨some 42, _, _, _, _, _⟩) (di := some 42) (L := [(some 35, 1), (some 41, 7)]) (f := Jo.Fact.eq (.bool true)) rfl rfl rfl rfl (fun vs wj hJ hd K hK => ?_) ?_
    · have d1 : (Jo.Fact.eq (.bool true)).P (vs 1) wj := hd 1 (by decide)
      have d7 : (Jo.Fact.eq (.bool true)).P (vs 7) wj := hd 7 (by decide)
      clear hd
      simp only [Jo.putl, List.foldl_cons, List.foldl_nil, Act.put, List.setIfInBounds_toArray, List.set_cons_zero, List.set_cons_succ] at hK ⊢
      generalize vs 1 = u1 at hK d1 ⊢
      generalize vs 7 = u7 at hK d7 ⊢
      replace d1 : u1 = _ := d1
      subst d1
      replace d7 : u7 = _ := d7
      subst d7
      go_simp
      exact hK.out _ _ rfl (Below.refl _ _)
    refine Jo.jcons (i := 9) (o := ⟨some 43, _, _, _, _, _⟩) (di := some 43) (L := [(some 42, 8)]) (f := Jo.Fact.eq (.bool true)) rfl rfl rfl rfl (fun vs wj hJ hd K hK => ?_) ?_
    · have d8 : (Jo.Fact.eq (.bool true)).P (vs 8) wj := hd 8 (by decide)
      clear hd
      simp only [Jo.putl, List.foldl_cons, List.foldl_nil, Act.put, List.setIfInBounds_toArray, List.set_cons_zero, List.set_cons_succ] at hK ⊢
      generalize vs 8 = u8 at hK d8 ⊢
      replace d8 : u8 = _ := d8
      subst d8
      go_simp
      exact hK.out _ _ rfl (Below.refl _ _)
    refine Jo.jcons (i := 10) (o := ⟨some 44, _, _, _, _, _⟩) (di := some 44) (L := [(some 43, 9)]) (f := Jo.Fact.eq (.agg #[.int .i64 2, .bool s0, .int .u64 M0, .int .i64 E0])) rfl rfl rfl rfl (fun vs wj hJ hd K hK => ?_) ?_
    · have d9 : (Jo.Fact.eq (.bool true)).P (vs 9) wj := hd 9 (by decide)
      clear hd
      simp only [Jo.putl, List.foldl_cons, List.foldl_nil, Act.put, List.setIfInBounds_toArray, List.set_cons_zero, List.set_cons_succ] at hK ⊢
      generalize vs 9 = u9 at hK d9 ⊢
      replace d9 : u9 = _ := d9
      subst d9
      have xX00 : World.cell? wj ⟨w.heap.size, 0, none⟩ = some (.int .i64 2) := (X0.below hJ).cell 0
      have xX01 : World.cell? wj ⟨w.heap.size, 1, none⟩ = some (.bool s0) := (X0.below hJ).cell 1
      have xX02 : World.cell? wj ⟨w.heap.size, 2, none⟩ = some (.int .u64 M0) := (X0.below hJ).cell 2
      have xX03 : World.cell? wj ⟨w.heap.size, 3, none⟩ = some (.int .i64 E0) := (X0.below hJ).cell 3
      go_simp
      exact hK.out _ _ rfl (Below.refl _ _)
    refine Jo.jcons (i := 11) (o := ⟨some 45, _, _, _, _, _⟩) (di := some 45) (L := [(some 43, 9)]) (f := Jo.Fact.num o1) rfl rfl rfl rfl (fun vs wj hJ hd K hK => ?_) ?_
    · have d9 : (Jo.Fact.eq (.bool true)).P (vs 9) wj := hd 9 (by decide)
      clear hd
      simp only [Jo.putl, List.foldl_cons, List.foldl_nil, Act.put, List.setIfInBounds_toArray, List.set_cons_zero, List.set_cons_succ] at hK ⊢
      generalize vs 9 = u9 at hK d9 ⊢
      replace d9 : u9 = _ := d9
      subst d9
      go_simp
      refine (nOf _ (by decide) (by decide) HO1.out).mono ?_
      rintro ee wk ⟨K5, s5, M5, E5, rfl, q5, B⟩
      exact hK.out _ _ ⟨K5, s5, M5, E5, rfl, q5⟩ B
    refine Jo.jcons (i := 12) (o := ⟨some 46, _, _, _, _, _⟩) (di := some 46) (L := [(some 43, 9)]) (f := Jo.Fact.eq (.bool b1)) rfl rfl rfl rfl (fun vs wj hJ hd K hK => ?_) ?_
    · have d9 : (Jo.Fact.eq (.bool true)).P (vs 9) wj := hd 9 (by decide)
      clear hd
      simp only [Jo.putl, List.foldl_cons, List.foldl_nil, Act.put, List.setIfInBounds_toArray, List.set_cons_zero, List.set_cons_succ] at hK ⊢
      generalize vs 9 = u9 at hK d9 ⊢
      replace d9 : u9 = _ := d9
      subst d9
      go_simp
      exact hK.out _ _ rfl (Below.refl _ _)
    refine Jo.jcons (i := 13) (o := ⟨some 47, _, _, _, _, _⟩) (di := some 47) (L := [(some 43, 9), (some 44, 10), (some 45, 11), (some 46, 12)]) (f := Jo.Fact.num x) rfl rfl rfl rfl (fun vs wj hJ hd K hK => ?_) ?_
    · have d9 : (Jo.Fact.eq (.bool true)).P (vs 9) wj := hd 9 (by decide)
      have d10 : (Jo.Fact.eq (.agg #[.int .i64 2, .bool s0, .int .u64 M0, .int .i64 E0])).P (vs 10) wj := hd 10 (by decide)
      have d11 : (Jo.Fact.num o1).P (vs 11) wj := hd 11 (by decide)
      have d12 : (Jo.Fact.eq (.bool b1)).P (vs 12) wj := hd 12 (by decide)
      clear hd
      simp only [Jo.putl, List.foldl_cons, List.foldl_nil, Act.put, List.setIfInBounds_toArray, List.set_cons_zero, List.set_cons_succ] at hK ⊢
      generalize vs 9 = u9 at hK d9 ⊢
      generalize vs 10 = u10 at hK d10 ⊢
      generalize vs 11 = u11 at hK d11 ⊢
      generalize vs 12 = u12 at hK d12 ⊢
      replace d9 : u9 = _ := d9
      subst d9
      replace d10 : u10 = _ := d10
      subst d10
      obtain ⟨K5, s5, M5, E5, rfl, q5⟩ := d11
      replace d12 : u12 = _ := d12
      subst d12
      go_simp
      refine (aMul q.top q5.top q.rk q5.rk HONE.out).mono ?_
      rintro ee wk ⟨K6, s6, M6, E6, rfl, q6, B⟩
      exact hK.out _ _ ⟨K6, s6, M6, E6, rfl, q6⟩ B
    refine Jo.jcons (i := 14) (o := ⟨some 48, _, _, _, _, _⟩) (di := some 48) (L := [(some 43, 9)]) (f := Jo.Fact.eq (.agg #[.int .i64 2, .bool s0, .int .u64 M0, .int .i64 E0])) rfl rfl rfl rfl (fun vs wj hJ hd K hK => ?_) ?_
    · have d9 : (Jo.Fact.eq (.bool true)).P (vs 9) wj := hd 9 (by decide)
      clear hd
      simp only [Jo.putl, List.foldl_cons, List.foldl_nil, Act.put, List.setIfInBounds_toArray, List.set_cons_zero, List.set_cons_succ] at hK ⊢
      generalize vs 9 = u9 at hK d9 ⊢
      replace d9 : u9 = _ := d9
      subst d9
      have xX00 : World.cell? wj ⟨w.heap.size, 0, none⟩ = some (.int .i64 2) := (X0.below hJ).cell 0
      have xX01 : World.cell? wj ⟨w.heap.size, 1, none⟩ = some (.bool s0) := (X0.below hJ).cell 1
      have xX02 : World.cell? wj ⟨w.heap.size, 2, none⟩ = some (.int .u64 M0) := (X0.below hJ).cell 2
      have xX03 : World.cell? wj ⟨w.heap.size, 3, none⟩ = some (.int .i64 E0) := (X0.below hJ).cell 3
      go_simp
      exact hK.out _ _ rfl (Below.refl _ _)
    refine Jo.jcons (i := 15) (o := ⟨some 49, _, _, _, _, _⟩) (di := some 49) (L := [(some 43, 9), (some 47, 13), (some 48, 14)]) (f := Jo.Fact.eq (.bool true)) rfl rfl rfl rfl (fun vs wj hJ hd K hK => ?_) ?_
    · have d9 : (Jo.Fact.eq (.bool true)).P (vs 9) wj := hd 9 (by decide)
      have d13 : (Jo.Fact.num x).P (vs 13) wj := hd 13 (by decide)
      have d14 : (Jo.Fact.eq (.agg #[.int .i64 2, .bool s0, .int .u64 M0, .int .i64 E0])).P (vs 14) wj := hd 14 (by decide)
      clear hd
      simp only [Jo.putl, List.foldl_cons, List.foldl_nil, Act.put, List.setIfInBounds_toArray, List.set_cons_zero, List.set_cons_succ] at hK ⊢
      generalize vs 9 = u9 at hK d9 ⊢
      generalize vs 13 = u13 at hK d13 ⊢
      generalize vs 14 = u14 at hK d14 ⊢
      replace d9 : u9 = _ := d9
      subst d9
      obtain ⟨K6, s6, M6, E6, rfl, q6⟩ := d13
      replace d14 : u14 = _ := d14
      subst d14
      obtain ⟨rfl, rfl, rfl, rfl⟩ := q6.uniq q
      go_simp
      exact hK.out _ _ (by first | rfl | (show Value.bool _ = Value.bool _; simp)) (Below.refl _ _)
    refine Jo.jcons (i := 16) (o := ⟨some 50, _, _, _, _, _⟩) (di := some 50) (L := [(some 43, 9), (some 49, 15)]) (f := Jo.Fact.eq (.bool true)) rfl rfl rfl rfl (fun vs wj hJ hd K hK => ?_) ?_
    · have d9 : (Jo.Fact.eq (.bool true)).P (vs 9) wj := hd 9 (by decide)
      have d15 : (Jo.Fact.eq (.bool true)).P (vs 15) wj := hd 15 (by decide)
      clear hd
      simp only [Jo.putl, List.foldl_cons, List.foldl_nil, Act.put, List.setIfInBounds_toArray, List.set_cons_zero, List.set_cons_succ] at hK ⊢
      generalize vs 9 = u9 at hK d9 ⊢
      generalize vs 15 = u15 at hK d15 ⊢
      replace d9 : u9 = _ := d9
      subst d9
      replace d15 : u15 = _ := d15
      subst d15
      go_simp
      exact hK.out _ _ rfl (Below.refl _ _)
    refine Jo.jcons (i := 17) (o := ⟨some 51, _, _, _, _, _⟩) (di := some 51) (L := [(some 50, 16)]) (f := Jo.Fact.eq (.bool true)) rfl rfl rfl rfl (fun vs wj hJ hd K hK => ?_) ?_
    · have d16 : (Jo.Fact.eq (.bool true)).P (vs 16) wj := hd 16 (by decide)
      clear hd
      simp only [Jo.putl, List.foldl_cons, List.foldl_nil, Act.put, List.setIfInBounds_toArray, List.set_cons_zero, List.set_cons_succ] at hK ⊢
      generalize vs 16 = u16 at hK d16 ⊢
      replace d16 : u16 = _ := d16
      subst d16
      go_simp
      exact hK.out _ _ rfl (Below.refl _ _)
    refine Jo.jcons (i := 18) (o := ⟨some 52, _, _, _, _, _⟩) (di := some 52) (L := [(some 51, 17)]) (f := Jo.Fact.eq (.agg #[.int .i64 2, .bool s0, .int .u64 M0, .int .i64 E0])) rfl rfl rfl rfl (fun vs wj hJ hd K hK => ?_) ?_
    · have d17 : (Jo.Fact.eq (.bool true)).P (vs 17) wj := hd 17 (by decide)
      clear hd
      simp only [Jo.putl, List.foldl_cons, List.foldl_nil, Act.put, List.setIfInBounds_toArray, List.set_cons_zero, List.set_cons_succ] at hK ⊢
      generalize vs 17 = u17 at hK d17 ⊢
      replace d17 : u17 = _ := d17
      subst d17
      have xX00 : World.cell? wj ⟨w.heap.size, 0, none⟩ = some (.int .i64 2) := (X0.below hJ).cell 0
      have xX01 : World.cell? wj ⟨w.heap.size, 1, none⟩ = some (.bool s0) := (X0.below hJ).cell 1
      have xX02 : World.cell? wj ⟨w.heap.size, 2, none⟩ = some (.int .u64 M0) := (X0.below hJ).cell 2
      have xX03 : World.cell? wj ⟨w.heap.size, 3, none⟩ = some (.int .i64 E0) := (X0.below hJ).cell 3
      go_simp
      exact hK.out _ _ rfl (Below.refl _ _)
    refine Jo.jcons (i := 19) (o := ⟨some 53, _, _, _, _, _⟩) (di := some 53) (L := [(some 51, 17)]) (f := Jo.Fact.eq (.agg #[.int .i64 0, .bool false, .int .u64 0, .int .i64 0])) rfl rfl rfl rfl (fun vs wj hJ hd K hK => ?_) ?_
    · have d17 : (Jo.Fact.eq (.bool true)).P (vs 17) wj := hd 17 (by decide)
      clear hd
      simp only [Jo.putl, List.foldl_cons, List.foldl_nil, Act.put, List.setIfInBounds_toArray, List.set_cons_zero, List.set_cons_succ] at hK ⊢
      generalize vs 17 = u17 at hK d17 ⊢
      replace d17 : u17 = _ := d17
      subst d17
      have xX60 : World.cell? wj ⟨w3.heap.size, 0, none⟩ = some (.int .i64 0) := (X6.below hJ).cell 0
      have xX61 : World.cell? wj ⟨w3.heap.size, 1, none⟩ = some (.bool false) := (X6.below hJ).cell 1
      have xX62 : World.cell? wj ⟨w3.heap.size, 2, none⟩ = some (.int .u64 0) := (X6.below hJ).cell 2
      have xX63 : World.cell? wj ⟨w3.heap.size, 3, none⟩ = some (.int .i64 0) := (X6.below hJ).cell 3
      go_simp
      exact hK.out _ _ rfl (Below.refl _ _)
    refine Jo.jcons (i := 20) (o := ⟨some 54, _, _, _, _, _⟩) (di := some 54) (L := [(some 51, 17)]) (f := Jo.Fact.eq (.bool b1)) rfl rfl rfl rfl (fun vs wj hJ hd K hK => ?_) ?_
    · have d17 : (Jo.Fact.eq (.bool true)).P (vs 17) wj := hd 17 (by decide)
      clear hd
      simp only [Jo.putl, List.foldl_cons, List.foldl_nil, Act.put, List.setIfInBounds_toArray, List.set_cons_zero, List.set_cons_succ] at hK ⊢
      generalize vs 17 = u17 at hK d17 ⊢
      replace d17 : u17 = _ := d17
      subst d17
      go_simp
      exact hK.out _ _ rfl (Below.refl _ _)
    refine Jo.jcons (i := 21) (o := ⟨some 55, _, _, _, _, _⟩) (di := some 55) (L := [(some 51, 17), (some 52, 18), (some 53, 19), (some 54, 20)]) (f := Jo.Fact.num 0) rfl rfl rfl rfl (fun vs wj hJ hd K hK => ?_) ?_
    · have d17 : (Jo.Fact.eq (.bool true)).P (vs 17) wj := hd 17 (by decide)
      have d18 : (Jo.Fact.eq (.agg #[.int .i64 2, .bool s0, .int .u64 M0, .int .i64 E0])).P (vs 18) wj := hd 18 (by decide)
      have d19 : (Jo.Fact.eq (.agg #[.int .i64 0, .bool false, .int .u64 0, .int .i64 0])).P (vs 19) wj := hd 19 (by decide)
      have d20 : (Jo.Fact.eq (.bool b1)).P (vs 20) wj := hd 20 (by decide)
      clear hd
      simp only [Jo.putl, List.foldl_cons, List.foldl_nil, Act.put, List.setIfInBounds_toArray, List.set_cons_zero, List.set_cons_succ] at hK ⊢
      generalize vs 17 = u17 at hK d17 ⊢
      generalize vs 18 = u18 at hK d18 ⊢
      generalize vs 19 = u19 at hK d19 ⊢
      generalize vs 20 = u20 at hK d20 ⊢
      replace d17 : u17 = _ := d17
      subst d17
      replace d18 : u18 = _ := d18
      subst d18
      replace d19 : u19 = _ := d19
      subst d19
      replace d20 : u20 = _ := d20
      subst d20
      go_simp
      refine (aMul q.top Fq.nought.top q.rk Fq.nought.rk HMZ.out).mono ?_
      rintro ee wk ⟨K7, s7, M7, E7, rfl, q7, B⟩
      exact hK.out _ _ ⟨K7, s7, M7, E7, rfl, q7⟩ B
    refine Jo.jcons (i := 22) (o := ⟨some 56, _, _, _, _, _⟩) (di := some 56) (L := [(some 51, 17)]) (f := Jo.Fact.eq (.agg #[.int .i64 0, .bool false, .int .u64 0, .int .i64 0])) rfl rfl rfl rfl (fun vs wj hJ hd K hK => ?_) ?_
    · have d17 : (Jo.Fact.eq (.bool true)).P (vs 17) wj := hd 17 (by decide)
      clear hd
      simp only [Jo.putl, List.foldl_cons, List.foldl_nil, Act.put, List.setIfInBounds_toArray, List.set_cons_zero, List.set_cons_succ] at hK ⊢
      generalize vs 17 = u17 at hK d17 ⊢
      replace d17 : u17 = _ := d17
      subst d17
      have xX60 : World.cell? wj ⟨w3.heap.size, 0, none⟩ = some (.int .i64 0) := (X6.below hJ).cell 0
      have xX61 : World.cell? wj ⟨w3.heap.size, 1, none⟩ = some (.bool false) := (X6.below hJ).cell 1
      have xX62 : World.cell? wj ⟨w3.heap.size, 2, none⟩ = some (.int .u64 0) := (X6.below hJ).cell 2
      have xX63 : World.cell? wj ⟨w3.heap.size, 3, none⟩ = some (.int .i64 0) := (X6.below hJ).cell 3
      go_simp
      exact hK.out _ _ rfl (Below.refl _ _)
    refine Jo.jcons (i := 23) (o := ⟨some 57, _, _, _, _, _⟩) (di := some 57) (L := [(some 51, 17), (some 55, 21), (some 56, 22)]) (f := Jo.Fact.eq (.bool true)) rfl rfl rfl rfl (fun vs wj hJ hd K hK => ?_) ?_
    · have d17 : (Jo.Fact.eq (.bool true)).P (vs 17) wj := hd 17 (by decide)
      have d21 : (Jo.Fact.num 0).P (vs 21) wj := hd 21 (by decide)
      have d22 : (Jo.Fact.eq (.agg #[.int .i64 0, .bool false, .int .u64 0, .int .i64 0])).P (vs 22) wj := hd 22 (by decide)
      clear hd
      simp only [Jo.putl, List.foldl_cons, List.foldl_nil, Act.put, List.setIfInBounds_toArray, List.set_cons_zero, List.set_cons_succ] at hK ⊢
      generalize vs 17 = u17 at hK d17 ⊢
      generalize vs 21 = u21 at hK d21 ⊢
      generalize vs 22 = u22 at hK d22 ⊢
      replace d17 : u17 = _ := d17
      subst d17
      obtain ⟨K7, s7, M7, E7, rfl, q7⟩ := d21
      replace d22 : u22 = _ := d22
      subst d22
      obtain ⟨rfl, rfl, rfl, rfl⟩ := q7.uniq Fq.nought
      go_simp
      exact hK.out _ _ (by first | rfl | (show Value.bool _ = Value.bool _; simp)) (Below.refl _ _)
    refine Jo.jcons (i := 24) (o := ⟨some 58, _, _, _, _, _⟩) (di := some 58) (L := [(some 51, 17), (some 57, 23)]) (f := Jo.Fact.eq (.bool true)) rfl rfl rfl rfl (fun vs wj hJ hd K hK => ?_) ?_
    · have d17 : (Jo.Fact.eq (.bool true)).P (vs 17) wj := hd 17 (by decide)
      have d23 : (Jo.Fact.eq (.bool true)).P (vs 23) wj := hd 23 (by decide)
      clear hd
      simp only [Jo.putl, List.foldl_cons, List.foldl_nil, Act.put, List.setIfInBounds_toArray, List.set_cons_zero, List.set_cons_succ] at hK ⊢
      generalize vs 17 = u17 at hK d17 ⊢
      generalize vs 23 = u23 at hK d23 ⊢
      replace d17 : u17 = _ := d17
      subst d17
      replace d23 : u23 = _ := d23
      subst d23
      go_simp
      exact hK.out _ _ rfl (Below.refl _ _)
    refine Jo.jcons (i := 25) (o := ⟨some 59, _, _, _, _, _⟩) (di := some 59) (L := [(some 58, 24)]) (f := Jo.Fact.eq (.bool true)) rfl rfl rfl rfl (fun vs wj hJ hd K hK => ?_) ?_
    · have d24 : (Jo.Fact.eq (.bool true)).P (vs 24) wj := hd 24 (by decide)
      clear hd
      simp only [Jo.putl, List.foldl_cons, List.foldl_nil, Act.put, List.setIfInBounds_toArray, List.set_cons_zero, List.set_cons_succ] at hK ⊢
      generalize vs 24 = u24 at hK d24 ⊢
      replace d24 : u24 = _ := d24
      subst d24
      go_simp
      exact hK.out _ _ rfl (Below.refl _ _)
    refine Jo.jcons (i := 26) (o := ⟨some 60, _, _, _, _, _⟩) (di := some 60) (L := [(some 59, 25)]) (f := Jo.Fact.eq (.agg #[.int .i64 2, .bool s0, .int .u64 M0, .int .i64 E0])) rfl rfl rfl rfl (fun vs wj hJ hd K hK => ?_) ?_
    · have d25 : (Jo.Fact.eq (.bool true)).P (vs 25) wj := hd 25 (by decide)
      clear hd
      simp only [Jo.putl, List.foldl_cons, List.foldl_nil, Act.put, List.setIfInBounds_toArray, List.set_cons_zero, List.set_cons_succ] at hK ⊢
      generalize vs 25 = u25 at hK d25 ⊢
      replace d25 : u25 = _ := d25
      subst d25
      have xX00 : World.cell? wj ⟨w.heap.size, 0, none⟩ = some (.int .i64 2) := (X0.below hJ).cell 0
      have xX01 : World.cell? wj ⟨w.heap.size, 1, none⟩ = some (.bool s0) := (X0.below hJ).cell 1
      have xX02 : World.cell? wj ⟨w.heap.size, 2, none⟩ = some (.int .u64 M0) := (X0.below hJ).cell 2
      have xX03 : World.cell? wj ⟨w.heap.size, 3, none⟩ = some (.int .i64 E0) := (X0.below hJ).cell 3
      go_simp
      exact hK.out _ _ rfl (Below.refl _ _)
    refine Jo.jcons (i := 27) (o := ⟨some 61, _, _, _, _, _⟩) (di := some 61) (L := [(some 59, 25)]) (f := Jo.Fact.eq (.bool b1)) rfl rfl rfl rfl (fun vs wj hJ hd K hK => ?_) ?_
    · have d25 : (Jo.Fact.eq (.bool true)).P (vs 25) wj := hd 25 (by decide)
      clear hd
      simp only [Jo.putl, List.foldl_cons, List.foldl_nil, Act.put, List.setIfInBounds_toArray, List.set_cons_zero, List.set_cons_succ] at hK ⊢
      generalize vs 25 = u25 at hK d25 ⊢
      replace d25 : u25 = _ := d25
      subst d25
      go_simp
      exact hK.out _ _ rfl (Below.refl _ _)
    refine Jo.jcons (i := 28) (o := ⟨some 62, _, _, _, _, _⟩) (di := some 62) (L := [(some 59, 25), (some 60, 26), (some 61, 27)]) (f := Jo.Fact.num t) rfl rfl rfl rfl (fun vs wj hJ hd K hK => ?_) ?_
    · have d25 : (Jo.Fact.eq (.bool true)).P (vs 25) wj := hd 25 (by decide)
      have d26 : (Jo.Fact.eq (.agg #[.int .i64 2, .bool s0, .int .u64 M0, .int .i64 E0])).P (vs 26) wj := hd 26 (by decide)
      have d27 : (Jo.Fact.eq (.bool b1)).P (vs 27) wj := hd 27 (by decide)
      clear hd
      simp only [Jo.putl, List.foldl_cons, List.foldl_nil, Act.put, List.setIfInBounds_toArray, List.set_cons_zero, List.set_cons_succ] at hK ⊢
      generalize vs 25 = u25 at hK d25 ⊢
      generalize vs 26 = u26 at hK d26 ⊢
      generalize vs 27 = u27 at hK d27 ⊢
      replace d25 : u25 = _ := d25
      subst d25
      replace d26 : u26 = _ := d26
      subst d26
      replace d27 : u27 = _ := d27
      subst d27
      go_simp
      refine (aTwice q.top q.rk HT2.out).mono ?_
      rintro ee wk ⟨K8, s8, M8, E8, rfl, q8, B⟩
      exact hK.out _ _ ⟨K8, s8, M8, E8, rfl, q8⟩ B
    refine Jo.jcons (i := 29) (o := ⟨some 63, _, _, _, _, _⟩) (di := some 63) (L := [(some 59, 25)]) (f := Jo.Fact.eq (.bool b1)) rfl rfl rfl rfl (fun vs wj hJ hd K hK => ?_) ?_
    · have d25 : (Jo.Fact.eq (.bool true)).P (vs 25) wj := hd 25 (by decide)
      clear hd
      simp only [Jo.putl, List.foldl_cons, List.foldl_nil, Act.put, List.setIfInBounds_toArray, List.set_cons_zero, List.set_cons_succ] at hK ⊢
      generalize vs 25 = u25 at hK d25 ⊢
      replace d25 : u25 = _ := d25
      subst d25
      go_simp
      exact hK.out _ _ rfl (Below.refl _ _)
    refine Jo.jcons (i := 30) (o := ⟨some 64, _, _, _, _, _⟩) (di := some 64) (L := [(some 59, 25), (some 62, 28), (some 63, 29)]) (f := Jo.Fact.num x) rfl rfl rfl rfl (fun vs wj hJ hd K hK => ?_) ?_
    · have d25 : (Jo.Fact.eq (.bool true)).P (vs 25) wj := hd 25 (by decide)
      have d28 : (Jo.Fact.num t).P (vs 28) wj := hd 28 (by decide)
      have d29 : (Jo.Fact.eq (.bool b1)).P (vs 29) wj := hd 29 (by decide)
      clear hd
      simp only [Jo.putl, List.foldl_cons, List.foldl_nil, Act.put, List.setIfInBounds_toArray, List.set_cons_zero, List.set_cons_succ] at hK ⊢
      generalize vs 25 = u25 at hK d25 ⊢
      generalize vs 28 = u28 at hK d28 ⊢
      generalize vs 29 = u29 at hK d29 ⊢
      replace d25 : u25 = _ := d25
      subst d25
      obtain ⟨K8, s8, M8, E8, rfl, q8⟩ := d28
      replace d29 : u29 = _ := d29
      subst d29
      go_simp
      refine (aHalf q8.top q8.rk HH.out).mono ?_
      rintro ee wk ⟨K9, s9, M9, E9, rfl, q9, B⟩
      exact hK.out _ _ ⟨K9, s9, M9, E9, rfl, q9⟩ B
    refine Jo.jcons (i := 31) (o := ⟨some 65, _, _, _, _, _⟩) (di := some 65) (L := [(some 59, 25)]) (f := Jo.Fact.eq (.agg #[.int .i64 2, .bool s0, .int .u64 M0, .int .i64 E0])) rfl rfl rfl rfl (fun vs wj hJ hd K hK => ?_) ?_
    · have d25 : (Jo.Fact.eq (.bool true)).P (vs 25) wj := hd 25 (by decide)
      clear hd
      simp only [Jo.putl, List.foldl_cons, List.foldl_nil, Act.put, List.setIfInBounds_toArray, List.set_cons_zero, List.set_cons_succ] at hK ⊢
      generalize vs 25 = u25 at hK d25 ⊢
      replace d25 : u25 = _ := d25
      subst d25
      have xX00 : World.cell? wj ⟨w.heap.size, 0, none⟩ = some (.int .i64 2) := (X0.below hJ).cell 0
      have xX01 : World.cell? wj ⟨w.heap.size, 1, none⟩ = some (.bool s0) := (X0.below hJ).cell 1
      have xX02 : World.cell? wj ⟨w.heap.size, 2, none⟩ = some (.int .u64 M0) := (X0.below hJ).cell 2
      have xX03 : World.cell? wj ⟨w.heap.size, 3, none⟩ = some (.int .i64 E0) := (X0.below hJ).cell 3
      go_simp
      exact hK.out _ _ rfl (Below.refl _ _)
    refine Jo.jcons (i := 32) (o := ⟨some 66, _, _, _, _, _⟩) (di := some 66) (L := [(some 59, 25), (some 64, 30), (some 65, 31)]) (f := Jo.Fact.eq (.bool true)) rfl rfl rfl rfl (fun vs wj hJ hd K hK => ?_) ?_
    · have d25 : (Jo.Fact.eq (.bool true)).P (vs 25) wj := hd 25 (by decide)
      have d30 : (Jo.Fact.num x).P (vs 30) wj := hd 30 (by decide)
      have d31 : (Jo.Fact.eq (.agg #[.int .i64 2, .bool s0, .int .u64 M0, .int .i64 E0])).P (vs 31) wj := hd 31 (by decide)
      clear hd
      simp only [Jo.putl, List.foldl_cons, List.foldl_nil, Act.put, List.setIfInBounds_toArray, List.set_cons_zero, List.set_cons_succ] at hK ⊢
      generalize vs 25 = u25 at hK d25 ⊢
      generalize vs 30 = u30 at hK d30 ⊢
      generalize vs 31 = u31 at hK d31 ⊢
      replace d25 : u25 = _ := d25
      subst d25
      obtain ⟨K9, s9, M9, E9, rfl, q9⟩ := d30
      replace d31 : u31 = _ := d31
      subst d31
      obtain ⟨rfl, rfl, rfl, rfl⟩ := q9.uniq q
      go_simp
      exact hK.out _ _ (by first | rfl | (show Value.bool _ = Value.bool _; simp)) (Below.refl _ _)
    refine Jo.jcons (i := 33) (o := ⟨some 67, _, _, _, _, _⟩) (di := some 67) (L := [(some 59, 25), (some 66, 32)]) (f := Jo.Fact.eq (.bool true)) rfl rfl rfl rfl (fun vs wj hJ hd K hK => ?_) ?_
    · have d25 : (Jo.Fact.eq (.bool true)).P (vs 25) wj := hd 25 (by decide)
      have d32 : (Jo.Fact.eq (.bool true)).P (vs 32) wj := hd 32 (by decide)
      clear hd
      simp only [Jo.putl, List.foldl_cons, List.foldl_nil, Act.put, List.setIfInBounds_toArray, List.set_cons_zero, List.set_cons_succ] at hK ⊢
      generalize vs 25 = u25 at hK d25 ⊢
      generalize vs 32 = u32 at hK d32 ⊢
      replace d25 : u25 = _ := d25
      subst d25
      replace d32 : u32 = _ := d32
      subst d32
      go_simp
      exact hK.out _ _ rfl (Below.refl _ _)
    refine Jo.jcons (i := 34) (o := ⟨some 4, _, _, _, _, _⟩) (di := some 4) (L := [(some 67, 33)]) (f := Jo.Fact.eq (.bool true)) rfl rfl rfl rfl (fun vs wj hJ hd K hK => ?_) ?_
    · have d33 : (Jo.Fact.eq (.bool true)).P (vs 33) wj := hd 33 (by decide)
      clear hd
      simp only [Jo.putl, List.foldl_cons, List.foldl_nil, Act.put, List.setIfInBounds_toArray, List.set_cons_zero, List.set_cons_succ] at hK ⊢
      generalize vs 33 = u33 at hK d33 ⊢
      replace d33 : u33 = _ := d33
      subst d33
      go_simp
      exact hK.out _ _ rfl (Below.refl _ _)
    exact Jo.Steps.nil
  have d0 : (Jo.Fact.eq (.bool true)).P (vs 0) w6 := hd 0 (by decide)
  have d1 : (Jo.Fact.eq (.bool true)).P (vs 1) w6 := hd 1 (by decide)
  have d2 : (Jo.Fact.eq (.agg #[.int .i64 2, .bool s0, .int .u64 M0, .int .i64 E0])).P (vs 2) w6 := hd 2 (by decide)
  have d3 : (Jo.Fact.eq (.agg #[.int .i64 0, .bool false, .int .u64 0, .int .i64 0])).P (vs 3) w6 := hd 3 (by decide)
  have d4 : (Jo.Fact.eq (.bool b1)).P (vs 4) w6 := hd 4 (by decide)
  have d5 : (Jo.Fact.num x).P (vs 5) w6 := hd 5 (by decide)
  have d6 : (Jo.Fact.eq (.agg #[.int .i64 2, .bool s0, .int .u64 M0, .int .i64 E0])).P (vs 6) w6 := hd 6 (by decide)
  have d7 : (Jo.Fact.eq (.bool true)).P (vs 7) w6 := hd 7 (by decide)
  have d8 : (Jo.Fact.eq (.bool true)).P (vs 8) w6 := hd 8 (by decide)
  have d9 : (Jo.Fact.eq (.bool true)).P (vs 9) w6 := hd 9 (by decide)
  have d10 : (Jo.Fact.eq (.agg #[.int .i64 2, .bool s0, .int .u64 M0, .int .i64 E0])).P (vs 10) w6 := hd 10 (by decide)
  have d11 : (Jo.Fact.num o1).P (vs 11) w6 := hd 11 (by decide)
  have d12 : (Jo.Fact.eq (.bool b1)).P (vs 12) w6 := hd 12 (by decide)
  have d13 : (Jo.Fact.num x).P (vs 13) w6 := hd 13 (by decide)
  have d14 : (Jo.Fact.eq (.agg #[.int .i64 2, .bool s0, .int .u64 M0, .int .i64 E0])).P (vs 14) w6 := hd 14 (by decide)
  have d15 : (Jo.Fact.eq (.bool true)).P (vs 15) w6 := hd 15 (by decide)
  have d16 : (Jo.Fact.eq (.bool true)).P (vs 16) w6 := hd 16 (by decide)
  have d17 : (Jo.Fact.eq (.bool true)).P (vs 17) w6 := hd 17 (by decide)
  have d18 : (Jo.Fact.eq (.agg #[.int .i64 2, .bool s0, .int .u64 M0, .int .i64 E0])).P (vs 18) w6 := hd 18 (by decide)
  have d19 : (Jo.Fact.eq (.agg #[.int .i64 0, .bool false, .int .u64 0, .int .i64 0])).P (vs 19) w6 := hd 19 (by decide)
  have d20 : (Jo.Fact.eq (.bool b1)).P (vs 20) w6 := hd 20 (by decide)
  have d21 : (Jo.Fact.num 0).P (vs 21) w6 := hd 21 (by decide)
  have d22 : (Jo.Fact.eq (.agg #[.int .i64 0, .bool false, .int .u64 0, .int .i64 0])).P (vs 22) w6 := hd 22 (by decide)
  have d23 : (Jo.Fact.eq (.bool true)).P (vs 23) w6 := hd 23 (by decide)
  have d24 : (Jo.Fact.eq (.bool true)).P (vs 24) w6 := hd 24 (by decide)
  have d25 : (Jo.Fact.eq (.bool true)).P (vs 25) w6 := hd 25 (by decide)
  have d26 : (Jo.Fact.eq (.agg #[.int .i64 2, .bool s0, .int .u64 M0, .int .i64 E0])).P (vs 26) w6 := hd 26 (by decide)
  have d27 : (Jo.Fact.eq (.bool b1)).P (vs 27) w6 := hd 27 (by decide)
  have d28 : (Jo.Fact.num t).P (vs 28) w6 := hd 28 (by decide)
  have d29 : (Jo.Fact.eq (.bool b1)).P (vs 29) w6 := hd 29 (by decide)
  have d30 : (Jo.Fact.num x).P (vs 30) w6 := hd 30 (by decide)
  have d31 : (Jo.Fact.eq (.agg #[.int .i64 2, .bool s0, .int .u64 M0, .int .i64 E0])).P (vs 31) w6 := hd 31 (by decide)
  have d32 : (Jo.Fact.eq (.bool true)).P (vs 32) w6 := hd 32 (by decide)
  have d33 : (Jo.Fact.eq (.bool true)).P (vs 33) w6 := hd 33 (by decide)
  have d34 : (Jo.Fact.eq (.bool true)).P (vs 34) w6 := hd 34 (by decide)
  clear hd
  simp only [Jo.putl, List.foldl_cons, List.foldl_nil, Act.put, List.setIfInBounds_toArray, List.set_cons_zero, List.set_cons_succ]
  generalize vs 0 = u0 at d0 ⊢
  generalize vs 1 = u1 at d1 ⊢
  generalize vs 2 = u2 at d2 ⊢
  generalize vs 3 = u3 at d3 ⊢
  generalize vs 4 = u4 at d4 ⊢
  generalize vs 5 = u5 at d5 ⊢
  generalize vs 6 = u6 at d6 ⊢
  generalize vs 7 = u7 at d7 ⊢
  generalize vs 8 = u8 at d8 ⊢
  generalize vs 9 = u9 at d9 ⊢
  generalize vs 10 = u10 at d10 ⊢
  generalize vs 11 = u11 at d11 ⊢
  generalize vs 12 = u12 at d12 ⊢
  generalize vs 13 = u13 at d13 ⊢
  generalize vs 14 = u14 at d14 ⊢
  generalize vs 15 = u15 at d15 ⊢
  generalize vs 16 = u16 at d16 ⊢
  generalize vs 17 = u17 at d17 ⊢
  generalize vs 18 = u18 at d18 ⊢
  generalize vs 19 = u19 at d19 ⊢
  generalize vs 20 = u20 at d20 ⊢
  generalize vs 21 = u21 at d21 ⊢
  generalize vs 22 = u22 at d22 ⊢
  generalize vs 23 = u23 at d23 ⊢
  generalize vs 24 = u24 at d24 ⊢
  generalize vs 25 = u25 at d25 ⊢
  generalize vs 26 = u26 at d26 ⊢
  generalize vs 27 = u27 at d27 ⊢
  generalize vs 28 = u28 at d28 ⊢
  generalize vs 29 = u29 at d29 ⊢
  generalize vs 30 = u30 at d30 ⊢
  generalize vs 31 = u31 at d31 ⊢
  generalize vs 32 = u32 at d32 ⊢
  generalize vs 33 = u33 at d33 ⊢
  generalize vs 34 = u34 at d34 ⊢
  clear vs
  replace d0 : u0 = _ := d0
  subst d0
  replace d1 : u1 = _ := d1
  subst d1
  replace d2 : u2 = _ := d2
  subst d2
  replace d3 : u3 = _ := d3
  subst d3
  replace d4 : u4 = _ := d4
  subst d4
  obtain ⟨K4, s4, M4, E4, rfl, _⟩ := d5
  replace d6 : u6 = _ := d6
  subst d6
  replace d7 : u7 = _ := d7
  subst d7
  replace d8 : u8 = _ := d8
  subst d8
  replace d9 : u9 = _ := d9
  subst d9
  replace d10 : u10 = _ := d10
  subst d10
  obtain ⟨K5, s5, M5, E5, rfl, _⟩ := d11
  replace d12 : u12 = _ := d12
  subst d12
  obtain ⟨K6, s6, M6, E6, rfl, _⟩ := d13
  replace d14 : u14 = _ := d14
  subst d14
  replace d15 : u15 = _ := d15
  subst d15
  replace d16 : u16 = _ := d16
  subst d16
  replace d17 : u17 = _ := d17
  subst d17
  replace d18 : u18 = _ := d18
  subst d18
  replace d19 : u19 = _ := d19
  subst d19
  replace d20 : u20 = _ := d20
  subst d20
  obtain ⟨K7, s7, M7, E7, rfl, _⟩ := d21
  replace d22 : u22 = _ := d22
  subst d22
  replace d23 : u23 = _ := d23
  subst d23
  replace d24 : u24 = _ := d24
  subst d24
  replace d25 : u25 = _ := d25
  subst d25
  replace d26 : u26 = _ := d26
  subst d26
  replace d27 : u27 = _ := d27
  subst d27
  obtain ⟨K8, s8, M8, E8, rfl, _⟩ := d28
  replace d29 : u29 = _ := d29
  subst d29
  obtain ⟨K9, s9, M9, E9, rfl, _⟩ := d30
  replace d31 : u31 = _ := d31
  subst d31
  replace d32 : u32 = _ := d32
  subst d32
  replace d33 : u33 = _ := d33
  subst d33
  replace d34 : u34 = _ := d34
  subst d34
  replace X0 := X0.below hJ
  replace X6 := X6.below hJ
  replace hT := hT.below hJ
  replace HB := Lib.hid (bt HB.out hJ)
  refine Jo.jdone (by kernel_rfl) ?_
  go_wp2
  go_ret
  exact ⟨rfl, HB.out⟩

theorem arithUnits_walk (D0 : Int) (s0 : Bool) (M0 E0 : Int) (b1 : Bool) (w : World) (hT : Tb w) (w0 : 0 ≤ M0) (u0 : M0 < 18446744073709551616)  :
    Calls Tryd.prog 9 #[.agg #[.int .i64 D0, .bool s0, .int .u64 M0, .int .i64 E0], .bool b1] w fun e w' => e = .returned (.bool true) ∧ Below w.heap.size w w' := by
  by_cases hm : MayQ D0 s0 M0 E0
  · have q := rk_fq u0 hm
    have hk : D0 = 0 ∨ D0 = 1 ∨ D0 = 2 := by rcases q.cases with ⟨h, _⟩ | ⟨h, _⟩ | ⟨h, _⟩ <;> omega
    rcases hk with rfl | rfl | rfl
    · exact arithUnits_m0 s0 M0 E0 _ b1 w hT q
    · by_cases hE : 1048576 ≤ E0
      · exact arithUnits_far s0 M0 E0 b1 w hT (decide_eq_true hm) hE
      · exact arithUnits_m1 s0 M0 E0 _ b1 w hT q hE
    · exact arithUnits_m2 s0 M0 E0 _ b1 w hT q
  · exact arithUnits_no D0 s0 M0 E0 b1 w hT (decide_eq_false hm)
end Go.Proofs.YtbhnpmkdmnnclaaDoor

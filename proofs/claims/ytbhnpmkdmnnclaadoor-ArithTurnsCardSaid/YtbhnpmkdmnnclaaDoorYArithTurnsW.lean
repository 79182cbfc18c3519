/-
  The walk of ArithTurns: for all arguments, where the tables lie as they were laid, the call answers true, and nothing that was there has turned.
-/
import Derived.Below
import Derived.BigQuiet
import Derived.Carry
import Derived.Deep.DeepCutAuto
import Derived.Deep.Draws
import Derived.Deep.MidRow
import Derived.Deep.QuietTactic
import Derived.Deep.RegionHeld3
import Derived.Deep.RegionWith
import Derived.IntWalk
import Derived.Laws.CopyOwn
import Derived.Laws.MakeOwn
import Derived.Laws.OwnMore
import Derived.Laws.Rows
import Derived.Lib.BitFns
import Derived.Lib.Hide
import Derived.Maps.AppendAt
import Derived.StillTailTactics
import Derived.Test.YtbhnpmkdmnnclaaDoorRows
import Derived.WalkKit
import Derived.WalkLawsBesides
import Derived.WalkSpells
import Derived.Test.YtbhnpmkdmnnclaaDoorYAap
import Derived.Test.YtbhnpmkdmnnclaaDoorYAaq
import Derived.Test.YtbhnpmkdmnnclaaDoorYAav
import Derived.Test.YtbhnpmkdmnnclaaDoorYAax
namespace Go.Proofs.YtbhnpmkdmnnclaaDoor
open Go.RowKit
set_option linter.unusedVariables false
set_option linter.unusedSimpArgs false
set_option maxRecDepth 100000

set_option maxHeartbeats 8000000 in
theorem arithTurns_main (D0 : Int) (s0 : Bool) (M0 E0 : Int) (D1 : Int) (s1 : Bool) (M1 E1 : Int) (b2 : Bool) (w : World) (hT : Tb w) (u0 : M0 < 18446744073709551616) (u1 : M1 < 18446744073709551616) :
    Calls Tryd.prog 8 #[.agg #[.int .i64 D0, .bool s0, .int .u64 M0, .int .i64 E0], .agg #[.int .i64 D1, .bool s1, .int .u64 M1, .int .i64 E1], .bool b2] w (PB w true) := by
  obtain ⟨x, hx⟩ : ∃ x, rk D0 s0 M0 E0 = x := ⟨_, rfl⟩
  obtain ⟨y, hy⟩ : ∃ x, rk D1 s1 M1 E1 = x := ⟨_, rfl⟩
  obtain ⟨r, hr⟩ : ∃ r, addp b2 x y = r := ⟨_, rfl⟩
  obtain ⟨m, hm⟩ : ∃ r, mulp b2 x y = r := ⟨_, rfl⟩
  have HRN : Hid (addp (!b2) (-x) (-y) = -r) := Lib.hid (by rw [addp_neg, hr])
  have HMN : Hid (mulp (!b2) (-x) y = -m) := Lib.hid (by rw [mulp_neg, hm])
  have HRC : Hid (addp b2 y x = r) := Lib.hid (by rw [addp_comm, hr])
  have HMC : Hid (mulp b2 y x = m) := Lib.hid (by rw [mulp_comm, hm])
  have HNX : Hid (-rk D0 s0 M0 E0 = -x) := Lib.hid (by rw [hx])
  have HNY : Hid (-rk D1 s1 M1 E1 = -y) := Lib.hid (by rw [hy])
  have HX := Lib.hid hx
  have HY := Lib.hid hy
  have HR := Lib.hid hr
  have HM := Lib.hid hm
  clear hx hy hr hm
  go_enter Tryd.func8, Tryd.ntmps8
  go_upto_region 1 with (fail)
  have X0 := (Bo.newAt w (g := w.heap.size) (by simp) #[.int .i64 D0, .bool s0, .int .u64 M0, .int .i64 E0] 24).below (bel1 _ (.cells #[.int .i64 D1, .bool s1, .int .u64 M1, .int .i64 E1] 24))
  have X1 := (Bo.newAt (w.alloc (.cells #[.int .i64 D0, .bool s0, .int .u64 M0, .int .i64 E0] 24)) (g := w.heap.size + 1) (by simp) #[.int .i64 D1, .bool s1, .int .u64 M1, .int .i64 E1] 24)
  have HB := Lib.hid (bel2 w (.cells #[.int .i64 D0, .bool s0, .int .u64 M0, .int .i64 E0] 24) (.cells #[.int .i64 D1, .bool s1, .int .u64 M1, .int .i64 E1] 24))
  replace hT := hT.below HB.out
  generalize hW1 : ((w.alloc (.cells #[.int .i64 D0, .bool s0, .int .u64 M0, .int .i64 E0] 24)).alloc (.cells #[.int .i64 D1, .bool s1, .int .u64 M1, .int .i64 E1] 24)) = w1 at *
  clear hW1
  go_wp2_with fail
  refine (awake6 hT).mono ?_
  rintro ee w2 ⟨rfl, B⟩
  replace X0 := X0.below B
  replace X1 := X1.below B
  replace hT := hT.below B
  replace HB := Lib.hid (bt HB.out B)
  clear B
  go_upto_region 2 with (fail)
  have ltX0 := X0.lt
  have ltX1 := X1.lt
  refine Jo.region_joint (T := [0, 1, 2, 3, 4, 5, 6, 7]) (ds := [some 11, some 12, some 13, some 14, some 15, some 16, some 17, some 8, none]) (ls := [[], [0], [], [2], [], [4], [1, 3, 5], [], []]) (k := 9) (L := [(some 11, 0), (some 12, 1), (some 13, 2), (some 14, 3), (some 15, 4), (some 16, 5), (some 17, 6), (some 8, 7)]) (fuel := 1) (J := fun wj => Below (World.heap w2).size w2 wj)
    (F := [Jo.Fact.eq (.agg #[.int .i64 D0, .bool s0, .int .u64 M0, .int .i64 E0]), Jo.Fact.num (-x), Jo.Fact.eq (.agg #[.int .i64 D1, .bool s1, .int .u64 M1, .int .i64 E1]), Jo.Fact.num (-y), Jo.Fact.eq (.bool b2), Jo.Fact.eq (.bool (!b2)), Jo.Fact.num (-r), Jo.Fact.bo w2.heap.size #[.int .i64 0, .bool false, .int .u64 0, .int .i64 0] 24, Jo.Fact.any])
    (by kernel_rfl) (by kernel_rfl) (by decide) rfl rfl (fun _ _ h b => bt h b) ((Below.refl _ _).drew) ?_ (fun vs w3 hJ hd => ?_)
  · refine Jo.jcons (i := 0) (o := ⟨some 11, _, _, _, _, _⟩) (di := some 11) (L := []) (f := Jo.Fact.eq (.agg #[.int .i64 D0, .bool s0, .int .u64 M0, .int .i64 E0])) rfl rfl rfl rfl (fun vs wj hJ hd K hK => ?_) ?_
    · clear hd
      simp only [Jo.putl, List.foldl_nil, Act.put, List.setIfInBounds_toArray, List.set_cons_zero, List.set_cons_succ] at hK ⊢
      have xX00 : World.cell? wj ⟨w.heap.size, 0, none⟩ = some (.int .i64 D0) := (X0.below hJ).cell 0
      have xX01 : World.cell? wj ⟨w.heap.size, 1, none⟩ = some (.bool s0) := (X0.below hJ).cell 1
      have xX02 : World.cell? wj ⟨w.heap.size, 2, none⟩ = some (.int .u64 M0) := (X0.below hJ).cell 2
      have xX03 : World.cell? wj ⟨w.heap.size, 3, none⟩ = some (.int .i64 E0) := (X0.below hJ).cell 3
      go_simp
      exact hK.out _ _ rfl (Below.refl _ _)
    refine Jo.jcons (i := 1) (o := ⟨some 12, _, _, _, _, _⟩) (di := some 12) (L := [(some 11, 0)]) (f := Jo.Fact.num (-x)) rfl rfl rfl rfl (fun vs wj hJ hd K hK => ?_) ?_
    · have d0 : (Jo.Fact.eq (.agg #[.int .i64 D0, .bool s0, .int .u64 M0, .int .i64 E0])).P (vs 0) wj := hd 0 (by decide)
      clear hd
      simp only [Jo.putl, List.foldl_cons, List.foldl_nil, Act.put, List.setIfInBounds_toArray, List.set_cons_zero, List.set_cons_succ] at hK ⊢
      generalize vs 0 = u0 at hK d0 ⊢
      replace d0 : u0 = _ := d0
      subst d0
      go_simp
      refine (nNeg u0 HNX.out).mono ?_
      rintro ee wk ⟨K3, s3, M3, E3, rfl, q3, B⟩
      exact hK.out _ _ ⟨K3, s3, M3, E3, rfl, q3⟩ B
    refine Jo.jcons (i := 2) (o := ⟨some 13, _, _, _, _, _⟩) (di := some 13) (L := []) (f := Jo.Fact.eq (.agg #[.int .i64 D1, .bool s1, .int .u64 M1, .int .i64 E1])) rfl rfl rfl rfl (fun vs wj hJ hd K hK => ?_) ?_
    · clear hd
      simp only [Jo.putl, List.foldl_nil, Act.put, List.setIfInBounds_toArray, List.set_cons_zero, List.set_cons_succ] at hK ⊢
      have xX10 : World.cell? wj ⟨w.heap.size + 1, 0, none⟩ = some (.int .i64 D1) := (X1.below hJ).cell 0
      have xX11 : World.cell? wj ⟨w.heap.size + 1, 1, none⟩ = some (.bool s1) := (X1.below hJ).cell 1
      have xX12 : World.cell? wj ⟨w.heap.size + 1, 2, none⟩ = some (.int .u64 M1) := (X1.below hJ).cell 2
      have xX13 : World.cell? wj ⟨w.heap.size + 1, 3, none⟩ = some (.int .i64 E1) := (X1.below hJ).cell 3
      go_simp
      exact hK.out _ _ rfl (Below.refl _ _)
    refine Jo.jcons (i := 3) (o := ⟨some 14, _, _, _, _, _⟩) (di := some 14) (L := [(some 13, 2)]) (f := Jo.Fact.num (-y)) rfl rfl rfl rfl (fun vs wj hJ hd K hK => ?_) ?_
    · have d2 : (Jo.Fact.eq (.agg #[.int .i64 D1, .bool s1, .int .u64 M1, .int .i64 E1])).P (vs 2) wj := hd 2 (by decide)
      clear hd
      simp only [Jo.putl, List.foldl_cons, List.foldl_nil, Act.put, List.setIfInBounds_toArray, List.set_cons_zero, List.set_cons_succ] at hK ⊢
      generalize vs 2 = u2 at hK d2 ⊢
      replace d2 : u2 = _ := d2
      subst d2
      go_simp
      refine (nNeg u1 HNY.out).mono ?_
      rintro ee wk ⟨K4, s4, M4, E4, rfl, q4, B⟩
      exact hK.out _ _ ⟨K4, s4, M4, E4, rfl, q4⟩ B
    refine Jo.jcons (i := 4) (o := ⟨some 15, _, _, _, _, _⟩) (di := some 15) (L := []) (f := Jo.Fact.eq (.bool b2)) rfl rfl rfl rfl (fun vs wj hJ hd K hK => ?_) ?_
    · clear hd
      simp only [Jo.putl, List.foldl_nil, Act.put, List.setIfInBounds_toArray, List.set_cons_zero, List.set_cons_succ] at hK ⊢
      go_simp
      exact hK.out _ _ rfl (Below.refl _ _)
    refine Jo.jcons (i := 5) (o := ⟨some 16, _, _, _, _, _⟩) (di := some 16) (L := [(some 15, 4)]) (f := Jo.Fact.eq (.bool (!b2))) rfl rfl rfl rfl (fun vs wj hJ hd K hK => ?_) ?_
    · have d4 : (Jo.Fact.eq (.bool b2)).P (vs 4) wj := hd 4 (by decide)
      clear hd
      simp only [Jo.putl, List.foldl_cons, List.foldl_nil, Act.put, List.setIfInBounds_toArray, List.set_cons_zero, List.set_cons_succ] at hK ⊢
      generalize vs 4 = u4 at hK d4 ⊢
      replace d4 : u4 = _ := d4
      subst d4
      go_simp
      exact hK.out _ _ rfl (Below.refl _ _)
    refine Jo.jcons (i := 6) (o := ⟨some 17, _, _, _, _, _⟩) (di := some 17) (L := [(some 12, 1), (some 14, 3), (some 16, 5)]) (f := Jo.Fact.num (-r)) rfl rfl rfl rfl (fun vs wj hJ hd K hK => ?_) ?_
    · have d1 : (Jo.Fact.num (-x)).P (vs 1) wj := hd 1 (by decide)
      have d3 : (Jo.Fact.num (-y)).P (vs 3) wj := hd 3 (by decide)
      have d5 : (Jo.Fact.eq (.bool (!b2))).P (vs 5) wj := hd 5 (by decide)
      clear hd
      simp only [Jo.putl, List.foldl_cons, List.foldl_nil, Act.put, List.setIfInBounds_toArray, List.set_cons_zero, List.set_cons_succ] at hK ⊢
      generalize vs 1 = u1 at hK d1 ⊢
      generalize vs 3 = u3 at hK d3 ⊢
      generalize vs 5 = u5 at hK d5 ⊢
      obtain ⟨K3, s3, M3, E3, rfl, q3⟩ := d1
      obtain ⟨K4, s4, M4, E4, rfl, q4⟩ := d3
      replace d5 : u5 = _ := d5
      subst d5
      go_simp
      refine (aAdd (hT.below hJ) q3.top q4.top q3.rk q4.rk HRN.out).mono ?_
      rintro ee wk ⟨K5, s5, M5, E5, rfl, q5, B⟩
      exact hK.out _ _ ⟨K5, s5, M5, E5, rfl, q5⟩ B
    refine Jo.jcons (i := 7) (o := ⟨some 8, _, _, _, _, _⟩) (di := some 8) (L := []) (f := Jo.Fact.bo w2.heap.size #[.int .i64 0, .bool false, .int .u64 0, .int .i64 0] 24) rfl rfl rfl rfl (fun vs wj hJ hd K hK => ?_) ?_
    · clear hd
      simp only [Jo.putl, List.foldl_nil, Act.put, List.setIfInBounds_toArray, List.set_cons_zero, List.set_cons_succ] at hK ⊢
      go_simp
      exact hK.out _ _ ⟨_, rfl, hJ.size, Bo.new _ _ _⟩ (bel1 _ _)
    exact Jo.Steps.nil
  have d0 : (Jo.Fact.eq (.agg #[.int .i64 D0, .bool s0, .int .u64 M0, .int .i64 E0])).P (vs 0) w3 := hd 0 (by decide)
  have d1 : (Jo.Fact.num (-x)).P (vs 1) w3 := hd 1 (by decide)
  have d2 : (Jo.Fact.eq (.agg #[.int .i64 D1, .bool s1, .int .u64 M1, .int .i64 E1])).P (vs 2) w3 := hd 2 (by decide)
  have d3 : (Jo.Fact.num (-y)).P (vs 3) w3 := hd 3 (by decide)
  have d4 : (Jo.Fact.eq (.bool b2)).P (vs 4) w3 := hd 4 (by decide)
  have d5 : (Jo.Fact.eq (.bool (!b2))).P (vs 5) w3 := hd 5 (by decide)
  have d6 : (Jo.Fact.num (-r)).P (vs 6) w3 := hd 6 (by decide)
  have d7 : (Jo.Fact.bo w2.heap.size #[.int .i64 0, .bool false, .int .u64 0, .int .i64 0] 24).P (vs 7) w3 := hd 7 (by decide)
  clear hd
  simp only [Jo.putl, List.foldl_cons, List.foldl_nil, Act.put, List.setIfInBounds_toArray, List.set_cons_zero, List.set_cons_succ]
  generalize vs 0 = u0 at d0 ⊢
  generalize vs 1 = u1 at d1 ⊢
  generalize vs 2 = u2 at d2 ⊢
  generalize vs 3 = u3 at d3 ⊢
  generalize vs 4 = u4 at d4 ⊢
  generalize vs 5 = u5 at d5 ⊢
  generalize vs 6 = u6 at d6 ⊢
  generalize vs 7 = u7 at d7 ⊢
  clear vs
  replace d0 : u0 = _ := d0
  subst d0
  obtain ⟨K3, s3, M3, E3, rfl, _⟩ := d1
  replace d2 : u2 = _ := d2
  subst d2
  obtain ⟨K4, s4, M4, E4, rfl, _⟩ := d3
  replace d4 : u4 = _ := d4
  subst d4
  replace d5 : u5 = _ := d5
  subst d5
  obtain ⟨K5, s5, M5, E5, rfl, q5⟩ := d6
  obtain ⟨g8, rfl, hg8, X8⟩ := d7
  replace X0 := X0.below hJ
  replace X1 := X1.below hJ
  replace hT := hT.below hJ
  replace HB := Lib.hid (bt HB.out hJ)
  have xX80 := X8.at (i := 0) (v := .int .i64 0) rfl
  have zX80 := X8.frozen 0
  have xX81 := X8.at (i := 1) (v := .bool false) rfl
  have zX81 := X8.frozen 1
  have xX82 := X8.at (i := 2) (v := .int .u64 0) rfl
  have zX82 := X8.frozen 2
  have xX83 := X8.at (i := 3) (v := .int .i64 0) rfl
  have zX83 := X8.frozen 3
  refine Jo.jnext (i := 8) (o := ⟨none, _, _, _, _, _⟩) (by kernel_rfl) rfl (fun K hK => ?_)
  go_simp
  refine hK.out _ _ ?_
  clear hK K xX80 zX80 xX81 zX81 xX82 zX82 xX83 zX83
  have SX := StN.mk4 X8 (.int .i64 K5) (.bool s5) (.int .u64 M5) (.int .i64 E5)
  replace X0 := X0.stn SX (by omega)
  replace X1 := X1.stn SX (by omega)
  replace hT := hT.stn SX (by simp [no8])
  replace HB := Lib.hid (SX.below HB.out (by omega))
  replace X8 := SX.box
  clear SX
  generalize (World.setCell (World.setCell (World.setCell (World.setCell w3 ⟨g8, 0, none⟩ (.int .i64 K5)) ⟨g8, 1, none⟩ (.bool s5)) ⟨g8, 2, none⟩ (.int .u64 M5)) ⟨g8, 3, none⟩ (.int .i64 E5)) = w4 at *
  refine Jo.jdone (by kernel_rfl) ?_
  clear ltX0
  clear ltX1
  go_upto_region 3 with (fail)
  have ltX0 := X0.lt
  have ltX1 := X1.lt
  have ltX8 := X8.lt
  refine Jo.region_joint (T := [0, 1, 2, 3, 4, 5, 6]) (ds := [some 18, some 19, some 20, some 21, some 22, some 23, some 9, none]) (ls := [[], [0], [], [], [3], [1, 2, 4], [], []]) (k := 8) (L := [(some 18, 0), (some 19, 1), (some 20, 2), (some 21, 3), (some 22, 4), (some 23, 5), (some 9, 6)]) (fuel := 1) (J := fun wj => Below (World.heap w4).size w4 wj)
    (F := [Jo.Fact.eq (.agg #[.int .i64 D0, .bool s0, .int .u64 M0, .int .i64 E0]), Jo.Fact.num (-x), Jo.Fact.eq (.agg #[.int .i64 D1, .bool s1, .int .u64 M1, .int .i64 E1]), Jo.Fact.eq (.bool b2), Jo.Fact.eq (.bool (!b2)), Jo.Fact.num (-m), Jo.Fact.bo w4.heap.size #[.int .i64 0, .bool false, .int .u64 0, .int .i64 0] 24, Jo.Fact.any])
    (by kernel_rfl) (by kernel_rfl) (by decide) rfl rfl (fun _ _ h b => bt h b) ((Below.refl _ _).drew) ?_ (fun vs w5 hJ hd => ?_)
  · refine Jo.jcons (i := 0) (o := ⟨some 18, _, _, _, _, _⟩) (di := some 18) (L := []) (f := Jo.Fact.eq (.agg #[.int .i64 D0, .bool s0, .int .u64 M0, .int .i64 E0])) rfl rfl rfl rfl (fun vs wj hJ hd K hK => ?_) ?_
    · clear hd
      simp only [Jo.putl, List.foldl_nil, Act.put, List.setIfInBounds_toArray, List.set_cons_zero, List.set_cons_succ] at hK ⊢
      have xX00 : World.cell? wj ⟨w.heap.size, 0, none⟩ = some (.int .i64 D0) := (X0.below hJ).cell 0
      have xX01 : World.cell? wj ⟨w.heap.size, 1, none⟩ = some (.bool s0) := (X0.below hJ).cell 1
      have xX02 : World.cell? wj ⟨w.heap.size, 2, none⟩ = some (.int .u64 M0) := (X0.below hJ).cell 2
      have xX03 : World.cell? wj ⟨w.heap.size, 3, none⟩ = some (.int .i64 E0) := (X0.below hJ).cell 3
      go_simp
      exact hK.out _ _ rfl (Below.refl _ _)
    refine Jo.jcons (i := 1) (o := ⟨some 19, _, _, _, _, _⟩) (di := some 19) (L := [(some 18, 0)]) (f := Jo.Fact.num (-x)) rfl rfl rfl rfl (fun vs wj hJ hd K hK => ?_) ?_
    · have d0 : (Jo.Fact.eq (.agg #[.int .i64 D0, .bool s0, .int .u64 M0, .int .i64 E0])).P (vs 0) wj := hd 0 (by decide)
      clear hd
      simp only [Jo.putl, List.foldl_cons, List.foldl_nil, Act.put, List.setIfInBounds_toArray, List.set_cons_zero, List.set_cons_succ] at hK ⊢
      generalize vs 0 = u0 at hK d0 ⊢
      replace d0 : u0 = _ := d0
      subst d0
      go_simp
      refine (nNeg u0 HNX.out).mono ?_
      rintro ee wk ⟨K3, s3, M3, E3, rfl, q3, B⟩
      exact hK.out _ _ ⟨K3, s3, M3, E3, rfl, q3⟩ B
    refine Jo.jcons (i := 2) (o := ⟨some 20, _, _, _, _, _⟩) (di := some 20) (L := []) (f := Jo.Fact.eq (.agg #[.int .i64 D1, .bool s1, .int .u64 M1, .int .i64 E1])) rfl rfl rfl rfl (fun vs wj hJ hd K hK => ?_) ?_
    · clear hd
      simp only [Jo.putl, List.foldl_nil, Act.put, List.setIfInBounds_toArray, List.set_cons_zero, List.set_cons_succ] at hK ⊢
      have xX10 : World.cell? wj ⟨w.heap.size + 1, 0, none⟩ = some (.int .i64 D1) := (X1.below hJ).cell 0
      have xX11 : World.cell? wj ⟨w.heap.size + 1, 1, none⟩ = some (.bool s1) := (X1.below hJ).cell 1
      have xX12 : World.cell? wj ⟨w.heap.size + 1, 2, none⟩ = some (.int .u64 M1) := (X1.below hJ).cell 2
      have xX13 : World.cell? wj ⟨w.heap.size + 1, 3, none⟩ = some (.int .i64 E1) := (X1.below hJ).cell 3
      go_simp
      exact hK.out _ _ rfl (Below.refl _ _)
    refine Jo.jcons (i := 3) (o := ⟨some 21, _, _, _, _, _⟩) (di := some 21) (L := []) (f := Jo.Fact.eq (.bool b2)) rfl rfl rfl rfl (fun vs wj hJ hd K hK => ?_) ?_
    · clear hd
      simp only [Jo.putl, List.foldl_nil, Act.put, List.setIfInBounds_toArray, List.set_cons_zero, List.set_cons_succ] at hK ⊢
      go_simp
      exact hK.out _ _ rfl (Below.refl _ _)
    refine Jo.jcons (i := 4) (o := ⟨some 22, _, _, _, _, _⟩) (di := some 22) (L := [(some 21, 3)]) (f := Jo.Fact.eq (.bool (!b2))) rfl rfl rfl rfl (fun vs wj hJ hd K hK => ?_) ?_
    · have d3 : (Jo.Fact.eq (.bool b2)).P (vs 3) wj := hd 3 (by decide)
      clear hd
      simp only [Jo.putl, List.foldl_cons, List.foldl_nil, Act.put, List.setIfInBounds_toArray, List.set_cons_zero, List.set_cons_succ] at hK ⊢
      generalize vs 3 = u3 at hK d3 ⊢
      replace d3 : u3 = _ := d3
      subst d3
      go_simp
      exact hK.out _ _ rfl (Below.refl _ _)
    refine Jo.jcons (i := 5) (o := ⟨some 23, _, _, _, _, _⟩) (di := some 23) (L := [(some 19, 1), (some 20, 2), (some 22, 4)]) (f := Jo.Fact.num (-m)) rfl rfl rfl rfl (fun vs wj hJ hd K hK => ?_) ?_
    · have d1 : (Jo.Fact.num (-x)).P (vs 1) wj := hd 1 (by decide)
      have d2 : (Jo.Fact.eq (.agg #[.int .i64 D1, .bool s1, .int .u64 M1, .int .i64 E1])).P (vs 2) wj := hd 2 (by decide)
      have d4 : (Jo.Fact.eq (.bool (!b2))).P (vs 4) wj := hd 4 (by decide)
      clear hd
      simp only [Jo.putl, List.foldl_cons, List.foldl_nil, Act.put, List.setIfInBounds_toArray, List.set_cons_zero, List.set_cons_succ] at hK ⊢
      generalize vs 1 = u1 at hK d1 ⊢
      generalize vs 2 = u2 at hK d2 ⊢
      generalize vs 4 = u4 at hK d4 ⊢
      obtain ⟨K3, s3, M3, E3, rfl, q3⟩ := d1
      replace d2 : u2 = _ := d2
      subst d2
      replace d4 : u4 = _ := d4
      subst d4
      go_simp
      refine (aMul q3.top u1 q3.rk HY.out HMN.out).mono ?_
      rintro ee wk ⟨K6, s6, M6, E6, rfl, q6, B⟩
      exact hK.out _ _ ⟨K6, s6, M6, E6, rfl, q6⟩ B
    refine Jo.jcons (i := 6) (o := ⟨some 9, _, _, _, _, _⟩) (di := some 9) (L := []) (f := Jo.Fact.bo w4.heap.size #[.int .i64 0, .bool false, .int .u64 0, .int .i64 0] 24) rfl rfl rfl rfl (fun vs wj hJ hd K hK => ?_) ?_
    · clear hd
      simp only [Jo.putl, List.foldl_nil, Act.put, List.setIfInBounds_toArray, List.set_cons_zero, List.set_cons_succ] at hK ⊢
      go_simp
      exact hK.out _ _ ⟨_, rfl, hJ.size, Bo.new _ _ _⟩ (bel1 _ _)
    exact Jo.Steps.nil
  have d0 : (Jo.Fact.eq (.agg #[.int .i64 D0, .bool s0, .int .u64 M0, .int .i64 E0])).P (vs 0) w5 := hd 0 (by decide)
  have d1 : (Jo.Fact.num (-x)).P (vs 1) w5 := hd 1 (by decide)
  have d2 : (Jo.Fact.eq (.agg #[.int .i64 D1, .bool s1, .int .u64 M1, .int .i64 E1])).P (vs 2) w5 := hd 2 (by decide)
  have d3 : (Jo.Fact.eq (.bool b2)).P (vs 3) w5 := hd 3 (by decide)
  have d4 : (Jo.Fact.eq (.bool (!b2))).P (vs 4) w5 := hd 4 (by decide)
  have d5 : (Jo.Fact.num (-m)).P (vs 5) w5 := hd 5 (by decide)
  have d6 : (Jo.Fact.bo w4.heap.size #[.int .i64 0, .bool false, .int .u64 0, .int .i64 0] 24).P (vs 6) w5 := hd 6 (by decide)
  clear hd
  simp only [Jo.putl, List.foldl_cons, List.foldl_nil, Act.put, List.setIfInBounds_toArray, List.set_cons_zero, List.set_cons_succ]
  generalize vs 0 = u0 at d0 ⊢
  generalize vs 1 = u1 at d1 ⊢
  generalize vs 2 = u2 at d2 ⊢
  generalize vs 3 = u3 at d3 ⊢
  generalize vs 4 = u4 at d4 ⊢
  generalize vs 5 = u5 at d5 ⊢
  generalize vs 6 = u6 at d6 ⊢
  clear vs
  replace d0 : u0 = _ := d0
  subst d0
  obtain ⟨K3, s3, M3, E3, rfl, _⟩ := d1
  replace d2 : u2 = _ := d2
  subst d2
  replace d3 : u3 = _ := d3
  subst d3
  replace d4 : u4 = _ := d4
  subst d4
  obtain ⟨K6, s6, M6, E6, rfl, q6⟩ := d5
  obtain ⟨g9, rfl, hg9, X9⟩ := d6
  replace X0 := X0.below hJ
  replace X1 := X1.below hJ
  replace X8 := X8.below hJ
  replace hT := hT.below hJ
  replace HB := Lib.hid (bt HB.out hJ)
  have xX90 := X9.at (i := 0) (v := .int .i64 0) rfl
  have zX90 := X9.frozen 0
  have xX91 := X9.at (i := 1) (v := .bool false) rfl
  have zX91 := X9.frozen 1
  have xX92 := X9.at (i := 2) (v := .int .u64 0) rfl
  have zX92 := X9.frozen 2
  have xX93 := X9.at (i := 3) (v := .int .i64 0) rfl
  have zX93 := X9.frozen 3
  refine Jo.jnext (i := 7) (o := ⟨none, _, _, _, _, _⟩) (by kernel_rfl) rfl (fun K hK => ?_)
  go_simp
  refine hK.out _ _ ?_
  clear hK K xX90 zX90 xX91 zX91 xX92 zX92 xX93 zX93
  have SX := StN.mk4 X9 (.int .i64 K6) (.bool s6) (.int .u64 M6) (.int .i64 E6)
  replace X0 := X0.stn SX (by omega)
  replace X1 := X1.stn SX (by omega)
  replace X8 := X8.stn SX (by omega)
  replace hT := hT.stn SX (by simp [no8])
  replace HB := Lib.hid (SX.below HB.out (by omega))
  replace X9 := SX.box
  clear SX
  generalize (World.setCell (World.setCell (World.setCell (World.setCell w5 ⟨g9, 0, none⟩ (.int .i64 K6)) ⟨g9, 1, none⟩ (.bool s6)) ⟨g9, 2, none⟩ (.int .u64 M6)) ⟨g9, 3, none⟩ (.int .i64 E6)) = w6 at *
  refine Jo.jdone (by kernel_rfl) ?_
  clear ltX0
  clear ltX1
  clear ltX8
  go_upto_region 4 with (fail)
  refine Jo.region_joint (T := [0, 1, 2, 3, 4, 5, 6, 7, 8, 9, 10, 11, 12, 13, 14, 15, 16, 17, 18, 19, 20, 21, 22, 23, 24, 25, 26, 27, 28, 29, 30, 31, 32, 33, 34, 35, 36, 37, 38, 39, 40, 41]) (ds := [some 24, some 25, some 26, some 27, some 28, some 29, some 30, some 31, some 32, some 33, some 34, some 35, some 36, some 37, some 38, some 39, some 40, some 41, some 42, some 43, some 44, some 45, some 46, some 47, some 48, some 49, some 50, some 51, some 52, some 53, some 54, some 55, some 56, some 57, some 58, some 59, some 60, some 61, some 62, some 63, some 64, some 6]) (ls := [[], [0], [1], [1], [1], [1, 2, 3, 4], [1], [1, 6], [1, 5, 7], [1, 8], [9], [10], [10], [10], [10, 11, 12, 13], [10], [10, 15], [10, 14, 16], [10, 17], [18], [19], [19], [19], [19, 20, 21, 22], [19], [19], [19], [19, 24, 25, 26], [19, 23, 27], [19, 28], [29], [30], [30], [30], [30, 31, 32, 33], [30], [30], [30], [30, 35, 36, 37], [30, 34, 38], [30, 39], [40]]) (k := 42) (L := [(some 24, 0), (some 25, 1), (some 26, 2), (some 27, 3), (some 28, 4), (some 29, 5), (some 30, 6), (some 31, 7), (some 32, 8), (some 33, 9), (some 34, 10), (some 35, 11), (some 36, 12), (some 37, 13), (some 38, 14), (some 39, 15), (some 40, 16), (some 41, 17), (some 42, 18), (some 43, 19), (some 44, 20), (some 45, 21), (some 46, 22), (some 47, 23), (some 48, 24), (some 49, 25), (some 50, 26), (some 51, 27), (some 52, 28), (some 53, 29), (some 54, 30), (some 55, 31), (some 56, 32), (some 57, 33), (some 58, 34), (some 59, 35), (some 60, 36), (some 61, 37), (some 62, 38), (some 63, 39), (some 64, 40), (some 6, 41)]) (fuel := 0) (J := fun wj => Below (World.heap w6).size w6 wj)
    (F := [Jo.Fact.eq (.bool true), Jo.Fact.eq (.bool true), Jo.Fact.eq (.agg #[.int .i64 D0, .bool s0, .int .u64 M0, .int .i64 E0]), Jo.Fact.eq (.agg #[.int .i64 D1, .bool s1, .int .u64 M1, .int .i64 E1]), Jo.Fact.eq (.bool b2), Jo.Fact.num r, Jo.Fact.eq (.agg #[.int .i64 K5, .bool s5, .int .u64 M5, .int .i64 E5]), Jo.Fact.num r, Jo.Fact.eq (.bool true), Jo.Fact.eq (.bool true), Jo.Fact.eq (.bool true), Jo.Fact.eq (.agg #[.int .i64 D0, .bool s0, .int .u64 M0, .int .i64 E0]), Jo.Fact.eq (.agg #[.int .i64 D1, .bool s1, .int .u64 M1, .int .i64 E1]), Jo.Fact.eq (.bool b2), Jo.Fact.num m, Jo.Fact.eq (.agg #[.int .i64 K6, .bool s6, .int .u64 M6, .int .i64 E6]), Jo.Fact.num m, Jo.Fact.eq (.bool true), Jo.Fact.eq (.bool true), Jo.Fact.eq (.bool true), Jo.Fact.eq (.agg #[.int .i64 D0, .bool s0, .int .u64 M0, .int .i64 E0]), Jo.Fact.eq (.agg #[.int .i64 D1, .bool s1, .int .u64 M1, .int .i64 E1]), Jo.Fact.eq (.bool b2), Jo.Fact.num r, Jo.Fact.eq (.agg #[.int .i64 D1, .bool s1, .int .u64 M1, .int .i64 E1]), Jo.Fact.eq (.agg #[.int .i64 D0, .bool s0, .int .u64 M0, .int .i64 E0]), Jo.Fact.eq (.bool b2), Jo.Fact.num r, Jo.Fact.eq (.bool true), Jo.Fact.eq (.bool true), Jo.Fact.eq (.bool true), Jo.Fact.eq (.agg #[.int .i64 D0, .bool s0, .int .u64 M0, .int .i64 E0]), Jo.Fact.eq (.agg #[.int .i64 D1, .bool s1, .int .u64 M1, .int .i64 E1]), Jo.Fact.eq (.bool b2), Jo.Fact.num m, Jo.Fact.eq (.agg #[.int .i64 D1, .bool s1, .int .u64 M1, .int .i64 E1]), Jo.Fact.eq (.agg #[.int .i64 D0, .bool s0, .int .u64 M0, .int .i64 E0]), Jo.Fact.eq (.bool b2), Jo.Fact.num m, Jo.Fact.eq (.bool true), Jo.Fact.eq (.bool true), Jo.Fact.eq (.bool true)])
    (by kernel_rfl) (by kernel_rfl) (by decide) rfl rfl (fun _ _ h b => bt h b) ((Below.refl _ _).drew) ?_ (fun vs w7 hJ hd => ?_)
  · refine Jo.jcons (i := 0) (o := ⟨some 24, _, _, _, _, _⟩) (di := some 24) (L := []) (f := Jo.Fact.eq (.bool true)) rfl rfl rfl rfl (fun vs wj hJ hd K hK => ?_) ?_
    · clear hd
      simp only [Jo.putl, List.foldl_nil, Act.put, List.setIfInBounds_toArray, List.set_cons_zero, List.set_cons_succ] at hK ⊢
      go_simp
      exact hK.out _ _ rfl (Below.refl _ _)
    refine Jo.jcons (i := 1) (o := ⟨some 25, _, _, _, _, _⟩) (di := some 25) (L := [(some 24, 0)]) (f := Jo.Fact.eq (.bool true)) rfl rfl rfl rfl (fun vs wj hJ hd K hK => ?_) ?_
    · have d0 : (Jo.Fact.eq (.bool true)).P (vs 0) wj := hd 0 (by decide)
      clear hd
      simp only [Jo.putl, List.foldl_cons, List.foldl_nil, Act.put, List.setIfInBounds_toArray, List.set_cons_zero, List.set_cons_succ] at hK ⊢
      generalize vs 0 = u0 at hK d0 ⊢
      replace d0 : u0 = _ := d0
      subst d0
      go_simp
      exact hK.out _ _ rfl (Below.refl _ _)
    refine Jo.jcons (i := 2) (o := ⟨some 26, _, _, _, _, _⟩) (di := some 26) (L := [(some 25, 1)]) (f := Jo.Fact.eq (.agg #[.int .i64 D0, .bool s0, .int .u64 M0, .int .i64 E0])) rfl rfl rfl rfl (fun vs wj hJ hd K hK => ?_) ?_
    · have d1 : (Jo.Fact.eq (.bool true)).P (vs 1) wj := hd 1 (by decide)
      clear hd
      simp only [Jo.putl, List.foldl_cons, List.foldl_nil, Act.put, List.setIfInBounds_toArray, List.set_cons_zero, List.set_cons_succ] at hK ⊢
      generalize vs 1 = u1 at hK d1 ⊢
      replace d1 : u1 = _ := d1
      subst d1
      have xX00 : World.cell? wj ⟨w.heap.size, 0, none⟩ = some (.int .i64 D0) := (X0.below hJ).cell 0
      have xX01 : World.cell? wj ⟨w.heap.size, 1, none⟩ = some (.bool s0) := (X0.below hJ).cell 1
      have xX02 : World.cell? wj ⟨w.heap.size, 2, none⟩ = some (.int .u64 M0) := (X0.below hJ).cell 2
      have xX03 : World.cell? wj ⟨w.heap.size, 3, none⟩ = some (.int .i64 E0) := (X0.below hJ).cell 3
      go_simp
      exact hK.out _ _ rfl (Below.refl _ _)
    refine Jo.jcons (i := 3) (o := ⟨some 27, _, _, _, _, _⟩) (di := some 27) (L := [(some 25, 1)]) (f := Jo.Fact.eq (.agg #[.int .i64 D1, .bool s1, .int .u64 M1, .int .i64 E1])) rfl rfl rfl rfl (fun vs wj hJ hd K hK => ?_) ?_
    · have d1 : (Jo.Fact.eq (.bool true)).P (vs 1) wj := hd 1 (by decide)
      clear hd
      simp only [Jo.putl, List.foldl_cons, List.foldl_nil, Act.put, List.setIfInBounds_toArray, List.set_cons_zero, List.set_cons_succ] at hK ⊢
      generalize vs 1 = u1 at hK d1 ⊢
      replace d1 : u1 = _ := d1
      subst d1
      have xX10 : World.cell? wj ⟨w.heap.size + 1, 0, none⟩ = some (.int .i64 D1) := (X1.below hJ).cell 0
      have xX11 : World.cell? wj ⟨w.heap.size + 1, 1, none⟩ = some (.bool s1) := (X1.below hJ).cell 1
      have xX12 : World.cell? wj ⟨w.heap.size + 1, 2, none⟩ = some (.int .u64 M1) := (X1.below hJ).cell 2
      have xX13 : World.cell? wj ⟨w.heap.size + 1, 3, none⟩ = some (.int .i64 E1) := (X1.below hJ).cell 3
      go_simp
      exact hK.out _ _ rfl (Below.refl _ _)
    refine Jo.jcons (i := 4) (o := ⟨some 28, _, _, _, _, _⟩) (di := some 28) (L := [(some 25, 1)]) (f := Jo.Fact.eq (.bool b2)) rfl rfl rfl rfl (fun vs wj hJ hd K hK => ?_) ?_
    · have d1 : (Jo.Fact.eq (.bool true)).P (vs 1) wj := hd 1 (by decide)
      clear hd
      simp only [Jo.putl, List.foldl_cons, List.foldl_nil, Act.put, List.setIfInBounds_toArray, List.set_cons_zero, List.set_cons_succ] at hK ⊢
      generalize vs 1 = u1 at hK d1 ⊢
      replace d1 : u1 = _ := d1
      subst d1
      go_simp
      exact hK.out _ _ rfl (Below.refl _ _)
    refine Jo.jcons (i := 5) (o := ⟨some 29, _, _, _, _, _⟩) (di := some 29) (L := [(some 25, 1), (some 26, 2), (some 27, 3), (some 28, 4)]) (f := Jo.Fact.num r) rfl rfl rfl rfl (fun vs wj hJ hd K hK => ?_) ?_
    · have d1 : (Jo.Fact.eq (.bool true)).P (vs 1) wj := hd 1 (by decide)
      have d2 : (Jo.Fact.eq (.agg #[.int .i64 D0, .bool s0, .int .u64 M0, .int .i64 E0])).P (vs 2) wj := hd 2 (by decide)
      have d3 : (Jo.Fact.eq (.agg #[.int .i64 D1, .bool s1, .int .u64 M1, .int .i64 E1])).P (vs 3) wj := hd 3 (by decide)
      have d4 : (Jo.Fact.eq (.bool b2)).P (vs 4) wj := hd 4 (by decide)
      clear hd
      simp only [Jo.putl, List.foldl_cons, List.foldl_nil, Act.put, List.setIfInBounds_toArray, List.set_cons_zero, List.set_cons_succ] at hK ⊢
      generalize vs 1 = u1 at hK d1 ⊢
      generalize vs 2 = u2 at hK d2 ⊢
      generalize vs 3 = u3 at hK d3 ⊢
      generalize vs 4 = u4 at hK d4 ⊢
      replace d1 : u1 = _ := d1
      subst d1
      replace d2 : u2 = _ := d2
      subst d2
      replace d3 : u3 = _ := d3
      subst d3
      replace d4 : u4 = _ := d4
      subst d4
      go_simp
      refine (aAdd (hT.below hJ) u0 u1 HX.out HY.out HR.out).mono ?_
      rintro ee wk ⟨K10, s10, M10, E10, rfl, q10, B⟩
      exact hK.out _ _ ⟨K10, s10, M10, E10, rfl, q10⟩ B
    refine Jo.jcons (i := 6) (o := ⟨some 30, _, _, _, _, _⟩) (di := some 30) (L := [(some 25, 1)]) (f := Jo.Fact.eq (.agg #[.int .i64 K5, .bool s5, .int .u64 M5, .int .i64 E5])) rfl rfl rfl rfl (fun vs wj hJ hd K hK => ?_) ?_
    · have d1 : (Jo.Fact.eq (.bool true)).P (vs 1) wj := hd 1 (by decide)
      clear hd
      simp only [Jo.putl, List.foldl_cons, List.foldl_nil, Act.put, List.setIfInBounds_toArray, List.set_cons_zero, List.set_cons_succ] at hK ⊢
      generalize vs 1 = u1 at hK d1 ⊢
      replace d1 : u1 = _ := d1
      subst d1
      have xX80 : World.cell? wj ⟨g8, 0, none⟩ = some (.int .i64 K5) := (X8.below hJ).cell 0
      have xX81 : World.cell? wj ⟨g8, 1, none⟩ = some (.bool s5) := (X8.below hJ).cell 1
      have xX82 : World.cell? wj ⟨g8, 2, none⟩ = some (.int .u64 M5) := (X8.below hJ).cell 2
      have xX83 : World.cell? wj ⟨g8, 3, none⟩ = some (.int .i64 E5) := (X8.below hJ).cell 3
      go_simp
      exact hK.out _ _ rfl (Below.refl _ _)
    refine Jo.jcons (i := 7) (o := ⟨some 31, _, _, _, _, _⟩) (di := some 31) (L := [(some 25, 1), (some 30, 6)]) (f := Jo.Fact.num r) rfl rfl rfl rfl (fun vs wj hJ hd K hK => ?_) ?_
    · have d1 : (Jo.Fact.eq (.bool true)).P (vs 1) wj := hd 1 (by decide)
      have d6 : (Jo.Fact.eq (.agg #[.int .i64 K5, .bool s5, .int .u64 M5, .int .i64 E5])).P (vs 6) wj := hd 6 (by decide)
      clear hd
      simp only [Jo.putl, List.foldl_cons, List.foldl_nil, Act.put, List.setIfInBounds_toArray, List.set_cons_zero, List.set_cons_succ] at hK ⊢
      generalize vs 1 = u1 at hK d1 ⊢
      generalize vs 6 = u6 at hK d6 ⊢
      replace d1 : u1 = _ := d1
      subst d1
      replace d6 : u6 = _ := d6
      subst d6
      go_simp
      refine (nNeg (r := r) q5.top (by rw [q5.rk]; omega)).mono ?_
      rintro ee wk ⟨K11, s11, M11, E11, rfl, q11, B⟩
      exact hK.out _ _ ⟨K11, s11, M11, E11, rfl, q11⟩ B
    refine Jo.jcons (i := 8) (o := ⟨some 32, _, _, _, _, _⟩) (di := some 32) (L := [(some 25, 1), (some 29, 5), (some 31, 7)]) (f := Jo.Fact.eq (.bool true)) rfl rfl rfl rfl (fun vs wj hJ hd K hK => ?_) ?_
    · have d1 : (Jo.Fact.eq (.bool true)).P (vs 1) wj := hd 1 (by decide)
      have d5 : (Jo.Fact.num r).P (vs 5) wj := hd 5 (by decide)
      have d7 : (Jo.Fact.num r).P (vs 7) wj := hd 7 (by decide)
      clear hd
      simp only [Jo.putl, List.foldl_cons, List.foldl_nil, Act.put, List.setIfInBounds_toArray, List.set_cons_zero, List.set_cons_succ] at hK ⊢
      generalize vs 1 = u1 at hK d1 ⊢
      generalize vs 5 = u5 at hK d5 ⊢
      generalize vs 7 = u7 at hK d7 ⊢
      replace d1 : u1 = _ := d1
      subst d1
      obtain ⟨K10, s10, M10, E10, rfl, q10⟩ := d5
      obtain ⟨K11, s11, M11, E11, rfl, q11⟩ := d7
      obtain ⟨rfl, rfl, rfl, rfl⟩ := q10.uniq q11
      go_simp
      exact hK.out _ _ (by first | rfl | (show Value.bool _ = Value.bool _; simp)) (Below.refl _ _)
    refine Jo.jcons (i := 9) (o := ⟨some 33, _, _, _, _, _⟩) (di := some 33) (L := [(some 25, 1), (some 32, 8)]) (f := Jo.Fact.eq (.bool true)) rfl rfl rfl rfl (fun vs wj hJ hd K hK => ?_) ?_
    · have d1 : (Jo.Fact.eq (.bool true)).P (vs 1) wj := hd 1 (by decide)
      have d8 : (Jo.Fact.eq (.bool true)).P (vs 8) wj := hd 8 (by decide)
      clear hd
      simp only [Jo.putl, List.foldl_cons, List.foldl_nil, Act.put, List.setIfInBounds_toArray, List.set_cons_zero, List.set_cons_succ] at hK ⊢
      generalize vs 1 = u1 at hK d1 ⊢
      generalize vs 8 = u8 at hK d8 ⊢
      replace d1 : u1 = _ := d1
      subst d1
      replace d8 : u8 = _ := d8
      subst d8
      go_simp
      exact hK.out _ _ rfl (Below.refl _ _)
    refine Jo.jcons (i := 10) (o := ⟨some 34, _, _, _, _, _⟩) (di := some 34) (L := [(some 33, 9)]) (f := Jo.Fact.eq (.bool true)) rfl rfl rfl rfl (fun vs wj hJ hd K hK => ?_) ?_
    · have d9 : (Jo.Fact.eq (.bool true)).P (vs 9) wj := hd 9 (by decide)
      clear hd
      simp only [Jo.putl, List.foldl_cons, List.foldl_nil, Act.put, List.setIfInBounds_toArray, List.set_cons_zero, List.set_cons_succ] at hK ⊢
      generalize vs 9 = u9 at hK d9 ⊢
      replace d9 : u9 = _ := d9
      subst d9
      go_simp
      exact hK.out _ _ rfl (Below.refl _ _)
    refine Jo.jcons (i := 11) (o := ⟨some 35, _, _, _, _, _⟩) (di := some 35) (L := [(some 34, 10)]) (f := Jo.Fact.eq (.agg #[.int .i64 D0, .bool s0, .int .u64 M0, .int .i64 E0])) rfl rfl rfl rfl (fun vs wj hJ hd K hK => ?_) ?_
    · have d10 : (Jo.Fact.eq (.bool true)).P (vs 10) wj := hd 10 (by decide)
      clear hd
      simp only [Jo.putl, List.foldl_cons, List.foldl_nil, Act.put, List.setIfInBounds_toArray, List.set_cons_zero, List.set_cons_succ] at hK ⊢
      generalize vs 10 = u10 at hK d10 ⊢
      replace d10 : u10 = _ := d10
      subst d10
      have xX00 : World.cell? wj ⟨w.heap.size, 0, none⟩ = some (.int .i64 D0) := (X0.below hJ).cell 0
      have xX01 : World.cell? wj ⟨w.heap.size, 1, none⟩ = some (.bool s0) := (X0.below hJ).cell 1
      have xX02 : World.cell? wj ⟨w.heap.size, 2, none⟩ = some (.int .u64 M0) := (X0.below hJ).cell 2
      have xX03 : World.cell? wj ⟨w.heap.size, 3, none⟩ = some (.int .i64 E0) := (X0.below hJ).cell 3
      go_simp
      exact hK.out _ _ rfl (Below.refl _ _)
    refine Jo.jcons (i := 12) (o := ⟨some 36, _, _, _, _, _⟩) (di := some 36) (L := [(some 34, 10)]) (f := Jo.Fact.eq (.agg #[.int .i64 D1, .bool s1, .int .u64 M1, .int .i64 E1])) rfl rfl rfl rfl (fun vs wj hJ hd K hK => ?_) ?_
    · have d10 : (Jo.Fact.eq (.bool true)).P (vs 10) wj := hd 10 (by decide)
      clear hd
      simp only [Jo.putl, List.foldl_cons, List.foldl_nil, Act.put, List.setIfInBounds_toArray, List.set_cons_zero, List.set_cons_succ] at hK ⊢
      generalize vs 10 = u10 at hK d10 ⊢
      replace d10 : u10 = _ := d10
      subst d10
      have xX10 : World.cell? wj ⟨w.heap.size + 1, 0, none⟩ = some (.int .i64 D1) := (X1.below hJ).cell 0
      have xX11 : World.cell? wj ⟨w.heap.size + 1, 1, none⟩ = some (.bool s1) := (X1.below hJ).cell 1
      have xX12 : World.cell? wj ⟨w.heap.size + 1, 2, none⟩ = some (.int .u64 M1) := (X1.below hJ).cell 2
      have xX13 : World.cell? wj ⟨w.heap.size + 1, 3, none⟩ = some (.int .i64 E1) := (X1.below hJ).cell 3
      go_simp
      exact hK.out _ _ rfl (Below.refl _ _)
    refine Jo.jcons (i := 13) (o := ⟨some 37, _, _, _, _, _⟩) (di := some 37) (L := [(some 34, 10)]) (f := Jo.Fact.eq (.bool b2)) rfl rfl rfl rfl (fun vs wj hJ hd K hK => ?_) ?_
    · have d10 : (Jo.Fact.eq (.bool true)).P (vs 10) wj := hd 10 (by decide)
      clear hd
      simp only [Jo.putl, List.foldl_cons, List.foldl_nil, Act.put, List.setIfInBounds_toArray, List.set_cons_zero, List.set_cons_succ] at hK ⊢
      generalize vs 10 = u10 at hK d10 ⊢
      replace d10 : u10 = _ := d10
      subst d10
      go_simp
      exact hK.out _ _ rfl (Below.refl _ _)
    refine Jo.jcons (i := 14) (o := ⟨some 38, _, _, _, _, _⟩) (di := some 38) (L := [(some 34, 10), (some 35, 11), (some 36, 12), (some 37, 13)]) (f := Jo.Fact.num m) rfl rfl rfl rfl (fun vs wj hJ hd K hK => ?_) ?_
    · have d10 : (Jo.Fact.eq (.bool true)).P (vs 10) wj := hd 10 (by decide)
      have d11 : (Jo.Fact.eq (.agg #[.int .i64 D0, .bool s0, .int .u64 M0, .int .i64 E0])).P (vs 11) wj := hd 11 (by decide)
      have d12 : (Jo.Fact.eq (.agg #[.int .i64 D1, .bool s1, .int .u64 M1, .int .i64 E1])).P (vs 12) wj := hd 12 (by decide)
      have d13 : (Jo.Fact.eq (.bool b2)).P (vs 13) wj := hd 13 (by decide)
      clear hd
      simp only [Jo.putl, List.foldl_cons, List.foldl_nil, Act.put, List.setIfInBounds_toArray, List.set_cons_zero, List.set_cons_succ] at hK ⊢
      generalize vs 10 = u10 at hK d10 ⊢
      generalize vs 11 = u11 at hK d11 ⊢
      generalize vs 12 = u12 at hK d12 ⊢
      generalize vs 13 = u13 at hK d13 ⊢
      replace d10 : u10 = _ := d10
      subst d10
      replace d11 : u11 = _ := d11
      subst d11
      replace d12 : u12 = _ := d12
      subst d12
      replace d13 : u13 = _ := d13
      subst d13
      go_simp
      refine (aMul u0 u1 HX.out HY.out HM.out).mono ?_
      rintro ee wk ⟨K12, s12, M12, E12, rfl, q12, B⟩
      exact hK.out _ _ ⟨K12, s12, M12, E12, rfl, q12⟩ B
    refine Jo.jcons (i := 15) (o := ⟨some 39, _, _, _, _, _⟩) (di := some 39) (L := [(some 34, 10)]) (f := Jo.Fact.eq (.agg #[.int .i64 K6, .bool s6, .int .u64 M6, .int .i64 E6])) rfl rfl rfl rfl (fun vs wj hJ hd K hK => ?_) ?_
    · have d10 : (Jo.Fact.eq (.bool true)).P (vs 10) wj := hd 10 (by decide)
      clear hd
      simp only [Jo.putl, List.foldl_cons, List.foldl_nil, Act.put, List.setIfInBounds_toArray, List.set_cons_zero, List.set_cons_succ] at hK ⊢
      generalize vs 10 = u10 at hK d10 ⊢
      replace d10 : u10 = _ := d10
      subst d10
      have xX90 : World.cell? wj ⟨g9, 0, none⟩ = some (.int .i64 K6) := (X9.below hJ).cell 0
      have xX91 : World.cell? wj ⟨g9, 1, none⟩ = some (.bool s6) := (X9.below hJ).cell 1
      have xX92 : World.cell? wj ⟨g9, 2, none⟩ = some (.int .u64 M6) := (X9.below hJ).cell 2
      have xX93 : World.cell? wj ⟨g9, 3, none⟩ = some (.int .i64 E6) := (X9.below hJ).cell 3
      go_simp
      exact hK.out _ _ rfl (Below.refl _ _)
    refine Jo.jcons (i := 16) (o := ⟨some 40, _, _, _, _, _⟩) (di := some 40) (L := [(some 34, 10), (some 39, 15)]) (f := Jo.Fact.num m) rfl rfl rfl rfl (fun vs wj hJ hd K hK => ?_) ?_
    · have d10 : (Jo.Fact.eq (.bool true)).P (vs 10) wj := hd 10 (by decide)
      have d15 : (Jo.Fact.eq (.agg #[.int .i64 K6, .bool s6, .int .u64 M6, .int .i64 E6])).P (vs 15) wj := hd 15 (by decide)
      clear hd
      simp only [Jo.putl, List.foldl_cons, List.foldl_nil, Act.put, List.setIfInBounds_toArray, List.set_cons_zero, List.set_cons_succ] at hK ⊢
      generalize vs 10 = u10 at hK d10 ⊢
      generalize vs 15 = u15 at hK d15 ⊢
      replace d10 : u10 = _ := d10
      subst d10
      replace d15 : u15 = _ := d15
      subst d15
      go_simp
      refine (nNeg (r := m) q6.top (by rw [q6.rk]; omega)).mono ?_
      rintro ee wk ⟨K13, s13, M13, E13, rfl, q13, B⟩
      exact hK.out _ _ ⟨K13, s13, M13, E13, rfl, q13⟩ B
    refine Jo.jcons (i := 17) (o := ⟨some 41, _, _, _, _, _⟩) (di := some 41) (L := [(some 34, 10), (some 38, 14), (some 40, 16)]) (f := Jo.Fact.eq (.bool true)) rfl rfl rfl rfl (fun vs wj hJ hd K hK => ?_) ?_
    · have d10 : (Jo.Fact.eq (.bool true)).P (vs 10) wj := hd 10 (by decide)
      have d14 : (Jo.Fact.num m).P (vs 14) wj := hd 14 (by decide)
      have d16 : (Jo.Fact.num m).P (vs 16) wj := hd 16 (by decide)
      clear hd
      simp only [Jo.putl, List.foldl_cons, List.foldl_nil, Act.put, List.setIfInBounds_toArray, List.set_cons_zero, List.set_cons_succ] at hK ⊢
      generalize vs 10 = u10 at hK d10 ⊢
      generalize vs 14 = u14 at hK d14 ⊢
      generalize vs 16 = u16 at hK d16 ⊢
      replace d10 : u10 = _ := d10
      subst d10
      obtain ⟨K12, s12, M12, E12, rfl, q12⟩ := d14
      obtain ⟨K13, s13, M13, E13, rfl, q13⟩ := d16
      obtain ⟨rfl, rfl, rfl, rfl⟩ := q12.uniq q13
      go_simp
      exact hK.out _ _ (by first | rfl | (show Value.bool _ = Value.bool _; simp)) (Below.refl _ _)
    refine Jo.jcons (i := 18) (o := ⟨some 42, _, _, _, _, _⟩) (di := some 42) (L := [(some 34, 10), (some 41, 17)]) (f := Jo.Fact.eq (.bool true)) rfl rfl rfl rfl (fun vs wj hJ hd K hK => ?_) ?_
    · have d10 : (Jo.Fact.eq (.bool true)).P (vs 10) wj := hd 10 (by decide)
      have d17 : (Jo.Fact.eq (.bool true)).P (vs 17) wj := hd 17 (by decide)
      clear hd
      simp only [Jo.putl, List.foldl_cons, List.foldl_nil, Act.put, List.setIfInBounds_toArray, List.set_cons_zero, List.set_cons_succ] at hK ⊢
      generalize vs 10 = u10 at hK d10 ⊢
      generalize vs 17 = u17 at hK d17 ⊢
      replace d10 : u10 = _ := d10
      subst d10
      replace d17 : u17 = _ := d17
      subst d17
      go_simp
      exact hK.out _ _ rfl (Below.refl _ _)
    refine Jo.jcons (i := 19) (o := ⟨some 43, _, _, _, _, _⟩) (di := some 43) (L := [(some 42, 18)]) (f := Jo.Fact.eq (.bool true)) rfl rfl rfl rfl (fun vs wj hJ hd K hK => ?_) ?_
    · have d18 : (Jo.Fact.eq (.bool true)).P (vs 18) wj := hd 18 (by decide)
      clear hd
      simp only [Jo.putl, List.foldl_cons, List.foldl_nil, Act.put, List.setIfInBounds_toArray, List.set_cons_zero, List.set_cons_succ] at hK ⊢
      generalize vs 18 = u18 at hK d18 ⊢
      replace d18 : u18 = _ := d18
      subst d18
      go_simp
      exact hK.out _ _ rfl (Below.refl _ _)
    refine Jo.jcons (i := 20) (o := ⟨some 44, _, _, _, _, _⟩) (di := some 44) (L := [(some 43, 19)]) (f := Jo.Fact.eq (.agg #[.int .i64 D0, .bool s0, .int .u64 M0, .int .i64 E0])) rfl rfl rfl rfl (fun vs wj hJ hd K hK => ?_) ?_
    · have d19 : (Jo.Fact.eq (.bool true)).P (vs 19) wj := hd 19 (by decide)
      clear hd
      simp only [Jo.putl, List.foldl_cons, List.foldl_nil, Act.put, List.setIfInBounds_toArray, List.set_cons_zero, List.set_cons_succ] at hK ⊢
      generalize vs 19 = u19 at hK d19 ⊢
      replace d19 : u19 = _ := d19
      subst d19
      have xX00 : World.cell? wj ⟨w.heap.size, 0, none⟩ = some (.int .i64 D0) := (X0.below hJ).cell 0
      have xX01 : World.cell? wj ⟨w.heap.size, 1, none⟩ = some (.bool s0) := (X0.below hJ).cell 1
      have xX02 : World.cell? wj ⟨w.heap.size, 2, none⟩ = some (.int .u64 M0) := (X0.below hJ).cell 2
      have xX03 : World.cell? wj ⟨w.heap.size, 3, none⟩ = some (.int .i64 E0) := (X0.below hJ).cell 3
      go_simp
      exact hK.out _ _ rfl (Below.refl _ _)
    refine Jo.jcons (i := 21) (o := ⟨some 45, _, _, _, _, _⟩) (di := some 45) (L := [(some 43, 19)]) (f := Jo.Fact.eq (.agg #[.int .i64 D1, .bool s1, .int .u64 M1, .int .i64 E1])) rfl rfl rfl rfl (fun vs wj hJ hd K hK => ?_) ?_
    · have d19 : (Jo.Fact.eq (.bool true)).P (vs 19) wj := hd 19 (by decide)
      clear hd
      simp only [Jo.putl, List.foldl_cons, List.foldl_nil, Act.put, List.setIfInBounds_toArray, List.set_cons_zero, List.set_cons_succ] at hK ⊢
      generalize vs 19 = u19 at hK d19 ⊢
      replace d19 : u19 = _ := d19
      subst d19
      have xX10 : World.cell? wj ⟨w.heap.size + 1, 0, none⟩ = some (.int .i64 D1) := (X1.below hJ).cell 0
      have xX11 : World.cell? wj ⟨w.heap.size + 1, 1, none⟩ = some (.bool s1) := (X1.below hJ).cell 1
      have xX12 : World.cell? wj ⟨w.heap.size + 1, 2, none⟩ = some (.int .u64 M1) := (X1.below hJ).cell 2
      have xX13 : World.cell? wj ⟨w.heap.size + 1, 3, none⟩ = some (.int .i64 E1) := (X1.below hJ).cell 3
      go_simp
      exact hK.out _ _ rfl (Below.refl _ _)
    refine Jo.jcons (i := 22) (o := ⟨some 46, _, _, _, _, _⟩) (di := some 46) (L := [(some 43, 19)]) (f := Jo.Fact.eq (.bool b2)) rfl rfl rfl rfl (fun vs wj hJ hd K hK => ?_) ?_
    · have d19 : (Jo.Fact.eq (.bool true)).P (vs 19) wj := hd 19 (by decide)
      clear hd
      simp only [Jo.putl, List.foldl_cons, List.foldl_nil, Act.put, List.setIfInBounds_toArray, List.set_cons_zero, List.set_cons_succ] at hK ⊢
      generalize vs 19 = u19 at hK d19 ⊢
      replace d19 : u19 = _ := d19
      subst d19
      go_simp
      exact hK.out _ _ rfl (Below.refl _ _)
    refine Jo.jcons (i := 23) (o := ⟨some 47, _, _, _, _, _⟩) (di := some 47) (L := [(some 43, 19), (some 44, 20), (some 45, 21), (some 46, 22)]) (f := Jo.Fact.num r) rfl rfl rfl rfl (fun vs wj hJ hd K hK => ?_) ?_
    · have d19 : (Jo.Fact.eq (.bool true)).P (vs 19) wj := hd 19 (by decide)
      have d20 : (Jo.Fact.eq (.agg #[.int .i64 D0, .bool s0, .int .u64 M0, .int .i64 E0])).P (vs 20) wj := hd 20 (by decide)
      have d21 : (Jo.Fact.eq (.agg #[.int .i64 D1, .bool s1, .int .u64 M1, .int .i64 E1])).P (vs 21) wj := hd 21 (by decide)
      have d22 : (Jo.Fact.eq (.bool b2)).P (vs 22) wj := hd 22 (by decide)
      clear hd
      simp only [Jo.putl, List.foldl_cons, List.foldl_nil, Act.put, List.setIfInBounds_toArray, List.set_cons_zero, List.set_cons_succ] at hK ⊢
      generalize vs 19 = u19 at hK d19 ⊢
      generalize vs 20 = u20 at hK d20 ⊢
      generalize vs 21 = u21 at hK d21 ⊢
      generalize vs 22 = u22 at hK d22 ⊢
      replace d19 : u19 = _ := d19
      subst d19
      replace d20 : u20 = _ := d20
      subst d20
      replace d21 : u21 = _ := d21
      subst d21
      replace d22 : u22 = _ := d22
      subst d22
      go_simp
      refine (aAdd (hT.below hJ) u0 u1 HX.out HY.out HR.out).mono ?_
      rintro ee wk ⟨K14, s14, M14, E14, rfl, q14, B⟩
      exact hK.out _ _ ⟨K14, s14, M14, E14, rfl, q14⟩ B
    refine Jo.jcons (i := 24) (o := ⟨some 48, _, _, _, _, _⟩) (di := some 48) (L := [(some 43, 19)]) (f := Jo.Fact.eq (.agg #[.int .i64 D1, .bool s1, .int .u64 M1, .int .i64 E1])) rfl rfl rfl rfl (fun vs wj hJ hd K hK => ?_) ?_
    · have d19 : (Jo.Fact.eq (.bool true)).P (vs 19) wj := hd 19 (by decide)
      clear hd
      simp only [Jo.putl, List.foldl_cons, List.foldl_nil, Act.put, List.setIfInBounds_toArray, List.set_cons_zero, List.set_cons_succ] at hK ⊢
      generalize vs 19 = u19 at hK d19 ⊢
      replace d19 : u19 = _ := d19
      subst d19
      have xX10 : World.cell? wj ⟨w.heap.size + 1, 0, none⟩ = some (.int .i64 D1) := (X1.below hJ).cell 0
      have xX11 : World.cell? wj ⟨w.heap.size + 1, 1, none⟩ = some (.bool s1) := (X1.below hJ).cell 1
      have xX12 : World.cell? wj ⟨w.heap.size + 1, 2, none⟩ = some (.int .u64 M1) := (X1.below hJ).cell 2
      have xX13 : World.cell? wj ⟨w.heap.size + 1, 3, none⟩ = some (.int .i64 E1) := (X1.below hJ).cell 3
      go_simp
      exact hK.out _ _ rfl (Below.refl _ _)
    refine Jo.jcons (i := 25) (o := ⟨some 49, _, _, _, _, _⟩) (di := some 49) (L := [(some 43, 19)]) (f := Jo.Fact.eq (.agg #[.int .i64 D0, .bool s0, .int .u64 M0, .int .i64 E0])) rfl rfl rfl rfl (fun vs wj hJ hd K hK => ?_) ?_
    · have d19 : (Jo.Fact.eq (.bool true)).P (vs 19) wj := hd 19 (by decide)
      clear hd
      simp only [Jo.putl, List.foldl_cons, List.foldl_nil, Act.put, List.setIfInBounds_toArray, List.set_cons_zero, List.set_cons_succ] at hK ⊢
      generalize vs 19 = u19 at hK d19 ⊢
      replace d19 : u19 = _ := d19
      subst d19
      have xX00 : World.cell? wj ⟨w.heap.size, 0, none⟩ = some (.int .i64 D0) := (X0.below hJ).cell 0
      have xX01 : World.cell? wj ⟨w.heap.size, 1, none⟩ = some (.bool s0) := (X0.below hJ).cell 1
      have xX02 : World.cell? wj ⟨w.heap.size, 2, none⟩ = some (.int .u64 M0) := (X0.below hJ).cell 2
      have xX03 : World.cell? wj ⟨w.heap.size, 3, none⟩ = some (.int .i64 E0) := (X0.below hJ).cell 3
      go_simp
      exact hK.out _ _ rfl (Below.refl _ _)
    refine Jo.jcons (i := 26) (o := ⟨some 50, _, _, _, _, _⟩) (di := some 50) (L := [(some 43, 19)]) (f := Jo.Fact.eq (.bool b2)) rfl rfl rfl rfl (fun vs wj hJ hd K hK => ?_) ?_
    · have d19 : (Jo.Fact.eq (.bool true)).P (vs 19) wj := hd 19 (by decide)
      clear hd
      simp only [Jo.putl, List.foldl_cons, List.foldl_nil, Act.put, List.setIfInBounds_toArray, List.set_cons_zero, List.set_cons_succ] at hK ⊢
      generalize vs 19 = u19 at hK d19 ⊢
      replace d19 : u19 = _ := d19
      subst d19
      go_simp
      exact hK.out _ _ rfl (Below.refl _ _)
    refine Jo.jcons (i := 27) (o := ⟨some 51, _, _, _, _, _⟩) (di := some 51) (L := [(some 43, 19), (some 48, 24), (some 49, 25), (some 50, 26)]) (f := Jo.Fact.num r) rfl rfl rfl rfl (fun vs wj hJ hd K hK => ?_) ?_
    · have d19 : (Jo.Fact.eq (.bool true)).P (vs 19) wj := hd 19 (by decide)
      have d24 : (Jo.Fact.eq (.agg #[.int .i64 D1, .bool s1, .int .u64 M1, .int .i64 E1])).P (vs 24) wj := hd 24 (by decide)
      have d25 : (Jo.Fact.eq (.agg #[.int .i64 D0, .bool s0, .int .u64 M0, .int .i64 E0])).P (vs 25) wj := hd 25 (by decide)
      have d26 : (Jo.Fact.eq (.bool b2)).P (vs 26) wj := hd 26 (by decide)
      clear hd
      simp only [Jo.putl, List.foldl_cons, List.foldl_nil, Act.put, List.setIfInBounds_toArray, List.set_cons_zero, List.set_cons_succ] at hK ⊢
      generalize vs 19 = u19 at hK d19 ⊢
      generalize vs 24 = u24 at hK d24 ⊢
      generalize vs 25 = u25 at hK d25 ⊢
      generalize vs 26 = u26 at hK d26 ⊢
      replace d19 : u19 = _ := d19
      subst d19
      replace d24 : u24 = _ := d24
      subst d24
      replace d25 : u25 = _ := d25
      subst d25
      replace d26 : u26 = _ := d26
      subst d26
      go_simp
      refine (aAdd (hT.below hJ) u1 u0 HY.out HX.out HRC.out).mono ?_
      rintro ee wk ⟨K15, s15, M15, E15, rfl, q15, B⟩
      exact hK.out _ _ ⟨K15, s15, M15, E15, rfl, q15⟩ B
    refine Jo.jcons (i := 28) (o := ⟨some 52, _, _, _, _, _⟩) (di := some 52) (L := [(some 43, 19), (some 47, 23), (some 51, 27)]) (f := Jo.Fact.eq (.bool true)) rfl rfl rfl rfl (fun vs wj hJ hd K hK => ?_) ?_
    · have d19 : (Jo.Fact.eq (.bool true)).P (vs 19) wj := hd 19 (by decide)
      have d23 : (Jo.Fact.num r).P (vs 23) wj := hd 23 (by decide)
      have d27 : (Jo.Fact.num r).P (vs 27) wj := hd 27 (by decide)
      clear hd
      simp only [Jo.putl, List.foldl_cons, List.foldl_nil, Act.put, List.setIfInBounds_toArray, List.set_cons_zero, List.set_cons_succ] at hK ⊢
      generalize vs 19 = u19 at hK d19 ⊢
      generalize vs 23 = u23 at hK d23 ⊢
      generalize vs 27 = u27 at hK d27 ⊢
      replace d19 : u19 = _ := d19
      subst d19
      obtain ⟨K14, s14, M14, E14, rfl, q14⟩ := d23
      obtain ⟨K15, s15, M15, E15, rfl, q15⟩ := d27
      obtain ⟨rfl, rfl, rfl, rfl⟩ := q14.uniq q15
      go_simp
      exact hK.out _ _ (by first | rfl | (show Value.bool _ = Value.bool _; simp)) (Below.refl _ _)
    refine Jo.jcons (i := 29) (o := ⟨some 53, _, _, _, _, _⟩) (di := some 53) (L := [(some 43, 19), (some 52, 28)]) (f := Jo.Fact.eq (.bool true)) rfl rfl rfl rfl (fun vs wj hJ hd K hK => ?_) ?_
    · have d19 : (Jo.Fact.eq (.bool true)).P (vs 19) wj := hd 19 (by decide)
      have d28 : (Jo.Fact.eq (.bool true)).P (vs 28) wj := hd 28 (by decide)
      clear hd
      simp only [Jo.putl, List.foldl_cons, List.foldl_nil, Act.put, List.setIfInBounds_toArray, List.set_cons_zero, List.set_cons_succ] at hK ⊢
      generalize vs 19 = u19 at hK d19 ⊢
      generalize vs 28 = u28 at hK d28 ⊢
      replace d19 : u19 = _ := d19
      subst d19
      replace d28 : u28 = _ := d28
      subst d28
      go_simp
      exact hK.out _ _ rfl (Below.refl _ _)
    refine Jo.jcons (i := 30) (o := ⟨some 54, _, _, _, _, _⟩) (di := some 54) (L := [(some 53, 29)]) (f := Jo.Fact.eq (.bool true)) rfl rfl rfl rfl (fun vs wj hJ hd K hK => ?_) ?_
    · have d29 : (Jo.Fact.eq (.bool true)).P (vs 29) wj := hd 29 (by decide)
      clear hd
      simp only [Jo.putl, List.foldl_cons, List.foldl_nil, Act.put, List.setIfInBounds_toArray, List.set_cons_zero, List.set_cons_succ] at hK ⊢
      generalize vs 29 = u29 at hK d29 ⊢
      replace d29 : u29 = _ := d29
      subst d29
      go_simp
      exact hK.out _ _ rfl (Below.refl _ _)
    refine Jo.jcons (i := 31) (o := ⟨some 55, _, _, _, _, _⟩) (di := some 55) (L := [(some 54, 30)]) (f := Jo.Fact.eq (.agg #[.int .i64 D0, .bool s0, .int .u64 M0, .int .i64 E0])) rfl rfl rfl rfl (fun vs wj hJ hd K hK => ?_) ?_
    · have d30 : (Jo.Fact.eq (.bool true)).P (vs 30) wj := hd 30 (by decide)
      clear hd
      simp only [Jo.putl, List.foldl_cons, List.foldl_nil, Act.put, List.setIfInBounds_toArray, List.set_cons_zero, List.set_cons_succ] at hK ⊢
      generalize vs 30 = u30 at hK d30 ⊢
      replace d30 : u30 = _ := d30
      subst d30
      have xX00 : World.cell? wj ⟨w.heap.size, 0, none⟩ = some (.int .i64 D0) := (X0.below hJ).cell 0
      have xX01 : World.cell? wj ⟨w.heap.size, 1, none⟩ = some (.bool s0) := (X0.below hJ).cell 1
      have xX02 : World.cell? wj ⟨w.heap.size, 2, none⟩ = some (.int .u64 M0) := (X0.below hJ).cell 2
      have xX03 : World.cell? wj ⟨w.heap.size, 3, none⟩ = some (.int .i64 E0) := (X0.below hJ).cell 3
      go_simp
      exact hK.out _ _ rfl (Below.refl _ _)
    refine Jo.jcons (i := 32) (o := ⟨some 56, _, _, _, _, _⟩) (di := some 56) (L := [(some 54, 30)]) (f := Jo.Fact.eq (.agg #[.int .i64 D1, .bool s1, .int .u64 M1, .int .i64 E1])) rfl rfl rfl rfl (fun vs wj hJ hd K hK => ?_) ?_
    · have d30 : (Jo.Fact.eq (.bool true)).P (vs 30) wj := hd 30 (by decide)
      clear hd
      simp only [Jo.putl, List.foldl_cons, List.foldl_nil, Act.put, List.setIfInBounds_toArray, List.set_cons_zero, List.set_cons_succ] at hK ⊢
      generalize vs 30 = u30 at hK d30 ⊢
      replace d30 : u30 = _ := d30
      subst d30
      have xX10 : World.cell? wj ⟨w.heap.size + 1, 0, none⟩ = some (.int .i64 D1) := (X1.below hJ).cell 0
      have xX11 : World.cell? wj ⟨w.heap.size + 1, 1, none⟩ = some (.bool s1) := (X1.below hJ).cell 1
      have xX12 : World.cell? wj ⟨w.heap.size + 1, 2, none⟩ = some (.int .u64 M1) := (X1.below hJ).cell 2
      have xX13 : World.cell? wj ⟨w.heap.size + 1, 3, none⟩ = some (.int .i64 E1) := (X1.below hJ).cell 3
      go_simp
      exact hK.out _ _ rfl (Below.refl _ _)
    refine Jo.jcons (i := 33) (o := ⟨some 57, _, _, _, _, _⟩) (di := some 57) (L := [(some 54, 30)]) (f := Jo.Fact.eq (.bool b2)) rfl rfl rfl rfl (fun vs wj hJ hd K hK => ?_) ?_
    · have d30 : (Jo.Fact.eq (.bool true)).P (vs 30) wj := hd 30 (by decide)
      clear hd
      simp only [Jo.putl, List.foldl_cons, List.foldl_nil, Act.put, List.setIfInBounds_toArray, List.set_cons_zero, List.set_cons_succ] at hK ⊢
      generalize vs 30 = u30 at hK d30 ⊢
      replace d30 : u30 = _ := d30
      subst d30
      go_simp
      exact hK.out _ _ rfl (Below.refl _ _)
    refine Jo.jcons (i := 34) (o := ⟨some 58, _, _, _, _, _⟩) (di := some 58) (L := [(some 54, 30), (some 55, 31), (some 56, 32), (some 57, 33)]) (f := Jo.Fact.num m) rfl rfl rfl rfl (fun vs wj hJ hd K hK => ?_) ?_
    · have d30 : (Jo.Fact.eq (.bool true)).P (vs 30) wj := hd 30 (by decide)
      have d31 : (Jo.Fact.eq (.agg #[.int .i64 D0, .bool s0, .int .u64 M0, .int .i64 E0])).P (vs 31) wj := hd 31 (by decide)
      have d32 : (Jo.Fact.eq (.agg #[.int .i64 D1, .bool s1, .int .u64 M1, .int .i64 E1])).P (vs 32) wj := hd 32 (by decide)
      have d33 : (Jo.Fact.eq (.bool b2)).P (vs 33) wj := hd 33 (by decide)
      clear hd
      simp only [Jo.putl, List.foldl_cons, List.foldl_nil, Act.put, List.setIfInBounds_toArray, List.set_cons_zero, List.set_cons_succ] at hK ⊢
      generalize vs 30 = u30 at hK d30 ⊢
      generalize vs 31 = u31 at hK d31 ⊢
      generalize vs 32 = u32 at hK d32 ⊢
      generalize vs 33 = u33 at hK d33 ⊢
      replace d30 : u30 = _ := d30
      subst d30
      replace d31 : u31 = _ := d31
      subst d31
      replace d32 : u32 = _ := d32
      subst d32
      replace d33 : u33 = _ := d33
      subst d33
      go_simp
      refine (aMul u0 u1 HX.out HY.out HM.out).mono ?_
      rintro ee wk ⟨K16, s16, M16, E16, rfl, q16, B⟩
      exact hK.out _ _ ⟨K16, s16, M16, E16, rfl, q16⟩ B
    refine Jo.jcons (i := 35) (o := ⟨some 59, _, _, _, _, _⟩) (di := some 59) (L := [(some 54, 30)]) (f := Jo.Fact.eq (.agg #[.int .i64 D1, .bool s1, .int .u64 M1, .int .i64 E1])) rfl rfl rfl rfl (fun vs wj hJ hd K hK => ?_) ?_
    · have d30 : (Jo.Fact.eq (.bool true)).P (vs 30) wj := hd 30 (by decide)
      clear hd
      simp only [Jo.putl, List.foldl_cons, List.foldl_nil, Act.put, List.setIfInBounds_toArray, List.set_cons_zero, List.set_cons_succ] at hK ⊢
      generalize vs 30 = u30 at hK d30 ⊢
      replace d30 : u30 = _ := d30
      subst d30
      have xX10 : World.cell? wj ⟨w.heap.size + 1, 0, none⟩ = some (.int .i64 D1) := (X1.below hJ).cell 0
      have xX11 : World.cell? wj ⟨w.heap.size + 1, 1, none⟩ = some (.bool s1) := (X1.below hJ).cell 1
      have xX12 : World.cell? wj ⟨w.heap.size + 1, 2, none⟩ = some (.int .u64 M1) := (X1.below hJ).cell 2
      have xX13 : World.cell? wj ⟨w.heap.size + 1, 3, none⟩ = some (.int .i64 E1) := (X1.below hJ).cell 3
      go_simp
      exact hK.out _ _ rfl (Below.refl _ _)
    refine Jo.jcons (i := 36) (o := ⟨some 60, _, _, _, _, _⟩) (di := some 60) (L := [(some 54, 30)]) (f := Jo.Fact.eq (.agg #[.int .i64 D0, .bool s0, .int .u64 M0, .int .i64 E0])) rfl rfl rfl rfl (fun vs wj hJ hd K hK => ?_) ?_
    · have d30 : (Jo.Fact.eq (.bool true)).P (vs 30) wj := hd 30 (by decide)
      clear hd
      simp only [Jo.putl, List.foldl_cons, List.foldl_nil, Act.put, List.setIfInBounds_toArray, List.set_cons_zero, List.set_cons_succ] at hK ⊢
      generalize vs 30 = u30 at hK d30 ⊢
      replace d30 : u30 = _ := d30
      subst d30
      have xX00 : World.cell? wj ⟨w.heap.size, 0, none⟩ = some (.int .i64 D0) := (X0.below hJ).cell 0
      have xX01 : World.cell? wj ⟨w.heap.size, 1, none⟩ = some (.bool s0) := (X0.below hJ).cell 1
      have xX02 : World.cell? wj ⟨w.heap.size, 2, none⟩ = some (.int .u64 M0) := (X0.below hJ).cell 2
      have xX03 : World.cell? wj ⟨w.heap.size, 3, none⟩ = some (.int .i64 E0) := (X0.below hJ).cell 3
      go_simp
      exact hK.out _ _ rfl (Below.refl _ _)
    refine Jo.jcons (i := 37) (o := ⟨some 61, _, _, _, _, _⟩) (di := some 61) (L := [(some 54, 30)]) (f := Jo.Fact.eq (.bool b2)) rfl rfl rfl rfl (fun vs wj hJ hd K hK => ?_) ?_
    · have d30 : (Jo.Fact.eq (.bool true)).P (vs 30) wj := hd 30 (by decide)
      clear hd
      simp only [Jo.putl, List.foldl_cons, List.foldl_nil, Act.put, List.setIfInBounds_toArray, List.set_cons_zero, List.set_cons_succ] at hK ⊢
      generalize vs 30 = u30 at hK d30 ⊢
      replace d30 : u30 = _ := d30
      subst d30
      go_simp
      exact hK.out _ _ rfl (Below.refl _ _)
    refine Jo.jcons (i := 38) (o := ⟨some 62, _, _, _, _, _⟩) (di := some 62) (L := [(some 54, 30), (some 59, 35), (some 60, 36), (some 61, 37)]) (f := Jo.Fact.num m) rfl rfl rfl rfl (fun vs wj hJ hd K hK => ?_) ?_
    · have d30 : (Jo.Fact.eq (.bool true)).P (vs 30) wj := hd 30 (by decide)
      have d35 : (Jo.Fact.eq (.agg #[.int .i64 D1, .bool s1, .int .u64 M1, .int .i64 E1])).P (vs 35) wj := hd 35 (by decide)
      have d36 : (Jo.Fact.eq (.agg #[.int .i64 D0, .bool s0, .int .u64 M0, .int .i64 E0])).P (vs 36) wj := hd 36 (by decide)
      have d37 : (Jo.Fact.eq (.bool b2)).P (vs 37) wj := hd 37 (by decide)
      clear hd
      simp only [Jo.putl, List.foldl_cons, List.foldl_nil, Act.put, List.setIfInBounds_toArray, List.set_cons_zero, List.set_cons_succ] at hK ⊢
      generalize vs 30 = u30 at hK d30 ⊢
      generalize vs 35 = u35 at hK d35 ⊢
      generalize vs 36 = u36 at hK d36 ⊢
      generalize vs 37 = u37 at hK d37 ⊢
      replace d30 : u30 = _ := d30
      subst d30
      replace d35 : u35 = _ := d35
      subst d35
      replace d36 : u36 = _ := d36
      subst d36
      replace d37 : u37 = _ := d37
      subst d37
      go_simp
      refine (aMul u1 u0 HY.out HX.out HMC.out).mono ?_
      rintro ee wk ⟨K17, s17, M17, E17, rfl, q17, B⟩
      exact hK.out _ _ ⟨K17, s17, M17, E17, rfl, q17⟩ B
    refine Jo.jcons (i := 39) (o := ⟨some 63, _, _, _, _, _⟩) (di := some 63) (L := [(some 54, 30), (some 58, 34), (some 62, 38)]) (f := Jo.Fact.eq (.bool true)) rfl rfl rfl rfl (fun vs wj hJ hd K hK => ?_) ?_
    · have d30 : (Jo.Fact.eq (.bool true)).P (vs 30) wj := hd 30 (by decide)
      have d34 : (Jo.Fact.num m).P (vs 34) wj := hd 34 (by decide)
      have d38 : (Jo.Fact.num m).P (vs 38) wj := hd 38 (by decide)
      clear hd
      simp only [Jo.putl, List.foldl_cons, List.foldl_nil, Act.put, List.setIfInBounds_toArray, List.set_cons_zero, List.set_cons_succ] at hK ⊢
      generalize vs 30 = u30 at hK d30 ⊢
      generalize vs 34 = u34 at hK d34 ⊢
      generalize vs 38 = u38 at hK d38 ⊢
      replace d30 : u30 = _ := d30
      subst d30
      obtain ⟨K16, s16, M16, E16, rfl, q16⟩ := d34
      obtain ⟨K17, s17, M17, E17, rfl, q17⟩ := d38
      obtain ⟨rfl, rfl, rfl, rfl⟩ := q16.uniq q17
      go_simp
      exact hK.out _ _ (by first | rfl | (show Value.bool _ = Value.bool _; simp)) (Below.refl _ _)
    refine Jo.jcons (i := 40) (o := ⟨some 64, _, _, _, _, _⟩) (di := some 64) (L := [(some 54, 30), (some 63, 39)]) (f := Jo.Fact.eq (.bool true)) rfl rfl rfl rfl (fun vs wj hJ hd K hK => ?_) ?_
    · have d30 : (Jo.Fact.eq (.bool true)).P (vs 30) wj := hd 30 (by decide)
      have d39 : (Jo.Fact.eq (.bool true)).P (vs 39) wj := hd 39 (by decide)
      clear hd
      simp only [Jo.putl, List.foldl_cons, List.foldl_nil, Act.put, List.setIfInBounds_toArray, List.set_cons_zero, List.set_cons_succ] at hK ⊢
      generalize vs 30 = u30 at hK d30 ⊢
      generalize vs 39 = u39 at hK d39 ⊢
      replace d30 : u30 = _ := d30
      subst d30
      replace d39 : u39 = _ := d39
      subst d39
      go_simp
      exact hK.out _ _ rfl (Below.refl _ _)
    refine Jo.jcons (i := 41) (o := ⟨some 6, _, _, _, _, _⟩) (di := some 6) (L := [(some 64, 40)]) (f := Jo.Fact.eq (.bool true)) rfl rfl rfl rfl (fun vs wj hJ hd K hK => ?_) ?_
    · have d40 : (Jo.Fact.eq (.bool true)).P (vs 40) wj := hd 40 (by decide)
      clear hd
      simp only [Jo.putl, List.foldl_cons, List.foldl_nil, Act.put, List.setIfInBounds_toArray, List.set_cons_zero, List.set_cons_succ] at hK ⊢
      generalize vs 40 = u40 at hK d40 ⊢
      replace d40 : u40 = _ := d40
      subst d40
      go_simp
      exact hK.out _ _ rfl (Below.refl _ _)
    exact Jo.Steps.nil
  have d0 : (Jo.Fact.eq (.bool true)).P (vs 0) w7 := hd 0 (by decide)
  have d1 : (Jo.Fact.eq (.bool true)).P (vs 1) w7 := hd 1 (by decide)
  have d2 : (Jo.Fact.eq (.agg #[.int .i64 D0, .bool s0, .int .u64 M0, .int .i64 E0])).P (vs 2) w7 := hd 2 (by decide)
  have d3 : (Jo.Fact.eq (.agg #[.int .i64 D1, .bool s1, .int .u64 M1, .int .i64 E1])).P (vs 3) w7 := hd 3 (by decide)
  have d4 : (Jo.Fact.eq (.bool b2)).P (vs 4) w7 := hd 4 (by decide)
  have d5 : (Jo.Fact.num r).P (vs 5) w7 := hd 5 (by decide)
  have d6 : (Jo.Fact.eq (.agg #[.int .i64 K5, .bool s5, .int .u64 M5, .int .i64 E5])).P (vs 6) w7 := hd 6 (by decide)
  have d7 : (Jo.Fact.num r).P (vs 7) w7 := hd 7 (by decide)
  have d8 : (Jo.Fact.eq (.bool true)).P (vs 8) w7 := hd 8 (by decide)
  have d9 : (Jo.Fact.eq (.bool true)).P (vs 9) w7 := hd 9 (by decide)
  have d10 : (Jo.Fact.eq (.bool true)).P (vs 10) w7 := hd 10 (by decide)
  have d11 : (Jo.Fact.eq (.agg #[.int .i64 D0, .bool s0, .int .u64 M0, .int .i64 E0])).P (vs 11) w7 := hd 11 (by decide)
  have d12 : (Jo.Fact.eq (.agg #[.int .i64 D1, .bool s1, .int .u64 M1, .int .i64 E1])).P (vs 12) w7 := hd 12 (by decide)
  have d13 : (Jo.Fact.eq (.bool b2)).P (vs 13) w7 := hd 13 (by decide)
  have d14 : (Jo.Fact.num m).P (vs 14) w7 := hd 14 (by decide)
  have d15 : (Jo.Fact.eq (.agg #[.int .i64 K6, .bool s6, .int .u64 M6, .int .i64 E6])).P (vs 15) w7 := hd 15 (by decide)
  have d16 : (Jo.Fact.num m).P (vs 16) w7 := hd 16 (by decide)
  have d17 : (Jo.Fact.eq (.bool true)).P (vs 17) w7 := hd 17 (by decide)
  have d18 : (Jo.Fact.eq (.bool true)).P (vs 18) w7 := hd 18 (by decide)
  have d19 : (Jo.Fact.eq (.bool true)).P (vs 19) w7 := hd 19 (by decide)
  have d20 : (Jo.Fact.eq (.agg #[.int .i64 D0, .bool s0, .int .u64 M0, .int .i64 E0])).P (vs 20) w7 := hd 20 (by decide)
  have d21 : (Jo.Fact.eq (.agg #[.int .i64 D1, .bool s1, .int .u64 M1, .int .i64 E1])).P (vs 21) w7 := hd 21 (by decide)
  have d22 : (Jo.Fact.eq (.bool b2)).P (vs 22) w7 := hd 22 (by decide)
  have d23 : (Jo.Fact.num r).P (vs 23) w7 := hd 23 (by decide)
  have d24 : (Jo.Fact.eq (.agg #[.int .i64 D1, .bool s1, .int .u64 M1, .int .i64 E1])).P (vs 24) w7 := hd 24 (by decide)
  have d25 : (Jo.Fact.eq (.agg #[.int .i64 D0, .bool s0, .int .u64 M0, .int .i64 E0])).P (vs 25) w7 := hd 25 (by decide)
  have d26 : (Jo.Fact.eq (.bool b2)).P (vs 26) w7 := hd 26 (by decide)
  have d27 : (Jo.Fact.num r).P (vs 27) w7 := hd 27 (by decide)
  have d28 : (Jo.Fact.eq (.bool true)).P (vs 28) w7 := hd 28 (by decide)
  have d29 : (Jo.Fact.eq (.bool true)).P (vs 29) w7 := hd 29 (by decide)
  have d30 : (Jo.Fact.eq (.bool true)).P (vs 30) w7 := hd 30 (by decide)
  have d31 : (Jo.Fact.eq (.agg #[.int .i64 D0, .bool s0, .int .u64 M0, .int .i64 E0])).P (vs 31) w7 := hd 31 (by decide)
  have d32 : (Jo.Fact.eq (.agg #[.int .i64 D1, .bool s1, .int .u64 M1, .int .i64 E1])).P (vs 32) w7 := hd 32 (by decide)
  have d33 : (Jo.Fact.eq (.bool b2)).P (vs 33) w7 := hd 33 (by decide)
  have d34 : (Jo.Fact.num m).P (vs 34) w7 := hd 34 (by decide)
  have d35 : (Jo.Fact.eq (.agg #[.int .i64 D1, .bool s1, .int .u64 M1, .int .i64 E1])).P (vs 35) w7 := hd 35 (by decide)
  have d36 : (Jo.Fact.eq (.agg #[.int .i64 D0, .bool s0, .int .u64 M0, .int .i64 E0])).P (vs 36) w7 := hd 36 (by decide)
  have d37 : (Jo.Fact.eq (.bool b2)).P (vs 37) w7 := hd 37 (by decide)
  have d38 : (Jo.Fact.num m).P (vs 38) w7 := hd 38 (by decide)
  have d39 : (Jo.Fact.eq (.bool true)).P (vs 39) w7 := hd 39 (by decide)
  have d40 : (Jo.Fact.eq (.bool true)).P (vs 40) w7 := hd 40 (by decide)
  have d41 : (Jo.Fact.eq (.bool true)).P (vs 41) w7 := hd 41 (by decide)
  clear hd
  simp only [Jo.putl, List.foldl_cons, List.foldl_nil, Act.put, List.setIfInBounds_toArray, List.set_cons_zero, List.set_cons_succ]
  generalize vs 0 = u0 at d0 ⊢
  generalize vs 1 = u1 at d1 ⊢
  generalize vs 2 = u2 at d2 ⊢
  generalize vs 3 = u3 at d3 ⊢
  generalize vs 4 = u4 at d4 ⊢
  generalize vs 5 = u5 at d5 ⊢
  generalize vs 6 = u6 at d6 ⊢
  generalize vs 7 = u7 at d7 ⊢
  generalize vs 8 = u8 at d8 ⊢
  generalize vs 9 = u9 at d9 ⊢
  generalize vs 10 = u10 at d10 ⊢
  generalize vs 11 = u11 at d11 ⊢
  generalize vs 12 = u12 at d12 ⊢
  generalize vs 13 = u13 at d13 ⊢
  generalize vs 14 = u14 at d14 ⊢
  generalize vs 15 = u15 at d15 ⊢
  generalize vs 16 = u16 at d16 ⊢
  generalize vs 17 = u17 at d17 ⊢
  generalize vs 18 = u18 at d18 ⊢
  generalize vs 19 = u19 at d19 ⊢
  generalize vs 20 = u20 at d20 ⊢
  generalize vs 21 = u21 at d21 ⊢
  generalize vs 22 = u22 at d22 ⊢
  generalize vs 23 = u23 at d23 ⊢
  generalize vs 24 = u24 at d24 ⊢
  generalize vs 25 = u25 at d25 ⊢
  generalize vs 26 = u26 at d26 ⊢
  generalize vs 27 = u27 at d27 ⊢
  generalize vs 28 = u28 at d28 ⊢
  generalize vs 29 = u29 at d29 ⊢
  generalize vs 30 = u30 at d30 ⊢
  generalize vs 31 = u31 at d31 ⊢
  generalize vs 32 = u32 at d32 ⊢
  generalize vs 33 = u33 at d33 ⊢
  generalize vs 34 = u34 at d34 ⊢
  generalize vs 35 = u35 at d35 ⊢
  generalize vs 36 = u36 at d36 ⊢
  generalize vs 37 = u37 at d37 ⊢
  generalize vs 38 = u38 at d38 ⊢
  generalize vs 39 = u39 at d39 ⊢
  generalize vs 40 = u40 at d40 ⊢
  generalize vs 41 = u41 at d41 ⊢
  clear vs
  replace d0 : u0 = _ := d0
  subst d0
  replace d1 : u1 = _ := d1
  subst d1
  replace d2 : u2 = _ := d2
  subst d2
  replace d3 : u3 = _ := d3
  subst d3
  replace d4 : u4 = _ := d4
  subst d4
  obtain ⟨K10, s10, M10, E10, rfl, _⟩ := d5
  replace d6 : u6 = _ := d6
  subst d6
  obtain ⟨K11, s11, M11, E11, rfl, _⟩ := d7
  replace d8 : u8 = _ := d8
  subst d8
  replace d9 : u9 = _ := d9
  subst d9
  replace d10 : u10 = _ := d10
  subst d10
  replace d11 : u11 = _ := d11
  subst d11
  replace d12 : u12 = _ := d12
  subst d12
  replace d13 : u13 = _ := d13
  subst d13
  obtain ⟨K12, s12, M12, E12, rfl, _⟩ := d14
  replace d15 : u15 = _ := d15
  subst d15
  obtain ⟨K13, s13, M13, E13, rfl, _⟩ := d16
  replace d17 : u17 = _ := d17
  subst d17
  replace d18 : u18 = _ := d18
  subst d18
  replace d19 : u19 = _ := d19
  subst d19
  replace d20 : u20 = _ := d20
  subst d20
  replace d21 : u21 = _ := d21
  subst d21
  replace d22 : u22 = _ := d22
  subst d22
  obtain ⟨K14, s14, M14, E14, rfl, _⟩ := d23
  replace d24 : u24 = _ := d24
  subst d24
  replace d25 : u25 = _ := d25
  subst d25
  replace d26 : u26 = _ := d26
  subst d26
  obtain ⟨K15, s15, M15, E15, rfl, _⟩ := d27
  replace d28 : u28 = _ := d28
  subst d28
  replace d29 : u29 = _ := d29
  subst d29
  replace d30 : u30 = _ := d30
  subst d30
  replace d31 : u31 = _ := d31
  subst d31
  replace d32 : u32 = _ := d32
  subst d32
  replace d33 : u33 = _ := d33
  subst d33
  obtain ⟨K16, s16, M16, E16, rfl, _⟩ := d34
  replace d35 : u35 = _ := d35
  subst d35
  replace d36 : u36 = _ := d36
  subst d36
  replace d37 : u37 = _ := d37
  subst d37
  obtain ⟨K17, s17, M17, E17, rfl, _⟩ := d38
  replace d39 : u39 = _ := d39
  subst d39
  replace d40 : u40 = _ := d40
  subst d40
  replace d41 : u41 = _ := d41
  subst d41
  replace X0 := X0.below hJ
  replace X1 := X1.below hJ
  replace X8 := X8.below hJ
  replace X9 := X9.below hJ
  replace hT := hT.below hJ
  replace HB := Lib.hid (bt HB.out hJ)
  refine Jo.jdone (by kernel_rfl) ?_
  go_wp2
  go_ret
  exact ⟨rfl, HB.out⟩

theorem arithTurns_walk (D0 : Int) (s0 : Bool) (M0 E0 : Int) (D1 : Int) (s1 : Bool) (M1 E1 : Int) (b2 : Bool) (w : World) (hT : Tb w) (w0 : 0 ≤ M0) (u0 : M0 < 18446744073709551616) (w1 : 0 ≤ M1) (u1 : M1 < 18446744073709551616)  :
    Calls Tryd.prog 8 #[.agg #[.int .i64 D0, .bool s0, .int .u64 M0, .int .i64 E0], .agg #[.int .i64 D1, .bool s1, .int .u64 M1, .int .i64 E1], .bool b2] w fun e w' => e = .returned (.bool true) ∧ Below w.heap.size w w' := by
  exact arithTurns_main D0 s0 M0 E0 D1 s1 M1 E1 b2 w hT u0 u1
end Go.Proofs.YtbhnpmkdmnnclaaDoor

/-
  Contracts and words that the statement's proof rests on, several texts in one: Kd, Ke.
-/
import Derived.Below
import Derived.BigQuiet
import Derived.Carry
import Derived.Deep.DeepCutAuto
import Derived.Deep.Draws
import Derived.Deep.MidRow
import Derived.Deep.QuietTactic
import Derived.Deep.RegionHeld3
import Derived.Deep.RegionWith
import Derived.IntWalk
import Derived.Laws.CopyOwn
import Derived.Laws.MakeOwn
import Derived.Laws.OwnMore
import Derived.Laws.Rows
import Derived.Lib.BitFns
import Derived.Lib.Hide
import Derived.Maps.AppendAt
import Derived.StillTailTactics
import Derived.Test.YtpmakljahhhnfaaDoorRows
import Derived.WalkKit
import Derived.WalkLawsBesides
import Derived.WalkSpells
import Derived.Test.YtpmakljahhhnfaaDoorYAao
/-
  What num.outward, inward and Next do, and the document's finite and Next.
-/
namespace Go.Proofs.YtpmakljahhhnfaaDoor
open Go.RowKit
set_option linter.unusedVariables false
set_option linter.unusedSimpArgs false
set_option maxRecDepth 100000

theorem nx_out {D : Int} {s : Bool} {M E r : Int} (q : Fq D s M E r) (h0 : D ≠ 0) : nx (!s) r = sgi s (min TP (plc D M E + 1)) := by
  rw [← q.2.2]
  have := TP_eq
  have h1 := plc_pos q h0
  unfold nx
  cases s
  · rfl
  · show max (-TP) (-plc D M E - 1) = -min TP (plc D M E + 1)
    omega
theorem nx_in {D : Int} {s : Bool} {M E r : Int} (q : Fq D s M E r) (h0 : D ≠ 0) : nx s r = sgi s (plc D M E - 1) := by
  have hb := q.bd
  have := TP_eq
  have h1 := plc_pos q h0
  rw [← q.2.2] at hb ⊢
  unfold nx
  cases s
  · show max (-TP) (plc D M E - 1) = plc D M E - 1
    omega
  · show min TP (-plc D M E + 1) = -(plc D M E - 1)
    omega
set_option maxHeartbeats 4000000 in
theorem nOut_inf {w : World} {s : Bool} {r : Int} (hr : sgi s TP = r) : Calls Tryd.prog 42 #[.agg #[.int .i64 2, .bool s, .int .u64 0, .int .i64 0]] w (PN w r) := by
  go_enter Tryd.func42, Tryd.ntmps42
  go_upto_region 1 with (fail)
  have X1 := (Bo.newAt w (g := w.heap.size) (by simp) #[.int .i64 2, .bool s, .int .u64 0, .int .i64 0] 24).below (bel1 _ (.cells #[.int .i64 0, .bool false, .int .u64 0, .int .i64 0] 24))
  have XR := (Bo.newAt (w.alloc (.cells #[.int .i64 2, .bool s, .int .u64 0, .int .i64 0] 24)) (g := w.heap.size + 1) (by simp) #[.int .i64 0, .bool false, .int .u64 0, .int .i64 0] 24)
  have HB := Lib.hid (bel2 w (.cells #[.int .i64 2, .bool s, .int .u64 0, .int .i64 0] 24) (.cells #[.int .i64 0, .bool false, .int .u64 0, .int .i64 0] 24))
  generalize hW1 : ((w.alloc (.cells #[.int .i64 2, .bool s, .int .u64 0, .int .i64 0] 24)).alloc (.cells #[.int .i64 0, .bool false, .int .u64 0, .int .i64 0] 24)) = w1 at *
  clear hW1
  refine Jo.region_joint (T := [0, 1, 2, 3, 4, 5, 6, 7, 8, 9]) (ds := [some 3, some 4, some 5, some 6, some 7, some 8, some 9, some 10, some 11, some 12]) (ls := [[], [0], [1], [2], [3], [3], [3, 5], [3, 6], [3, 4, 7], [3, 8]]) (k := 10) (L := [(some 3, 0), (some 4, 1), (some 5, 2), (some 6, 3), (some 7, 4), (some 8, 5), (some 9, 6), (some 10, 7), (some 11, 8), (some 12, 9)]) (fuel := 0) (J := fun wj => Below (World.heap w1).size w1 wj)
    (F := [Jo.Fact.eq (.pointer (some ⟨w.heap.size, 0, none⟩)), Jo.Fact.eq (.int .i64 2), Jo.Fact.eq (.bool true), Jo.Fact.eq (.bool true), Jo.Fact.eq undef, Jo.Fact.eq undef, Jo.Fact.eq undef, Jo.Fact.eq undef, Jo.Fact.eq undef, Jo.Fact.eq (.bool true)])
    (by kernel_rfl) (by kernel_rfl) (by decide) rfl rfl (fun _ _ h b => bt h b) ((Below.refl _ _).drew) ?_ (fun vs w2 hJ hd => ?_)
  · refine Jo.jcons (i := 0) (o := ⟨some 3, _, _, _, _, _⟩) (di := some 3) (L := []) (f := Jo.Fact.eq (.pointer (some ⟨w.heap.size, 0, none⟩))) rfl rfl rfl rfl (fun vs wj hJ hd K hK => ?_) ?_
    · clear hd
      simp only [Jo.putl, Jo.ze, Act.put, Jo.za, Jo.zb, Jo.zc] at hK ⊢
      go_simp
      exact hK.out _ _ rfl (Below.refl _ _)
    refine Jo.jcons (i := 1) (o := ⟨some 4, _, _, _, _, _⟩) (di := some 4) (L := [(some 3, 0)]) (f := Jo.Fact.eq (.int .i64 2)) rfl rfl rfl rfl (fun vs wj hJ hd K hK => ?_) ?_
    · have d0 : (Jo.Fact.eq (.pointer (some ⟨w.heap.size, 0, none⟩))).P (vs 0) wj := hd 0 (by decide)
      clear hd
      simp only [Jo.putl, Jo.zd, Jo.ze, Act.put, Jo.za, Jo.zb, Jo.zc] at hK ⊢
      generalize vs 0 = u0 at hK d0 ⊢
      replace d0 : u0 = _ := d0
      subst d0
      have xX10 : World.cell? wj ⟨w.heap.size, 0, none⟩ = some (.int .i64 2) := (X1.below hJ).cell 0
      have xX11 : World.cell? wj ⟨w.heap.size, 1, none⟩ = some (.bool s) := (X1.below hJ).cell 1
      have xX12 : World.cell? wj ⟨w.heap.size, 2, none⟩ = some (.int .u64 0) := (X1.below hJ).cell 2
      have xX13 : World.cell? wj ⟨w.heap.size, 3, none⟩ = some (.int .i64 0) := (X1.below hJ).cell 3
      go_simp
      exact hK.out _ _ rfl (Below.refl _ _)
    refine Jo.jcons (i := 2) (o := ⟨some 5, _, _, _, _, _⟩) (di := some 5) (L := [(some 4, 1)]) (f := Jo.Fact.eq (.bool true)) rfl rfl rfl rfl (fun vs wj hJ hd K hK => ?_) ?_
    · have d1 : (Jo.Fact.eq (.int .i64 2)).P (vs 1) wj := hd 1 (by decide)
      clear hd
      simp only [Jo.putl, Jo.zd, Jo.ze, Act.put, Jo.za, Jo.zb, Jo.zc] at hK ⊢
      generalize vs 1 = u1 at hK d1 ⊢
      replace d1 : u1 = _ := d1
      subst d1
      go_simp
      exact hK.out _ _ rfl (Below.refl _ _)
    refine Jo.jcons (i := 3) (o := ⟨some 6, _, _, _, _, _⟩) (di := some 6) (L := [(some 5, 2)]) (f := Jo.Fact.eq (.bool true)) rfl rfl rfl rfl (fun vs wj hJ hd K hK => ?_) ?_
    · have d2 : (Jo.Fact.eq (.bool true)).P (vs 2) wj := hd 2 (by decide)
      clear hd
      simp only [Jo.putl, Jo.zd, Jo.ze, Act.put, Jo.za, Jo.zb, Jo.zc] at hK ⊢
      generalize vs 2 = u2 at hK d2 ⊢
      replace d2 : u2 = _ := d2
      subst d2
      go_simp
      exact hK.out _ _ rfl (Below.refl _ _)
    refine Jo.jcons (i := 4) (o := ⟨some 7, _, _, _, _, _⟩) (di := some 7) (L := [(some 6, 3)]) (f := Jo.Fact.eq undef) rfl rfl rfl rfl (fun vs wj hJ hd K hK => ?_) ?_
    · have d3 : (Jo.Fact.eq (.bool true)).P (vs 3) wj := hd 3 (by decide)
      clear hd
      simp only [Jo.putl, Jo.zd, Jo.ze, Act.put, Jo.za, Jo.zb, Jo.zc] at hK ⊢
      generalize vs 3 = u3 at hK d3 ⊢
      replace d3 : u3 = _ := d3
      subst d3
      go_simp
      exact hK.out _ _ rfl (Below.refl _ _)
    refine Jo.jcons (i := 5) (o := ⟨some 8, _, _, _, _, _⟩) (di := some 8) (L := [(some 6, 3)]) (f := Jo.Fact.eq undef) rfl rfl rfl rfl (fun vs wj hJ hd K hK => ?_) ?_
    · have d3 : (Jo.Fact.eq (.bool true)).P (vs 3) wj := hd 3 (by decide)
      clear hd
      simp only [Jo.putl, Jo.zd, Jo.ze, Act.put, Jo.za, Jo.zb, Jo.zc] at hK ⊢
      generalize vs 3 = u3 at hK d3 ⊢
      replace d3 : u3 = _ := d3
      subst d3
      go_simp
      exact hK.out _ _ rfl (Below.refl _ _)
    refine Jo.jcons (i := 6) (o := ⟨some 9, _, _, _, _, _⟩) (di := some 9) (L := [(some 6, 3), (some 8, 5)]) (f := Jo.Fact.eq undef) rfl rfl rfl rfl (fun vs wj hJ hd K hK => ?_) ?_
    · have d3 : (Jo.Fact.eq (.bool true)).P (vs 3) wj := hd 3 (by decide)
      have d5 : (Jo.Fact.eq undef).P (vs 5) wj := hd 5 (by decide)
      clear hd
      simp only [Jo.putl, Jo.zd, Jo.ze, Act.put, Jo.za, Jo.zb, Jo.zc] at hK ⊢
      generalize vs 3 = u3 at hK d3 ⊢
      generalize vs 5 = u5 at hK d5 ⊢
      replace d3 : u3 = _ := d3
      subst d3
      replace d5 : u5 = _ := d5
      subst d5
      go_simp
      exact hK.out _ _ rfl (Below.refl _ _)
    refine Jo.jcons (i := 7) (o := ⟨some 10, _, _, _, _, _⟩) (di := some 10) (L := [(some 6, 3), (some 9, 6)]) (f := Jo.Fact.eq undef) rfl rfl rfl rfl (fun vs wj hJ hd K hK => ?_) ?_
    · have d3 : (Jo.Fact.eq (.bool true)).P (vs 3) wj := hd 3 (by decide)
      have d6 : (Jo.Fact.eq undef).P (vs 6) wj := hd 6 (by decide)
      clear hd
      simp only [Jo.putl, Jo.zd, Jo.ze, Act.put, Jo.za, Jo.zb, Jo.zc] at hK ⊢
      generalize vs 3 = u3 at hK d3 ⊢
      generalize vs 6 = u6 at hK d6 ⊢
      replace d3 : u3 = _ := d3
      subst d3
      replace d6 : u6 = _ := d6
      subst d6
      go_simp
      exact hK.out _ _ rfl (Below.refl _ _)
    refine Jo.jcons (i := 8) (o := ⟨some 11, _, _, _, _, _⟩) (di := some 11) (L := [(some 6, 3), (some 7, 4), (some 10, 7)]) (f := Jo.Fact.eq undef) rfl rfl rfl rfl (fun vs wj hJ hd K hK => ?_) ?_
    · have d3 : (Jo.Fact.eq (.bool true)).P (vs 3) wj := hd 3 (by decide)
      have d4 : (Jo.Fact.eq undef).P (vs 4) wj := hd 4 (by decide)
      have d7 : (Jo.Fact.eq undef).P (vs 7) wj := hd 7 (by decide)
      clear hd
      simp only [Jo.putl, Jo.zd, Jo.ze, Act.put, Jo.za, Jo.zb, Jo.zc] at hK ⊢
      generalize vs 3 = u3 at hK d3 ⊢
      generalize vs 4 = u4 at hK d4 ⊢
      generalize vs 7 = u7 at hK d7 ⊢
      replace d3 : u3 = _ := d3
      subst d3
      replace d4 : u4 = _ := d4
      subst d4
      replace d7 : u7 = _ := d7
      subst d7
      go_simp
      exact hK.out _ _ rfl (Below.refl _ _)
    refine Jo.jcons (i := 9) (o := ⟨some 12, _, _, _, _, _⟩) (di := some 12) (L := [(some 6, 3), (some 11, 8)]) (f := Jo.Fact.eq (.bool true)) rfl rfl rfl rfl (fun vs wj hJ hd K hK => ?_) ?_
    · have d3 : (Jo.Fact.eq (.bool true)).P (vs 3) wj := hd 3 (by decide)
      have d8 : (Jo.Fact.eq undef).P (vs 8) wj := hd 8 (by decide)
      clear hd
      simp only [Jo.putl, Jo.zd, Jo.ze, Act.put, Jo.za, Jo.zb, Jo.zc] at hK ⊢
      generalize vs 3 = u3 at hK d3 ⊢
      generalize vs 8 = u8 at hK d8 ⊢
      replace d3 : u3 = _ := d3
      subst d3
      replace d8 : u8 = _ := d8
      subst d8
      go_simp
      exact hK.out _ _ rfl (Below.refl _ _)
    exact Jo.Steps.nil
  have d0 : (Jo.Fact.eq (.pointer (some ⟨w.heap.size, 0, none⟩))).P (vs 0) w2 := hd 0 (by decide)
  have d1 : (Jo.Fact.eq (.int .i64 2)).P (vs 1) w2 := hd 1 (by decide)
  have d2 : (Jo.Fact.eq (.bool true)).P (vs 2) w2 := hd 2 (by decide)
  have d3 : (Jo.Fact.eq (.bool true)).P (vs 3) w2 := hd 3 (by decide)
  have d4 : (Jo.Fact.eq undef).P (vs 4) w2 := hd 4 (by decide)
  have d5 : (Jo.Fact.eq undef).P (vs 5) w2 := hd 5 (by decide)
  have d6 : (Jo.Fact.eq undef).P (vs 6) w2 := hd 6 (by decide)
  have d7 : (Jo.Fact.eq undef).P (vs 7) w2 := hd 7 (by decide)
  have d8 : (Jo.Fact.eq undef).P (vs 8) w2 := hd 8 (by decide)
  have d9 : (Jo.Fact.eq (.bool true)).P (vs 9) w2 := hd 9 (by decide)
  clear hd
  simp only [Jo.putl, Jo.zd, Jo.ze, Act.put, Jo.za, Jo.zb, Jo.zc]
  generalize vs 0 = u0 at d0 ⊢
  generalize vs 1 = u1 at d1 ⊢
  generalize vs 2 = u2 at d2 ⊢
  generalize vs 3 = u3 at d3 ⊢
  generalize vs 4 = u4 at d4 ⊢
  generalize vs 5 = u5 at d5 ⊢
  generalize vs 6 = u6 at d6 ⊢
  generalize vs 7 = u7 at d7 ⊢
  generalize vs 8 = u8 at d8 ⊢
  generalize vs 9 = u9 at d9 ⊢
  clear vs
  replace d0 : u0 = _ := d0
  subst d0
  replace d1 : u1 = _ := d1
  subst d1
  replace d2 : u2 = _ := d2
  subst d2
  replace d3 : u3 = _ := d3
  subst d3
  replace d4 : u4 = _ := d4
  subst d4
  replace d5 : u5 = _ := d5
  subst d5
  replace d6 : u6 = _ := d6
  subst d6
  replace d7 : u7 = _ := d7
  subst d7
  replace d8 : u8 = _ := d8
  subst d8
  replace d9 : u9 = _ := d9
  subst d9
  replace X1 := X1.below hJ
  replace XR := XR.below hJ
  replace HB := Lib.hid (bt HB.out hJ)
  refine Jo.jdone (by kernel_rfl) ?_
  have xX10 := X1.at (i := 0) (v := .int .i64 2) rfl
  have xX11 := X1.at (i := 1) (v := .bool s) rfl
  have xX12 := X1.at (i := 2) (v := .int .u64 0) rfl
  have xX13 := X1.at (i := 3) (v := .int .i64 0) rfl
  go_wp2_with fail
  refine (nInf hr).mono ?_
  rintro ee w3 ⟨D2, s2, M2, E2, rfl, q2, B⟩
  clear xX10 xX11 xX12 xX13
  replace X1 := X1.below B
  replace XR := XR.below B
  replace HB := Lib.hid (bt HB.out B)
  clear B
  have xXR0 := XR.at (i := 0) (v := .int .i64 0) rfl
  have zXR0 := XR.frozen 0
  have xXR1 := XR.at (i := 1) (v := .bool false) rfl
  have zXR1 := XR.frozen 1
  have xXR2 := XR.at (i := 2) (v := .int .u64 0) rfl
  have zXR2 := XR.frozen 2
  have xXR3 := XR.at (i := 3) (v := .int .i64 0) rfl
  have zXR3 := XR.frozen 3
  have xX10 := X1.at (i := 0) (v := .int .i64 2) rfl
  have xX11 := X1.at (i := 1) (v := .bool s) rfl
  have xX12 := X1.at (i := 2) (v := .int .u64 0) rfl
  have xX13 := X1.at (i := 3) (v := .int .i64 0) rfl
  go_wp2
  clear xXR0 zXR0 xXR1 zXR1 xXR2 zXR2 xXR3 zXR3 xX10 xX11 xX12 xX13
  have SX := StN.mk4 XR (.int .i64 D2) (.bool s2) (.int .u64 M2) (.int .i64 E2)
  replace X1 := X1.stn SX (by omega)
  replace HB := Lib.hid (SX.below HB.out (by omega))
  replace XR := SX.box
  clear SX
  generalize (World.setCell (World.setCell (World.setCell (World.setCell w3 ⟨w.heap.size + 1, 0, none⟩ (.int .i64 D2)) ⟨w.heap.size + 1, 1, none⟩ (.bool s2)) ⟨w.heap.size + 1, 2, none⟩ (.int .u64 M2)) ⟨w.heap.size + 1, 3, none⟩ (.int .i64 E2)) = w4 at *
  have r0 := XR.cell 0
  have r1 := XR.cell 1
  have r2 := XR.cell 2
  have r3 := XR.cell 3
  exact bodyPost_ret (v := .agg #[.int .i64 D2, .bool s2, .int .u64 M2, .int .i64 E2]) (by simp [results, Tryd.results42, go_sem, r0, r1, r2, r3]) rfl ⟨_, _, _, _, rfl, q2, HB.out⟩
set_option maxHeartbeats 4000000 in
theorem nOut_huge {w : World} {s : Bool} {r : Int} (hr : sgi s TP = r) : Calls Tryd.prog 42 #[.agg #[.int .i64 1, .bool s, .int .u64 18446744073709551615, .int .i64 1048576]] w (PN w r) := by
  go_enter Tryd.func42, Tryd.ntmps42
  go_upto_region 1 with (fail)
  have X1 := (Bo.newAt w (g := w.heap.size) (by simp) #[.int .i64 1, .bool s, .int .u64 18446744073709551615, .int .i64 1048576] 24).below (bel1 _ (.cells #[.int .i64 0, .bool false, .int .u64 0, .int .i64 0] 24))
  have XR := (Bo.newAt (w.alloc (.cells #[.int .i64 1, .bool s, .int .u64 18446744073709551615, .int .i64 1048576] 24)) (g := w.heap.size + 1) (by simp) #[.int .i64 0, .bool false, .int .u64 0, .int .i64 0] 24)
  have HB := Lib.hid (bel2 w (.cells #[.int .i64 1, .bool s, .int .u64 18446744073709551615, .int .i64 1048576] 24) (.cells #[.int .i64 0, .bool false, .int .u64 0, .int .i64 0] 24))
  generalize hW1 : ((w.alloc (.cells #[.int .i64 1, .bool s, .int .u64 18446744073709551615, .int .i64 1048576] 24)).alloc (.cells #[.int .i64 0, .bool false, .int .u64 0, .int .i64 0] 24)) = w1 at *
  clear hW1
  refine Jo.region_joint (T := [0, 1, 2, 3, 4, 5, 6, 7, 8, 9]) (ds := [some 3, some 4, some 5, some 6, some 7, some 8, some 9, some 10, some 11, some 12]) (ls := [[], [0], [1], [2], [3], [3], [3, 5], [3, 6], [3, 4, 7], [3, 8]]) (k := 10) (L := [(some 3, 0), (some 4, 1), (some 5, 2), (some 6, 3), (some 7, 4), (some 8, 5), (some 9, 6), (some 10, 7), (some 11, 8), (some 12, 9)]) (fuel := 0) (J := fun wj => Below (World.heap w1).size w1 wj)
    (F := [Jo.Fact.eq (.pointer (some ⟨w.heap.size, 0, none⟩)), Jo.Fact.eq (.int .i64 1), Jo.Fact.eq (.bool false), Jo.Fact.eq (.bool false), Jo.Fact.eq (.agg #[.int .i64 1, .bool s, .int .u64 18446744073709551615, .int .i64 1048576]), Jo.Fact.eq (.pointer (some ⟨w.heap.size, 1, none⟩)), Jo.Fact.eq (.bool s), Jo.Fact.eq (.agg #[.int .i64 1, .bool s, .int .u64 18446744073709551615, .int .i64 1048576]), Jo.Fact.eq (.bool true), Jo.Fact.eq (.bool true)])
    (by kernel_rfl) (by kernel_rfl) (by decide) rfl rfl (fun _ _ h b => bt h b) ((Below.refl _ _).drew) ?_ (fun vs w2 hJ hd => ?_)
  · refine Jo.jcons (i := 0) (o := ⟨some 3, _, _, _, _, _⟩) (di := some 3) (L := []) (f := Jo.Fact.eq (.pointer (some ⟨w.heap.size, 0, none⟩))) rfl rfl rfl rfl (fun vs wj hJ hd K hK => ?_) ?_
    · clear hd
      simp only [Jo.putl, Jo.ze, Act.put, Jo.za, Jo.zb, Jo.zc] at hK ⊢
      go_simp
      exact hK.out _ _ rfl (Below.refl _ _)
    refine Jo.jcons (i := 1) (o := ⟨some 4, _, _, _, _, _⟩) (di := some 4) (L := [(some 3, 0)]) (f := Jo.Fact.eq (.int .i64 1)) rfl rfl rfl rfl (fun vs wj hJ hd K hK => ?_) ?_
    · have d0 : (Jo.Fact.eq (.pointer (some ⟨w.heap.size, 0, none⟩))).P (vs 0) wj := hd 0 (by decide)
      clear hd
      simp only [Jo.putl, Jo.zd, Jo.ze, Act.put, Jo.za, Jo.zb, Jo.zc] at hK ⊢
      generalize vs 0 = u0 at hK d0 ⊢
      replace d0 : u0 = _ := d0
      subst d0
      have xX10 : World.cell? wj ⟨w.heap.size, 0, none⟩ = some (.int .i64 1) := (X1.below hJ).cell 0
      have xX11 : World.cell? wj ⟨w.heap.size, 1, none⟩ = some (.bool s) := (X1.below hJ).cell 1
      have xX12 : World.cell? wj ⟨w.heap.size, 2, none⟩ = some (.int .u64 18446744073709551615) := (X1.below hJ).cell 2
      have xX13 : World.cell? wj ⟨w.heap.size, 3, none⟩ = some (.int .i64 1048576) := (X1.below hJ).cell 3
      go_simp
      exact hK.out _ _ rfl (Below.refl _ _)
    refine Jo.jcons (i := 2) (o := ⟨some 5, _, _, _, _, _⟩) (di := some 5) (L := [(some 4, 1)]) (f := Jo.Fact.eq (.bool false)) rfl rfl rfl rfl (fun vs wj hJ hd K hK => ?_) ?_
    · have d1 : (Jo.Fact.eq (.int .i64 1)).P (vs 1) wj := hd 1 (by decide)
      clear hd
      simp only [Jo.putl, Jo.zd, Jo.ze, Act.put, Jo.za, Jo.zb, Jo.zc] at hK ⊢
      generalize vs 1 = u1 at hK d1 ⊢
      replace d1 : u1 = _ := d1
      subst d1
      go_simp
      exact hK.out _ _ rfl (Below.refl _ _)
    refine Jo.jcons (i := 3) (o := ⟨some 6, _, _, _, _, _⟩) (di := some 6) (L := [(some 5, 2)]) (f := Jo.Fact.eq (.bool false)) rfl rfl rfl rfl (fun vs wj hJ hd K hK => ?_) ?_
    · have d2 : (Jo.Fact.eq (.bool false)).P (vs 2) wj := hd 2 (by decide)
      clear hd
      simp only [Jo.putl, Jo.zd, Jo.ze, Act.put, Jo.za, Jo.zb, Jo.zc] at hK ⊢
      generalize vs 2 = u2 at hK d2 ⊢
      replace d2 : u2 = _ := d2
      subst d2
      go_simp
      exact hK.out _ _ rfl (Below.refl _ _)
    refine Jo.jcons (i := 4) (o := ⟨some 7, _, _, _, _, _⟩) (di := some 7) (L := [(some 6, 3)]) (f := Jo.Fact.eq (.agg #[.int .i64 1, .bool s, .int .u64 18446744073709551615, .int .i64 1048576])) rfl rfl rfl rfl (fun vs wj hJ hd K hK => ?_) ?_
    · have d3 : (Jo.Fact.eq (.bool false)).P (vs 3) wj := hd 3 (by decide)
      clear hd
      simp only [Jo.putl, Jo.zd, Jo.ze, Act.put, Jo.za, Jo.zb, Jo.zc] at hK ⊢
      generalize vs 3 = u3 at hK d3 ⊢
      replace d3 : u3 = _ := d3
      subst d3
      have xX10 : World.cell? wj ⟨w.heap.size, 0, none⟩ = some (.int .i64 1) := (X1.below hJ).cell 0
      have xX11 : World.cell? wj ⟨w.heap.size, 1, none⟩ = some (.bool s) := (X1.below hJ).cell 1
      have xX12 : World.cell? wj ⟨w.heap.size, 2, none⟩ = some (.int .u64 18446744073709551615) := (X1.below hJ).cell 2
      have xX13 : World.cell? wj ⟨w.heap.size, 3, none⟩ = some (.int .i64 1048576) := (X1.below hJ).cell 3
      go_simp
      exact hK.out _ _ rfl (Below.refl _ _)
    refine Jo.jcons (i := 5) (o := ⟨some 8, _, _, _, _, _⟩) (di := some 8) (L := [(some 6, 3)]) (f := Jo.Fact.eq (.pointer (some ⟨w.heap.size, 1, none⟩))) rfl rfl rfl rfl (fun vs wj hJ hd K hK => ?_) ?_
    · have d3 : (Jo.Fact.eq (.bool false)).P (vs 3) wj := hd 3 (by decide)
      clear hd
      simp only [Jo.putl, Jo.zd, Jo.ze, Act.put, Jo.za, Jo.zb, Jo.zc] at hK ⊢
      generalize vs 3 = u3 at hK d3 ⊢
      replace d3 : u3 = _ := d3
      subst d3
      go_simp
      exact hK.out _ _ rfl (Below.refl _ _)
    refine Jo.jcons (i := 6) (o := ⟨some 9, _, _, _, _, _⟩) (di := some 9) (L := [(some 6, 3), (some 8, 5)]) (f := Jo.Fact.eq (.bool s)) rfl rfl rfl rfl (fun vs wj hJ hd K hK => ?_) ?_
    · have d3 : (Jo.Fact.eq (.bool false)).P (vs 3) wj := hd 3 (by decide)
      have d5 : (Jo.Fact.eq (.pointer (some ⟨w.heap.size, 1, none⟩))).P (vs 5) wj := hd 5 (by decide)
      clear hd
      simp only [Jo.putl, Jo.zd, Jo.ze, Act.put, Jo.za, Jo.zb, Jo.zc] at hK ⊢
      generalize vs 3 = u3 at hK d3 ⊢
      generalize vs 5 = u5 at hK d5 ⊢
      replace d3 : u3 = _ := d3
      subst d3
      replace d5 : u5 = _ := d5
      subst d5
      have xX10 : World.cell? wj ⟨w.heap.size, 0, none⟩ = some (.int .i64 1) := (X1.below hJ).cell 0
      have xX11 : World.cell? wj ⟨w.heap.size, 1, none⟩ = some (.bool s) := (X1.below hJ).cell 1
      have xX12 : World.cell? wj ⟨w.heap.size, 2, none⟩ = some (.int .u64 18446744073709551615) := (X1.below hJ).cell 2
      have xX13 : World.cell? wj ⟨w.heap.size, 3, none⟩ = some (.int .i64 1048576) := (X1.below hJ).cell 3
      go_simp
      exact hK.out _ _ rfl (Below.refl _ _)
    refine Jo.jcons (i := 7) (o := ⟨some 10, _, _, _, _, _⟩) (di := some 10) (L := [(some 6, 3), (some 9, 6)]) (f := Jo.Fact.eq (.agg #[.int .i64 1, .bool s, .int .u64 18446744073709551615, .int .i64 1048576])) rfl rfl rfl rfl (fun vs wj hJ hd K hK => ?_) ?_
    · have d3 : (Jo.Fact.eq (.bool false)).P (vs 3) wj := hd 3 (by decide)
      have d6 : (Jo.Fact.eq (.bool s)).P (vs 6) wj := hd 6 (by decide)
      clear hd
      simp only [Jo.putl, Jo.zd, Jo.ze, Act.put, Jo.za, Jo.zb, Jo.zc] at hK ⊢
      generalize vs 3 = u3 at hK d3 ⊢
      generalize vs 6 = u6 at hK d6 ⊢
      replace d3 : u3 = _ := d3
      subst d3
      replace d6 : u6 = _ := d6
      subst d6
      go_simp
      refine (nH).mono ?_
      rintro ee wk ⟨rfl, B⟩
      exact hK.out _ _ rfl B
    refine Jo.jcons (i := 8) (o := ⟨some 11, _, _, _, _, _⟩) (di := some 11) (L := [(some 6, 3), (some 7, 4), (some 10, 7)]) (f := Jo.Fact.eq (.bool true)) rfl rfl rfl rfl (fun vs wj hJ hd K hK => ?_) ?_
    · have d3 : (Jo.Fact.eq (.bool false)).P (vs 3) wj := hd 3 (by decide)
      have d4 : (Jo.Fact.eq (.agg #[.int .i64 1, .bool s, .int .u64 18446744073709551615, .int .i64 1048576])).P (vs 4) wj := hd 4 (by decide)
      have d7 : (Jo.Fact.eq (.agg #[.int .i64 1, .bool s, .int .u64 18446744073709551615, .int .i64 1048576])).P (vs 7) wj := hd 7 (by decide)
      clear hd
      simp only [Jo.putl, Jo.zd, Jo.ze, Act.put, Jo.za, Jo.zb, Jo.zc] at hK ⊢
      generalize vs 3 = u3 at hK d3 ⊢
      generalize vs 4 = u4 at hK d4 ⊢
      generalize vs 7 = u7 at hK d7 ⊢
      replace d3 : u3 = _ := d3
      subst d3
      replace d4 : u4 = _ := d4
      subst d4
      replace d7 : u7 = _ := d7
      subst d7
      go_simp
      exact hK.out _ _ (by first | rfl | (show Value.bool _ = Value.bool _; simp)) (Below.refl _ _)
    refine Jo.jcons (i := 9) (o := ⟨some 12, _, _, _, _, _⟩) (di := some 12) (L := [(some 6, 3), (some 11, 8)]) (f := Jo.Fact.eq (.bool true)) rfl rfl rfl rfl (fun vs wj hJ hd K hK => ?_) ?_
    · have d3 : (Jo.Fact.eq (.bool false)).P (vs 3) wj := hd 3 (by decide)
      have d8 : (Jo.Fact.eq (.bool true)).P (vs 8) wj := hd 8 (by decide)
      clear hd
      simp only [Jo.putl, Jo.zd, Jo.ze, Act.put, Jo.za, Jo.zb, Jo.zc] at hK ⊢
      generalize vs 3 = u3 at hK d3 ⊢
      generalize vs 8 = u8 at hK d8 ⊢
      replace d3 : u3 = _ := d3
      subst d3
      replace d8 : u8 = _ := d8
      subst d8
      go_simp
      exact hK.out _ _ rfl (Below.refl _ _)
    exact Jo.Steps.nil
  have d0 : (Jo.Fact.eq (.pointer (some ⟨w.heap.size, 0, none⟩))).P (vs 0) w2 := hd 0 (by decide)
  have d1 : (Jo.Fact.eq (.int .i64 1)).P (vs 1) w2 := hd 1 (by decide)
  have d2 : (Jo.Fact.eq (.bool false)).P (vs 2) w2 := hd 2 (by decide)
  have d3 : (Jo.Fact.eq (.bool false)).P (vs 3) w2 := hd 3 (by decide)
  have d4 : (Jo.Fact.eq (.agg #[.int .i64 1, .bool s, .int .u64 18446744073709551615, .int .i64 1048576])).P (vs 4) w2 := hd 4 (by decide)
  have d5 : (Jo.Fact.eq (.pointer (some ⟨w.heap.size, 1, none⟩))).P (vs 5) w2 := hd 5 (by decide)
  have d6 : (Jo.Fact.eq (.bool s)).P (vs 6) w2 := hd 6 (by decide)
  have d7 : (Jo.Fact.eq (.agg #[.int .i64 1, .bool s, .int .u64 18446744073709551615, .int .i64 1048576])).P (vs 7) w2 := hd 7 (by decide)
  have d8 : (Jo.Fact.eq (.bool true)).P (vs 8) w2 := hd 8 (by decide)
  have d9 : (Jo.Fact.eq (.bool true)).P (vs 9) w2 := hd 9 (by decide)
  clear hd
  simp only [Jo.putl, Jo.zd, Jo.ze, Act.put, Jo.za, Jo.zb, Jo.zc]
  generalize vs 0 = u0 at d0 ⊢
  generalize vs 1 = u1 at d1 ⊢
  generalize vs 2 = u2 at d2 ⊢
  generalize vs 3 = u3 at d3 ⊢
  generalize vs 4 = u4 at d4 ⊢
  generalize vs 5 = u5 at d5 ⊢
  generalize vs 6 = u6 at d6 ⊢
  generalize vs 7 = u7 at d7 ⊢
  generalize vs 8 = u8 at d8 ⊢
  generalize vs 9 = u9 at d9 ⊢
  clear vs
  replace d0 : u0 = _ := d0
  subst d0
  replace d1 : u1 = _ := d1
  subst d1
  replace d2 : u2 = _ := d2
  subst d2
  replace d3 : u3 = _ := d3
  subst d3
  replace d4 : u4 = _ := d4
  subst d4
  replace d5 : u5 = _ := d5
  subst d5
  replace d6 : u6 = _ := d6
  subst d6
  replace d7 : u7 = _ := d7
  subst d7
  replace d8 : u8 = _ := d8
  subst d8
  replace d9 : u9 = _ := d9
  subst d9
  replace X1 := X1.below hJ
  replace XR := XR.below hJ
  replace HB := Lib.hid (bt HB.out hJ)
  refine Jo.jdone (by kernel_rfl) ?_
  have xX10 := X1.at (i := 0) (v := .int .i64 1) rfl
  have xX11 := X1.at (i := 1) (v := .bool s) rfl
  have xX12 := X1.at (i := 2) (v := .int .u64 18446744073709551615) rfl
  have xX13 := X1.at (i := 3) (v := .int .i64 1048576) rfl
  go_wp2_with fail
  refine (nInf hr).mono ?_
  rintro ee w3 ⟨D2, s2, M2, E2, rfl, q2, B⟩
  clear xX10 xX11 xX12 xX13
  replace X1 := X1.below B
  replace XR := XR.below B
  replace HB := Lib.hid (bt HB.out B)
  clear B
  have xXR0 := XR.at (i := 0) (v := .int .i64 0) rfl
  have zXR0 := XR.frozen 0
  have xXR1 := XR.at (i := 1) (v := .bool false) rfl
  have zXR1 := XR.frozen 1
  have xXR2 := XR.at (i := 2) (v := .int .u64 0) rfl
  have zXR2 := XR.frozen 2
  have xXR3 := XR.at (i := 3) (v := .int .i64 0) rfl
  have zXR3 := XR.frozen 3
  have xX10 := X1.at (i := 0) (v := .int .i64 1) rfl
  have xX11 := X1.at (i := 1) (v := .bool s) rfl
  have xX12 := X1.at (i := 2) (v := .int .u64 18446744073709551615) rfl
  have xX13 := X1.at (i := 3) (v := .int .i64 1048576) rfl
  go_wp2
  clear xXR0 zXR0 xXR1 zXR1 xXR2 zXR2 xXR3 zXR3 xX10 xX11 xX12 xX13
  have SX := StN.mk4 XR (.int .i64 D2) (.bool s2) (.int .u64 M2) (.int .i64 E2)
  replace X1 := X1.stn SX (by omega)
  replace HB := Lib.hid (SX.below HB.out (by omega))
  replace XR := SX.box
  clear SX
  generalize (World.setCell (World.setCell (World.setCell (World.setCell w3 ⟨w.heap.size + 1, 0, none⟩ (.int .i64 D2)) ⟨w.heap.size + 1, 1, none⟩ (.bool s2)) ⟨w.heap.size + 1, 2, none⟩ (.int .u64 M2)) ⟨w.heap.size + 1, 3, none⟩ (.int .i64 E2)) = w4 at *
  have r0 := XR.cell 0
  have r1 := XR.cell 1
  have r2 := XR.cell 2
  have r3 := XR.cell 3
  exact bodyPost_ret (v := .agg #[.int .i64 D2, .bool s2, .int .u64 M2, .int .i64 E2]) (by simp [results, Tryd.results42, go_sem, r0, r1, r2, r3]) rfl ⟨_, _, _, _, rfl, q2, HB.out⟩
set_option maxHeartbeats 4000000 in
theorem nOut_carry {w : World} {s : Bool} {E r : Int} (hF : Fq 1 s 9223372036854775808 (E + 1) r) (h1 : -1048576 ≤ E) (h2 : E < 1048576) : Calls Tryd.prog 42 #[.agg #[.int .i64 1, .bool s, .int .u64 18446744073709551615, .int .i64 E]] w (PN w r) := by
  have hq : E ≠ 1048576 := by omega
  have HW : Hid (IntKind.i64.wrap (E + 1) = E + 1) := Lib.hid (IntWalk.i64_in _ (by omega))
  go_enter Tryd.func42, Tryd.ntmps42
  go_upto_region 1 with (fail)
  have X1 := (Bo.newAt w (g := w.heap.size) (by simp) #[.int .i64 1, .bool s, .int .u64 18446744073709551615, .int .i64 E] 24).below (bel1 _ (.cells #[.int .i64 0, .bool false, .int .u64 0, .int .i64 0] 24))
  have XR := (Bo.newAt (w.alloc (.cells #[.int .i64 1, .bool s, .int .u64 18446744073709551615, .int .i64 E] 24)) (g := w.heap.size + 1) (by simp) #[.int .i64 0, .bool false, .int .u64 0, .int .i64 0] 24)
  have HB := Lib.hid (bel2 w (.cells #[.int .i64 1, .bool s, .int .u64 18446744073709551615, .int .i64 E] 24) (.cells #[.int .i64 0, .bool false, .int .u64 0, .int .i64 0] 24))
  generalize hW1 : ((w.alloc (.cells #[.int .i64 1, .bool s, .int .u64 18446744073709551615, .int .i64 E] 24)).alloc (.cells #[.int .i64 0, .bool false, .int .u64 0, .int .i64 0] 24)) = w1 at *
  clear hW1
  refine Jo.region_joint (T := [0, 1, 2, 3, 4, 5, 6, 7, 8, 9]) (ds := [some 3, some 4, some 5, some 6, some 7, some 8, some 9, some 10, some 11, some 12]) (ls := [[], [0], [1], [2], [3], [3], [3, 5], [3, 6], [3, 4, 7], [3, 8]]) (k := 10) (L := [(some 3, 0), (some 4, 1), (some 5, 2), (some 6, 3), (some 7, 4), (some 8, 5), (some 9, 6), (some 10, 7), (some 11, 8), (some 12, 9)]) (fuel := 0) (J := fun wj => Below (World.heap w1).size w1 wj)
    (F := [Jo.Fact.eq (.pointer (some ⟨w.heap.size, 0, none⟩)), Jo.Fact.eq (.int .i64 1), Jo.Fact.eq (.bool false), Jo.Fact.eq (.bool false), Jo.Fact.eq (.agg #[.int .i64 1, .bool s, .int .u64 18446744073709551615, .int .i64 E]), Jo.Fact.eq (.pointer (some ⟨w.heap.size, 1, none⟩)), Jo.Fact.eq (.bool s), Jo.Fact.eq (.agg #[.int .i64 1, .bool s, .int .u64 18446744073709551615, .int .i64 1048576]), Jo.Fact.eq (.bool false), Jo.Fact.eq (.bool false)])
    (by kernel_rfl) (by kernel_rfl) (by decide) rfl rfl (fun _ _ h b => bt h b) ((Below.refl _ _).drew) ?_ (fun vs w2 hJ hd => ?_)
  · refine Jo.jcons (i := 0) (o := ⟨some 3, _, _, _, _, _⟩) (di := some 3) (L := []) (f := Jo.Fact.eq (.pointer (some ⟨w.heap.size, 0, none⟩))) rfl rfl rfl rfl (fun vs wj hJ hd K hK => ?_) ?_
    · clear hd
      simp only [Jo.putl, Jo.ze, Act.put, Jo.za, Jo.zb, Jo.zc] at hK ⊢
      go_simp
      exact hK.out _ _ rfl (Below.refl _ _)
    refine Jo.jcons (i := 1) (o := ⟨some 4, _, _, _, _, _⟩) (di := some 4) (L := [(some 3, 0)]) (f := Jo.Fact.eq (.int .i64 1)) rfl rfl rfl rfl (fun vs wj hJ hd K hK => ?_) ?_
    · have d0 : (Jo.Fact.eq (.pointer (some ⟨w.heap.size, 0, none⟩))).P (vs 0) wj := hd 0 (by decide)
      clear hd
      simp only [Jo.putl, Jo.zd, Jo.ze, Act.put, Jo.za, Jo.zb, Jo.zc] at hK ⊢
      generalize vs 0 = u0 at hK d0 ⊢
      replace d0 : u0 = _ := d0
      subst d0
      have xX10 : World.cell? wj ⟨w.heap.size, 0, none⟩ = some (.int .i64 1) := (X1.below hJ).cell 0
      have xX11 : World.cell? wj ⟨w.heap.size, 1, none⟩ = some (.bool s) := (X1.below hJ).cell 1
      have xX12 : World.cell? wj ⟨w.heap.size, 2, none⟩ = some (.int .u64 18446744073709551615) := (X1.below hJ).cell 2
      have xX13 : World.cell? wj ⟨w.heap.size, 3, none⟩ = some (.int .i64 E) := (X1.below hJ).cell 3
      go_simp
      exact hK.out _ _ rfl (Below.refl _ _)
    refine Jo.jcons (i := 2) (o := ⟨some 5, _, _, _, _, _⟩) (di := some 5) (L := [(some 4, 1)]) (f := Jo.Fact.eq (.bool false)) rfl rfl rfl rfl (fun vs wj hJ hd K hK => ?_) ?_
    · have d1 : (Jo.Fact.eq (.int .i64 1)).P (vs 1) wj := hd 1 (by decide)
      clear hd
      simp only [Jo.putl, Jo.zd, Jo.ze, Act.put, Jo.za, Jo.zb, Jo.zc] at hK ⊢
      generalize vs 1 = u1 at hK d1 ⊢
      replace d1 : u1 = _ := d1
      subst d1
      go_simp
      exact hK.out _ _ rfl (Below.refl _ _)
    refine Jo.jcons (i := 3) (o := ⟨some 6, _, _, _, _, _⟩) (di := some 6) (L := [(some 5, 2)]) (f := Jo.Fact.eq (.bool false)) rfl rfl rfl rfl (fun vs wj hJ hd K hK => ?_) ?_
    · have d2 : (Jo.Fact.eq (.bool false)).P (vs 2) wj := hd 2 (by decide)
      clear hd
      simp only [Jo.putl, Jo.zd, Jo.ze, Act.put, Jo.za, Jo.zb, Jo.zc] at hK ⊢
      generalize vs 2 = u2 at hK d2 ⊢
      replace d2 : u2 = _ := d2
      subst d2
      go_simp
      exact hK.out _ _ rfl (Below.refl _ _)
    refine Jo.jcons (i := 4) (o := ⟨some 7, _, _, _, _, _⟩) (di := some 7) (L := [(some 6, 3)]) (f := Jo.Fact.eq (.agg #[.int .i64 1, .bool s, .int .u64 18446744073709551615, .int .i64 E])) rfl rfl rfl rfl (fun vs wj hJ hd K hK => ?_) ?_
    · have d3 : (Jo.Fact.eq (.bool false)).P (vs 3) wj := hd 3 (by decide)
      clear hd
      simp only [Jo.putl, Jo.zd, Jo.ze, Act.put, Jo.za, Jo.zb, Jo.zc] at hK ⊢
      generalize vs 3 = u3 at hK d3 ⊢
      replace d3 : u3 = _ := d3
      subst d3
      have xX10 : World.cell? wj ⟨w.heap.size, 0, none⟩ = some (.int .i64 1) := (X1.below hJ).cell 0
      have xX11 : World.cell? wj ⟨w.heap.size, 1, none⟩ = some (.bool s) := (X1.below hJ).cell 1
      have xX12 : World.cell? wj ⟨w.heap.size, 2, none⟩ = some (.int .u64 18446744073709551615) := (X1.below hJ).cell 2
      have xX13 : World.cell? wj ⟨w.heap.size, 3, none⟩ = some (.int .i64 E) := (X1.below hJ).cell 3
      go_simp
      exact hK.out _ _ rfl (Below.refl _ _)
    refine Jo.jcons (i := 5) (o := ⟨some 8, _, _, _, _, _⟩) (di := some 8) (L := [(some 6, 3)]) (f := Jo.Fact.eq (.pointer (some ⟨w.heap.size, 1, none⟩))) rfl rfl rfl rfl (fun vs wj hJ hd K hK => ?_) ?_
    · have d3 : (Jo.Fact.eq (.bool false)).P (vs 3) wj := hd 3 (by decide)
      clear hd
      simp only [Jo.putl, Jo.zd, Jo.ze, Act.put, Jo.za, Jo.zb, Jo.zc] at hK ⊢
      generalize vs 3 = u3 at hK d3 ⊢
      replace d3 : u3 = _ := d3
      subst d3
      go_simp
      exact hK.out _ _ rfl (Below.refl _ _)
    refine Jo.jcons (i := 6) (o := ⟨some 9, _, _, _, _, _⟩) (di := some 9) (L := [(some 6, 3), (some 8, 5)]) (f := Jo.Fact.eq (.bool s)) rfl rfl rfl rfl (fun vs wj hJ hd K hK => ?_) ?_
    · have d3 : (Jo.Fact.eq (.bool false)).P (vs 3) wj := hd 3 (by decide)
      have d5 : (Jo.Fact.eq (.pointer (some ⟨w.heap.size, 1, none⟩))).P (vs 5) wj := hd 5 (by decide)
      clear hd
      simp only [Jo.putl, Jo.zd, Jo.ze, Act.put, Jo.za, Jo.zb, Jo.zc] at hK ⊢
      generalize vs 3 = u3 at hK d3 ⊢
      generalize vs 5 = u5 at hK d5 ⊢
      replace d3 : u3 = _ := d3
      subst d3
      replace d5 : u5 = _ := d5
      subst d5
      have xX10 : World.cell? wj ⟨w.heap.size, 0, none⟩ = some (.int .i64 1) := (X1.below hJ).cell 0
      have xX11 : World.cell? wj ⟨w.heap.size, 1, none⟩ = some (.bool s) := (X1.below hJ).cell 1
      have xX12 : World.cell? wj ⟨w.heap.size, 2, none⟩ = some (.int .u64 18446744073709551615) := (X1.below hJ).cell 2
      have xX13 : World.cell? wj ⟨w.heap.size, 3, none⟩ = some (.int .i64 E) := (X1.below hJ).cell 3
      go_simp
      exact hK.out _ _ rfl (Below.refl _ _)
    refine Jo.jcons (i := 7) (o := ⟨some 10, _, _, _, _, _⟩) (di := some 10) (L := [(some 6, 3), (some 9, 6)]) (f := Jo.Fact.eq (.agg #[.int .i64 1, .bool s, .int .u64 18446744073709551615, .int .i64 1048576])) rfl rfl rfl rfl (fun vs wj hJ hd K hK => ?_) ?_
    · have d3 : (Jo.Fact.eq (.bool false)).P (vs 3) wj := hd 3 (by decide)
      have d6 : (Jo.Fact.eq (.bool s)).P (vs 6) wj := hd 6 (by decide)
      clear hd
      simp only [Jo.putl, Jo.zd, Jo.ze, Act.put, Jo.za, Jo.zb, Jo.zc] at hK ⊢
      generalize vs 3 = u3 at hK d3 ⊢
      generalize vs 6 = u6 at hK d6 ⊢
      replace d3 : u3 = _ := d3
      subst d3
      replace d6 : u6 = _ := d6
      subst d6
      go_simp
      refine (nH).mono ?_
      rintro ee wk ⟨rfl, B⟩
      exact hK.out _ _ rfl B
    refine Jo.jcons (i := 8) (o := ⟨some 11, _, _, _, _, _⟩) (di := some 11) (L := [(some 6, 3), (some 7, 4), (some 10, 7)]) (f := Jo.Fact.eq (.bool false)) rfl rfl rfl rfl (fun vs wj hJ hd K hK => ?_) ?_
    · have d3 : (Jo.Fact.eq (.bool false)).P (vs 3) wj := hd 3 (by decide)
      have d4 : (Jo.Fact.eq (.agg #[.int .i64 1, .bool s, .int .u64 18446744073709551615, .int .i64 E])).P (vs 4) wj := hd 4 (by decide)
      have d7 : (Jo.Fact.eq (.agg #[.int .i64 1, .bool s, .int .u64 18446744073709551615, .int .i64 1048576])).P (vs 7) wj := hd 7 (by decide)
      clear hd
      simp only [Jo.putl, Jo.zd, Jo.ze, Act.put, Jo.za, Jo.zb, Jo.zc] at hK ⊢
      generalize vs 3 = u3 at hK d3 ⊢
      generalize vs 4 = u4 at hK d4 ⊢
      generalize vs 7 = u7 at hK d7 ⊢
      replace d3 : u3 = _ := d3
      subst d3
      replace d4 : u4 = _ := d4
      subst d4
      replace d7 : u7 = _ := d7
      subst d7
      go_simp
      exact hK.out _ _ (by first | rfl | (show Value.bool _ = Value.bool _; simp [hq])) (Below.refl _ _)
    refine Jo.jcons (i := 9) (o := ⟨some 12, _, _, _, _, _⟩) (di := some 12) (L := [(some 6, 3), (some 11, 8)]) (f := Jo.Fact.eq (.bool false)) rfl rfl rfl rfl (fun vs wj hJ hd K hK => ?_) ?_
    · have d3 : (Jo.Fact.eq (.bool false)).P (vs 3) wj := hd 3 (by decide)
      have d8 : (Jo.Fact.eq (.bool false)).P (vs 8) wj := hd 8 (by decide)
      clear hd
      simp only [Jo.putl, Jo.zd, Jo.ze, Act.put, Jo.za, Jo.zb, Jo.zc] at hK ⊢
      generalize vs 3 = u3 at hK d3 ⊢
      generalize vs 8 = u8 at hK d8 ⊢
      replace d3 : u3 = _ := d3
      subst d3
      replace d8 : u8 = _ := d8
      subst d8
      go_simp
      exact hK.out _ _ rfl (Below.refl _ _)
    exact Jo.Steps.nil
  have d0 : (Jo.Fact.eq (.pointer (some ⟨w.heap.size, 0, none⟩))).P (vs 0) w2 := hd 0 (by decide)
  have d1 : (Jo.Fact.eq (.int .i64 1)).P (vs 1) w2 := hd 1 (by decide)
  have d2 : (Jo.Fact.eq (.bool false)).P (vs 2) w2 := hd 2 (by decide)
  have d3 : (Jo.Fact.eq (.bool false)).P (vs 3) w2 := hd 3 (by decide)
  have d4 : (Jo.Fact.eq (.agg #[.int .i64 1, .bool s, .int .u64 18446744073709551615, .int .i64 E])).P (vs 4) w2 := hd 4 (by decide)
  have d5 : (Jo.Fact.eq (.pointer (some ⟨w.heap.size, 1, none⟩))).P (vs 5) w2 := hd 5 (by decide)
  have d6 : (Jo.Fact.eq (.bool s)).P (vs 6) w2 := hd 6 (by decide)
  have d7 : (Jo.Fact.eq (.agg #[.int .i64 1, .bool s, .int .u64 18446744073709551615, .int .i64 1048576])).P (vs 7) w2 := hd 7 (by decide)
  have d8 : (Jo.Fact.eq (.bool false)).P (vs 8) w2 := hd 8 (by decide)
  have d9 : (Jo.Fact.eq (.bool false)).P (vs 9) w2 := hd 9 (by decide)
  clear hd
  simp only [Jo.putl, Jo.zd, Jo.ze, Act.put, Jo.za, Jo.zb, Jo.zc]
  generalize vs 0 = u0 at d0 ⊢
  generalize vs 1 = u1 at d1 ⊢
  generalize vs 2 = u2 at d2 ⊢
  generalize vs 3 = u3 at d3 ⊢
  generalize vs 4 = u4 at d4 ⊢
  generalize vs 5 = u5 at d5 ⊢
  generalize vs 6 = u6 at d6 ⊢
  generalize vs 7 = u7 at d7 ⊢
  generalize vs 8 = u8 at d8 ⊢
  generalize vs 9 = u9 at d9 ⊢
  clear vs
  replace d0 : u0 = _ := d0
  subst d0
  replace d1 : u1 = _ := d1
  subst d1
  replace d2 : u2 = _ := d2
  subst d2
  replace d3 : u3 = _ := d3
  subst d3
  replace d4 : u4 = _ := d4
  subst d4
  replace d5 : u5 = _ := d5
  subst d5
  replace d6 : u6 = _ := d6
  subst d6
  replace d7 : u7 = _ := d7
  subst d7
  replace d8 : u8 = _ := d8
  subst d8
  replace d9 : u9 = _ := d9
  subst d9
  replace X1 := X1.below hJ
  replace XR := XR.below hJ
  replace HB := Lib.hid (bt HB.out hJ)
  refine Jo.jdone (by kernel_rfl) ?_
  have xX10 := X1.at (i := 0) (v := .int .i64 1) rfl
  have zX10 := X1.frozen 0
  have xX11 := X1.at (i := 1) (v := .bool s) rfl
  have zX11 := X1.frozen 1
  have xX12 := X1.at (i := 2) (v := .int .u64 18446744073709551615) rfl
  have zX12 := X1.frozen 2
  have xX13 := X1.at (i := 3) (v := .int .i64 E) rfl
  have zX13 := X1.frozen 3
  go_upto_region 5 with (fail)
  clear xX10 zX10 xX11 zX11 xX12 zX12 xX13 zX13
  have SX : StN w2 (World.setCell w2 ⟨w.heap.size, 2, none⟩ (.int .u64 9223372036854775808)) _ _ #[.int .i64 1, .bool s, .int .u64 9223372036854775808, .int .i64 E] _ := StN.at4 X1 2 (.int .u64 9223372036854775808)
  replace XR := XR.stn SX (by omega)
  replace HB := Lib.hid (SX.below HB.out (by omega))
  replace X1 := SX.box
  clear SX
  generalize World.setCell w2 ⟨w.heap.size, 2, none⟩ (.int .u64 9223372036854775808) = w3 at *
  have xX10 := X1.at (i := 0) (v := .int .i64 1) rfl
  have zX10 := X1.frozen 0
  have xX11 := X1.at (i := 1) (v := .bool s) rfl
  have zX11 := X1.frozen 1
  have xX12 := X1.at (i := 2) (v := .int .u64 9223372036854775808) rfl
  have zX12 := X1.frozen 2
  have xX13 := X1.at (i := 3) (v := .int .i64 E) rfl
  have zX13 := X1.frozen 3
  have hw := HW.out
  go_upto_region 6 with (fail)
  clear hw
  clear xX10 zX10 xX11 zX11 xX12 zX12 xX13 zX13
  have SX : StN w3 (World.setCell w3 ⟨w.heap.size, 3, none⟩ (.int .i64 (E + 1))) _ _ #[.int .i64 1, .bool s, .int .u64 9223372036854775808, .int .i64 (E + 1)] _ := StN.at4 X1 3 (.int .i64 (E + 1))
  replace XR := XR.stn SX (by omega)
  replace HB := Lib.hid (SX.below HB.out (by omega))
  replace X1 := SX.box
  clear SX
  generalize World.setCell w3 ⟨w.heap.size, 3, none⟩ (.int .i64 (E + 1)) = w4 at *
  have xXR0 := XR.at (i := 0) (v := .int .i64 0) rfl
  have zXR0 := XR.frozen 0
  have xXR1 := XR.at (i := 1) (v := .bool false) rfl
  have zXR1 := XR.frozen 1
  have xXR2 := XR.at (i := 2) (v := .int .u64 0) rfl
  have zXR2 := XR.frozen 2
  have xXR3 := XR.at (i := 3) (v := .int .i64 0) rfl
  have zXR3 := XR.frozen 3
  have xX10 := X1.at (i := 0) (v := .int .i64 1) rfl
  have xX11 := X1.at (i := 1) (v := .bool s) rfl
  have xX12 := X1.at (i := 2) (v := .int .u64 9223372036854775808) rfl
  have xX13 := X1.at (i := 3) (v := .int .i64 (E + 1)) rfl
  go_wp2
  clear xXR0 zXR0 xXR1 zXR1 xXR2 zXR2 xXR3 zXR3 xX10 xX11 xX12 xX13
  have SX := StN.mk4 XR (.int .i64 1) (.bool s) (.int .u64 9223372036854775808) (.int .i64 (E + 1))
  replace X1 := X1.stn SX (by omega)
  replace HB := Lib.hid (SX.below HB.out (by omega))
  replace XR := SX.box
  clear SX
  generalize (World.setCell (World.setCell (World.setCell (World.setCell w4 ⟨w.heap.size + 1, 0, none⟩ (.int .i64 1)) ⟨w.heap.size + 1, 1, none⟩ (.bool s)) ⟨w.heap.size + 1, 2, none⟩ (.int .u64 9223372036854775808)) ⟨w.heap.size + 1, 3, none⟩ (.int .i64 (E + 1))) = w5 at *
  have r0 := XR.cell 0
  have r1 := XR.cell 1
  have r2 := XR.cell 2
  have r3 := XR.cell 3
  exact bodyPost_ret (v := .agg #[.int .i64 1, .bool s, .int .u64 9223372036854775808, .int .i64 (E + 1)]) (by simp [results, Tryd.results42, go_sem, r0, r1, r2, r3]) rfl ⟨_, _, _, _, rfl, hF, HB.out⟩
set_option maxHeartbeats 4000000 in
theorem nOut_plus {w : World} {s : Bool} {M E r : Int} (hF : Fq 1 s (M + 1) E r) (h1 : 0 ≤ M) (h2 : M < 18446744073709551615) : Calls Tryd.prog 42 #[.agg #[.int .i64 1, .bool s, .int .u64 M, .int .i64 E]] w (PN w r) := by
  have hq : M ≠ 18446744073709551615 := by omega
  have e1 : (M == 18446744073709551615) = false := by simpa using hq
  have HW : Hid (IntKind.u64.wrap (M + 1) = M + 1) := Lib.hid (IntWalk.u64_in _ (by omega))
  go_enter Tryd.func42, Tryd.ntmps42
  go_upto_region 1 with (fail)
  have X1 := (Bo.newAt w (g := w.heap.size) (by simp) #[.int .i64 1, .bool s, .int .u64 M, .int .i64 E] 24).below (bel1 _ (.cells #[.int .i64 0, .bool false, .int .u64 0, .int .i64 0] 24))
  have XR := (Bo.newAt (w.alloc (.cells #[.int .i64 1, .bool s, .int .u64 M, .int .i64 E] 24)) (g := w.heap.size + 1) (by simp) #[.int .i64 0, .bool false, .int .u64 0, .int .i64 0] 24)
  have HB := Lib.hid (bel2 w (.cells #[.int .i64 1, .bool s, .int .u64 M, .int .i64 E] 24) (.cells #[.int .i64 0, .bool false, .int .u64 0, .int .i64 0] 24))
  generalize hW1 : ((w.alloc (.cells #[.int .i64 1, .bool s, .int .u64 M, .int .i64 E] 24)).alloc (.cells #[.int .i64 0, .bool false, .int .u64 0, .int .i64 0] 24)) = w1 at *
  clear hW1
  refine Jo.region_joint (T := [0, 1, 2, 3, 4, 5, 6, 7, 8, 9]) (ds := [some 3, some 4, some 5, some 6, some 7, some 8, some 9, some 10, some 11, some 12]) (ls := [[], [0], [1], [2], [3], [3], [3, 5], [3, 6], [3, 4, 7], [3, 8]]) (k := 10) (L := [(some 3, 0), (some 4, 1), (some 5, 2), (some 6, 3), (some 7, 4), (some 8, 5), (some 9, 6), (some 10, 7), (some 11, 8), (some 12, 9)]) (fuel := 0) (J := fun wj => Below (World.heap w1).size w1 wj)
    (F := [Jo.Fact.eq (.pointer (some ⟨w.heap.size, 0, none⟩)), Jo.Fact.eq (.int .i64 1), Jo.Fact.eq (.bool false), Jo.Fact.eq (.bool false), Jo.Fact.eq (.agg #[.int .i64 1, .bool s, .int .u64 M, .int .i64 E]), Jo.Fact.eq (.pointer (some ⟨w.heap.size, 1, none⟩)), Jo.Fact.eq (.bool s), Jo.Fact.eq (.agg #[.int .i64 1, .bool s, .int .u64 18446744073709551615, .int .i64 1048576]), Jo.Fact.eq (.bool false), Jo.Fact.eq (.bool false)])
    (by kernel_rfl) (by kernel_rfl) (by decide) rfl rfl (fun _ _ h b => bt h b) ((Below.refl _ _).drew) ?_ (fun vs w2 hJ hd => ?_)
  · refine Jo.jcons (i := 0) (o := ⟨some 3, _, _, _, _, _⟩) (di := some 3) (L := []) (f := Jo.Fact.eq (.pointer (some ⟨w.heap.size, 0, none⟩))) rfl rfl rfl rfl (fun vs wj hJ hd K hK => ?_) ?_
    · clear hd
      simp only [Jo.putl, Jo.ze, Act.put, Jo.za, Jo.zb, Jo.zc] at hK ⊢
      go_simp
      exact hK.out _ _ rfl (Below.refl _ _)
    refine Jo.jcons (i := 1) (o := ⟨some 4, _, _, _, _, _⟩) (di := some 4) (L := [(some 3, 0)]) (f := Jo.Fact.eq (.int .i64 1)) rfl rfl rfl rfl (fun vs wj hJ hd K hK => ?_) ?_
    · have d0 : (Jo.Fact.eq (.pointer (some ⟨w.heap.size, 0, none⟩))).P (vs 0) wj := hd 0 (by decide)
      clear hd
      simp only [Jo.putl, Jo.zd, Jo.ze, Act.put, Jo.za, Jo.zb, Jo.zc] at hK ⊢
      generalize vs 0 = u0 at hK d0 ⊢
      replace d0 : u0 = _ := d0
      subst d0
      have xX10 : World.cell? wj ⟨w.heap.size, 0, none⟩ = some (.int .i64 1) := (X1.below hJ).cell 0
      have xX11 : World.cell? wj ⟨w.heap.size, 1, none⟩ = some (.bool s) := (X1.below hJ).cell 1
      have xX12 : World.cell? wj ⟨w.heap.size, 2, none⟩ = some (.int .u64 M) := (X1.below hJ).cell 2
      have xX13 : World.cell? wj ⟨w.heap.size, 3, none⟩ = some (.int .i64 E) := (X1.below hJ).cell 3
      go_simp
      exact hK.out _ _ rfl (Below.refl _ _)
    refine Jo.jcons (i := 2) (o := ⟨some 5, _, _, _, _, _⟩) (di := some 5) (L := [(some 4, 1)]) (f := Jo.Fact.eq (.bool false)) rfl rfl rfl rfl (fun vs wj hJ hd K hK => ?_) ?_
    · have d1 : (Jo.Fact.eq (.int .i64 1)).P (vs 1) wj := hd 1 (by decide)
      clear hd
      simp only [Jo.putl, Jo.zd, Jo.ze, Act.put, Jo.za, Jo.zb, Jo.zc] at hK ⊢
      generalize vs 1 = u1 at hK d1 ⊢
      replace d1 : u1 = _ := d1
      subst d1
      go_simp
      exact hK.out _ _ rfl (Below.refl _ _)
    refine Jo.jcons (i := 3) (o := ⟨some 6, _, _, _, _, _⟩) (di := some 6) (L := [(some 5, 2)]) (f := Jo.Fact.eq (.bool false)) rfl rfl rfl rfl (fun vs wj hJ hd K hK => ?_) ?_
    · have d2 : (Jo.Fact.eq (.bool false)).P (vs 2) wj := hd 2 (by decide)
      clear hd
      simp only [Jo.putl, Jo.zd, Jo.ze, Act.put, Jo.za, Jo.zb, Jo.zc] at hK ⊢
      generalize vs 2 = u2 at hK d2 ⊢
      replace d2 : u2 = _ := d2
      subst d2
      go_simp
      exact hK.out _ _ rfl (Below.refl _ _)
    refine Jo.jcons (i := 4) (o := ⟨some 7, _, _, _, _, _⟩) (di := some 7) (L := [(some 6, 3)]) (f := Jo.Fact.eq (.agg #[.int .i64 1, .bool s, .int .u64 M, .int .i64 E])) rfl rfl rfl rfl (fun vs wj hJ hd K hK => ?_) ?_
    · have d3 : (Jo.Fact.eq (.bool false)).P (vs 3) wj := hd 3 (by decide)
      clear hd
      simp only [Jo.putl, Jo.zd, Jo.ze, Act.put, Jo.za, Jo.zb, Jo.zc] at hK ⊢
      generalize vs 3 = u3 at hK d3 ⊢
      replace d3 : u3 = _ := d3
      subst d3
      have xX10 : World.cell? wj ⟨w.heap.size, 0, none⟩ = some (.int .i64 1) := (X1.below hJ).cell 0
      have xX11 : World.cell? wj ⟨w.heap.size, 1, none⟩ = some (.bool s) := (X1.below hJ).cell 1
      have xX12 : World.cell? wj ⟨w.heap.size, 2, none⟩ = some (.int .u64 M) := (X1.below hJ).cell 2
      have xX13 : World.cell? wj ⟨w.heap.size, 3, none⟩ = some (.int .i64 E) := (X1.below hJ).cell 3
      go_simp
      exact hK.out _ _ rfl (Below.refl _ _)
    refine Jo.jcons (i := 5) (o := ⟨some 8, _, _, _, _, _⟩) (di := some 8) (L := [(some 6, 3)]) (f := Jo.Fact.eq (.pointer (some ⟨w.heap.size, 1, none⟩))) rfl rfl rfl rfl (fun vs wj hJ hd K hK => ?_) ?_
    · have d3 : (Jo.Fact.eq (.bool false)).P (vs 3) wj := hd 3 (by decide)
      clear hd
      simp only [Jo.putl, Jo.zd, Jo.ze, Act.put, Jo.za, Jo.zb, Jo.zc] at hK ⊢
      generalize vs 3 = u3 at hK d3 ⊢
      replace d3 : u3 = _ := d3
      subst d3
      go_simp
      exact hK.out _ _ rfl (Below.refl _ _)
    refine Jo.jcons (i := 6) (o := ⟨some 9, _, _, _, _, _⟩) (di := some 9) (L := [(some 6, 3), (some 8, 5)]) (f := Jo.Fact.eq (.bool s)) rfl rfl rfl rfl (fun vs wj hJ hd K hK => ?_) ?_
    · have d3 : (Jo.Fact.eq (.bool false)).P (vs 3) wj := hd 3 (by decide)
      have d5 : (Jo.Fact.eq (.pointer (some ⟨w.heap.size, 1, none⟩))).P (vs 5) wj := hd 5 (by decide)
      clear hd
      simp only [Jo.putl, Jo.zd, Jo.ze, Act.put, Jo.za, Jo.zb, Jo.zc] at hK ⊢
      generalize vs 3 = u3 at hK d3 ⊢
      generalize vs 5 = u5 at hK d5 ⊢
      replace d3 : u3 = _ := d3
      subst d3
      replace d5 : u5 = _ := d5
      subst d5
      have xX10 : World.cell? wj ⟨w.heap.size, 0, none⟩ = some (.int .i64 1) := (X1.below hJ).cell 0
      have xX11 : World.cell? wj ⟨w.heap.size, 1, none⟩ = some (.bool s) := (X1.below hJ).cell 1
      have xX12 : World.cell? wj ⟨w.heap.size, 2, none⟩ = some (.int .u64 M) := (X1.below hJ).cell 2
      have xX13 : World.cell? wj ⟨w.heap.size, 3, none⟩ = some (.int .i64 E) := (X1.below hJ).cell 3
      go_simp
      exact hK.out _ _ rfl (Below.refl _ _)
    refine Jo.jcons (i := 7) (o := ⟨some 10, _, _, _, _, _⟩) (di := some 10) (L := [(some 6, 3), (some 9, 6)]) (f := Jo.Fact.eq (.agg #[.int .i64 1, .bool s, .int .u64 18446744073709551615, .int .i64 1048576])) rfl rfl rfl rfl (fun vs wj hJ hd K hK => ?_) ?_
    · have d3 : (Jo.Fact.eq (.bool false)).P (vs 3) wj := hd 3 (by decide)
      have d6 : (Jo.Fact.eq (.bool s)).P (vs 6) wj := hd 6 (by decide)
      clear hd
      simp only [Jo.putl, Jo.zd, Jo.ze, Act.put, Jo.za, Jo.zb, Jo.zc] at hK ⊢
      generalize vs 3 = u3 at hK d3 ⊢
      generalize vs 6 = u6 at hK d6 ⊢
      replace d3 : u3 = _ := d3
      subst d3
      replace d6 : u6 = _ := d6
      subst d6
      go_simp
      refine (nH).mono ?_
      rintro ee wk ⟨rfl, B⟩
      exact hK.out _ _ rfl B
    refine Jo.jcons (i := 8) (o := ⟨some 11, _, _, _, _, _⟩) (di := some 11) (L := [(some 6, 3), (some 7, 4), (some 10, 7)]) (f := Jo.Fact.eq (.bool false)) rfl rfl rfl rfl (fun vs wj hJ hd K hK => ?_) ?_
    · have d3 : (Jo.Fact.eq (.bool false)).P (vs 3) wj := hd 3 (by decide)
      have d4 : (Jo.Fact.eq (.agg #[.int .i64 1, .bool s, .int .u64 M, .int .i64 E])).P (vs 4) wj := hd 4 (by decide)
      have d7 : (Jo.Fact.eq (.agg #[.int .i64 1, .bool s, .int .u64 18446744073709551615, .int .i64 1048576])).P (vs 7) wj := hd 7 (by decide)
      clear hd
      simp only [Jo.putl, Jo.zd, Jo.ze, Act.put, Jo.za, Jo.zb, Jo.zc] at hK ⊢
      generalize vs 3 = u3 at hK d3 ⊢
      generalize vs 4 = u4 at hK d4 ⊢
      generalize vs 7 = u7 at hK d7 ⊢
      replace d3 : u3 = _ := d3
      subst d3
      replace d4 : u4 = _ := d4
      subst d4
      replace d7 : u7 = _ := d7
      subst d7
      go_simp
      exact hK.out _ _ (by first | rfl | (show Value.bool _ = Value.bool _; simp [hq])) (Below.refl _ _)
    refine Jo.jcons (i := 9) (o := ⟨some 12, _, _, _, _, _⟩) (di := some 12) (L := [(some 6, 3), (some 11, 8)]) (f := Jo.Fact.eq (.bool false)) rfl rfl rfl rfl (fun vs wj hJ hd K hK => ?_) ?_
    · have d3 : (Jo.Fact.eq (.bool false)).P (vs 3) wj := hd 3 (by decide)
      have d8 : (Jo.Fact.eq (.bool false)).P (vs 8) wj := hd 8 (by decide)
      clear hd
      simp only [Jo.putl, Jo.zd, Jo.ze, Act.put, Jo.za, Jo.zb, Jo.zc] at hK ⊢
      generalize vs 3 = u3 at hK d3 ⊢
      generalize vs 8 = u8 at hK d8 ⊢
      replace d3 : u3 = _ := d3
      subst d3
      replace d8 : u8 = _ := d8
      subst d8
      go_simp
      exact hK.out _ _ rfl (Below.refl _ _)
    exact Jo.Steps.nil
  have d0 : (Jo.Fact.eq (.pointer (some ⟨w.heap.size, 0, none⟩))).P (vs 0) w2 := hd 0 (by decide)
  have d1 : (Jo.Fact.eq (.int .i64 1)).P (vs 1) w2 := hd 1 (by decide)
  have d2 : (Jo.Fact.eq (.bool false)).P (vs 2) w2 := hd 2 (by decide)
  have d3 : (Jo.Fact.eq (.bool false)).P (vs 3) w2 := hd 3 (by decide)
  have d4 : (Jo.Fact.eq (.agg #[.int .i64 1, .bool s, .int .u64 M, .int .i64 E])).P (vs 4) w2 := hd 4 (by decide)
  have d5 : (Jo.Fact.eq (.pointer (some ⟨w.heap.size, 1, none⟩))).P (vs 5) w2 := hd 5 (by decide)
  have d6 : (Jo.Fact.eq (.bool s)).P (vs 6) w2 := hd 6 (by decide)
  have d7 : (Jo.Fact.eq (.agg #[.int .i64 1, .bool s, .int .u64 18446744073709551615, .int .i64 1048576])).P (vs 7) w2 := hd 7 (by decide)
  have d8 : (Jo.Fact.eq (.bool false)).P (vs 8) w2 := hd 8 (by decide)
  have d9 : (Jo.Fact.eq (.bool false)).P (vs 9) w2 := hd 9 (by decide)
  clear hd
  simp only [Jo.putl, Jo.zd, Jo.ze, Act.put, Jo.za, Jo.zb, Jo.zc]
  generalize vs 0 = u0 at d0 ⊢
  generalize vs 1 = u1 at d1 ⊢
  generalize vs 2 = u2 at d2 ⊢
  generalize vs 3 = u3 at d3 ⊢
  generalize vs 4 = u4 at d4 ⊢
  generalize vs 5 = u5 at d5 ⊢
  generalize vs 6 = u6 at d6 ⊢
  generalize vs 7 = u7 at d7 ⊢
  generalize vs 8 = u8 at d8 ⊢
  generalize vs 9 = u9 at d9 ⊢
  clear vs
  replace d0 : u0 = _ := d0
  subst d0
  replace d1 : u1 = _ := d1
  subst d1
  replace d2 : u2 = _ := d2
  subst d2
  replace d3 : u3 = _ := d3
  subst d3
  replace d4 : u4 = _ := d4
  subst d4
  replace d5 : u5 = _ := d5
  subst d5
  replace d6 : u6 = _ := d6
  subst d6
  replace d7 : u7 = _ := d7
  subst d7
  replace d8 : u8 = _ := d8
  subst d8
  replace d9 : u9 = _ := d9
  subst d9
  replace X1 := X1.below hJ
  replace XR := XR.below hJ
  replace HB := Lib.hid (bt HB.out hJ)
  refine Jo.jdone (by kernel_rfl) ?_
  have xX10 := X1.at (i := 0) (v := .int .i64 1) rfl
  have zX10 := X1.frozen 0
  have xX11 := X1.at (i := 1) (v := .bool s) rfl
  have zX11 := X1.frozen 1
  have xX12 := X1.at (i := 2) (v := .int .u64 M) rfl
  have zX12 := X1.frozen 2
  have xX13 := X1.at (i := 3) (v := .int .i64 E) rfl
  have zX13 := X1.frozen 3
  have hw := HW.out
  go_upto_region 8 with (fail)
  clear hw
  clear xX10 zX10 xX11 zX11 xX12 zX12 xX13 zX13
  have SX : StN w2 (World.setCell w2 ⟨w.heap.size, 2, none⟩ (.int .u64 (M + 1))) _ _ #[.int .i64 1, .bool s, .int .u64 (M + 1), .int .i64 E] _ := StN.at4 X1 2 (.int .u64 (M + 1))
  replace XR := XR.stn SX (by omega)
  replace HB := Lib.hid (SX.below HB.out (by omega))
  replace X1 := SX.box
  clear SX
  generalize World.setCell w2 ⟨w.heap.size, 2, none⟩ (.int .u64 (M + 1)) = w3 at *
  have xXR0 := XR.at (i := 0) (v := .int .i64 0) rfl
  have zXR0 := XR.frozen 0
  have xXR1 := XR.at (i := 1) (v := .bool false) rfl
  have zXR1 := XR.frozen 1
  have xXR2 := XR.at (i := 2) (v := .int .u64 0) rfl
  have zXR2 := XR.frozen 2
  have xXR3 := XR.at (i := 3) (v := .int .i64 0) rfl
  have zXR3 := XR.frozen 3
  have xX10 := X1.at (i := 0) (v := .int .i64 1) rfl
  have xX11 := X1.at (i := 1) (v := .bool s) rfl
  have xX12 := X1.at (i := 2) (v := .int .u64 (M + 1)) rfl
  have xX13 := X1.at (i := 3) (v := .int .i64 E) rfl
  go_wp2
  clear xXR0 zXR0 xXR1 zXR1 xXR2 zXR2 xXR3 zXR3 xX10 xX11 xX12 xX13
  have SX := StN.mk4 XR (.int .i64 1) (.bool s) (.int .u64 (M + 1)) (.int .i64 E)
  replace X1 := X1.stn SX (by omega)
  replace HB := Lib.hid (SX.below HB.out (by omega))
  replace XR := SX.box
  clear SX
  generalize (World.setCell (World.setCell (World.setCell (World.setCell w3 ⟨w.heap.size + 1, 0, none⟩ (.int .i64 1)) ⟨w.heap.size + 1, 1, none⟩ (.bool s)) ⟨w.heap.size + 1, 2, none⟩ (.int .u64 (M + 1))) ⟨w.heap.size + 1, 3, none⟩ (.int .i64 E)) = w4 at *
  have r0 := XR.cell 0
  have r1 := XR.cell 1
  have r2 := XR.cell 2
  have r3 := XR.cell 3
  exact bodyPost_ret (v := .agg #[.int .i64 1, .bool s, .int .u64 (M + 1), .int .i64 E]) (by simp [results, Tryd.results42, go_sem, r0, r1, r2, r3]) rfl ⟨_, _, _, _, rfl, hF, HB.out⟩
theorem nOut {w : World} {D : Int} {s : Bool} {M E x r : Int} (q : Fq D s M E x) (h0 : D ≠ 0) (hr : nx (!s) x = r) : Calls Tryd.prog 42 #[.agg #[.int .i64 D, .bool s, .int .u64 M, .int .i64 E]] w (PN w r) := by
  rw [nx_out q h0] at hr
  have := TP_eq
  rcases q.plc h0 with ⟨rfl, h1, h2, h3, h4, h5⟩ | ⟨rfl, rfl, rfl, h5⟩ <;> rw [h5] at hr
  · by_cases hm : M = 18446744073709551615
    · subst hm
      by_cases he : E = 1048576
      · subst he
        exact nOut_huge hr
      · refine nOut_carry (Fq.fin (by decide) (by decide) (by omega) (by omega) ?_) h3 (by omega)
        rw [← hr]
        congr 1
        omega
    · refine nOut_plus (Fq.fin (by omega) (by omega) h3 h4 ?_) (by omega) (by omega)
      rw [← hr]
      congr 1
      omega
  · exact nOut_inf hr
set_option maxHeartbeats 4000000 in
theorem nIn_inf {w : World} {s : Bool} {r : Int} (hF : Fq 1 s 18446744073709551615 1048576 r) : Calls Tryd.prog 41 #[.agg #[.int .i64 2, .bool s, .int .u64 0, .int .i64 0]] w (PN w r) := by
  go_enter Tryd.func41, Tryd.ntmps41
  go_upto_region 1 with (fail)
  have X1 := (Bo.newAt w (g := w.heap.size) (by simp) #[.int .i64 2, .bool s, .int .u64 0, .int .i64 0] 24).below (bel1 _ (.cells #[.int .i64 0, .bool false, .int .u64 0, .int .i64 0] 24))
  have XR := (Bo.newAt (w.alloc (.cells #[.int .i64 2, .bool s, .int .u64 0, .int .i64 0] 24)) (g := w.heap.size + 1) (by simp) #[.int .i64 0, .bool false, .int .u64 0, .int .i64 0] 24)
  have HB := Lib.hid (bel2 w (.cells #[.int .i64 2, .bool s, .int .u64 0, .int .i64 0] 24) (.cells #[.int .i64 0, .bool false, .int .u64 0, .int .i64 0] 24))
  generalize hW1 : ((w.alloc (.cells #[.int .i64 2, .bool s, .int .u64 0, .int .i64 0] 24)).alloc (.cells #[.int .i64 0, .bool false, .int .u64 0, .int .i64 0] 24)) = w1 at *
  clear hW1
  have xX10 := X1.at (i := 0) (v := .int .i64 2) rfl
  have xX11 := X1.at (i := 1) (v := .bool s) rfl
  have xX12 := X1.at (i := 2) (v := .int .u64 0) rfl
  have xX13 := X1.at (i := 3) (v := .int .i64 0) rfl
  go_wp2_with fail
  refine (nH (s := s)).mono ?_
  rintro ee w3 ⟨rfl, B⟩
  clear xX10 xX11 xX12 xX13
  replace X1 := X1.below B
  replace XR := XR.below B
  replace HB := Lib.hid (bt HB.out B)
  clear B
  have xXR0 := XR.at (i := 0) (v := .int .i64 0) rfl
  have zXR0 := XR.frozen 0
  have xXR1 := XR.at (i := 1) (v := .bool false) rfl
  have zXR1 := XR.frozen 1
  have xXR2 := XR.at (i := 2) (v := .int .u64 0) rfl
  have zXR2 := XR.frozen 2
  have xXR3 := XR.at (i := 3) (v := .int .i64 0) rfl
  have zXR3 := XR.frozen 3
  have xX10 := X1.at (i := 0) (v := .int .i64 2) rfl
  have xX11 := X1.at (i := 1) (v := .bool s) rfl
  have xX12 := X1.at (i := 2) (v := .int .u64 0) rfl
  have xX13 := X1.at (i := 3) (v := .int .i64 0) rfl
  go_wp2
  clear xXR0 zXR0 xXR1 zXR1 xXR2 zXR2 xXR3 zXR3 xX10 xX11 xX12 xX13
  have SX := StN.mk4 XR (.int .i64 1) (.bool s) (.int .u64 18446744073709551615) (.int .i64 1048576)
  replace X1 := X1.stn SX (by omega)
  replace HB := Lib.hid (SX.below HB.out (by omega))
  replace XR := SX.box
  clear SX
  generalize (World.setCell (World.setCell (World.setCell (World.setCell w3 ⟨w.heap.size + 1, 0, none⟩ (.int .i64 1)) ⟨w.heap.size + 1, 1, none⟩ (.bool s)) ⟨w.heap.size + 1, 2, none⟩ (.int .u64 18446744073709551615)) ⟨w.heap.size + 1, 3, none⟩ (.int .i64 1048576)) = w4 at *
  have r0 := XR.cell 0
  have r1 := XR.cell 1
  have r2 := XR.cell 2
  have r3 := XR.cell 3
  exact bodyPost_ret (v := .agg #[.int .i64 1, .bool s, .int .u64 18446744073709551615, .int .i64 1048576]) (by simp [results, Tryd.results41, go_sem, r0, r1, r2, r3]) rfl ⟨_, _, _, _, rfl, hF, HB.out⟩
set_option maxHeartbeats 4000000 in
theorem nIn_tiny {w : World} {s : Bool} {r : Int} (hr : 0 = r) : Calls Tryd.prog 41 #[.agg #[.int .i64 1, .bool s, .int .u64 9223372036854775808, .int .i64 (-1048576)]] w (PN w r) := by
  subst hr
  go_enter Tryd.func41, Tryd.ntmps41
  go_upto_region 1 with (fail)
  have X1 := (Bo.newAt w (g := w.heap.size) (by simp) #[.int .i64 1, .bool s, .int .u64 9223372036854775808, .int .i64 (-1048576)] 24).below (bel1 _ (.cells #[.int .i64 0, .bool false, .int .u64 0, .int .i64 0] 24))
  have XR := (Bo.newAt (w.alloc (.cells #[.int .i64 1, .bool s, .int .u64 9223372036854775808, .int .i64 (-1048576)] 24)) (g := w.heap.size + 1) (by simp) #[.int .i64 0, .bool false, .int .u64 0, .int .i64 0] 24)
  have HB := Lib.hid (bel2 w (.cells #[.int .i64 1, .bool s, .int .u64 9223372036854775808, .int .i64 (-1048576)] 24) (.cells #[.int .i64 0, .bool false, .int .u64 0, .int .i64 0] 24))
  generalize hW1 : ((w.alloc (.cells #[.int .i64 1, .bool s, .int .u64 9223372036854775808, .int .i64 (-1048576)] 24)).alloc (.cells #[.int .i64 0, .bool false, .int .u64 0, .int .i64 0] 24)) = w1 at *
  clear hW1
  have xX10 := X1.at (i := 0) (v := .int .i64 1) rfl
  have xX11 := X1.at (i := 1) (v := .bool s) rfl
  have xX12 := X1.at (i := 2) (v := .int .u64 9223372036854775808) rfl
  have xX13 := X1.at (i := 3) (v := .int .i64 (-1048576)) rfl
  go_upto_region 3 with (fail)
  clear xX10 xX11 xX12 xX13
  refine Jo.region_joint (T := [0, 1, 2, 3, 4]) (ds := [some 9, some 10, some 11, some 12, some 13]) (ls := [[], [], [1], [2], [0, 3]]) (k := 5) (L := [(some 9, 0), (some 10, 1), (some 11, 2), (some 12, 3), (some 13, 4)]) (fuel := 0) (J := fun wj => Below (World.heap w1).size w1 wj)
    (F := [Jo.Fact.eq (.agg #[.int .i64 1, .bool s, .int .u64 9223372036854775808, .int .i64 (-1048576)]), Jo.Fact.eq (.pointer (some ⟨w.heap.size, 1, none⟩)), Jo.Fact.eq (.bool s), Jo.Fact.eq (.agg #[.int .i64 1, .bool s, .int .u64 9223372036854775808, .int .i64 (-1048576)]), Jo.Fact.eq (.bool true)])
    (by kernel_rfl) (by kernel_rfl) (by decide) rfl rfl (fun _ _ h b => bt h b) ((Below.refl _ _).drew) ?_ (fun vs w2 hJ hd => ?_)
  · refine Jo.jcons (i := 0) (o := ⟨some 9, _, _, _, _, _⟩) (di := some 9) (L := []) (f := Jo.Fact.eq (.agg #[.int .i64 1, .bool s, .int .u64 9223372036854775808, .int .i64 (-1048576)])) rfl rfl rfl rfl (fun vs wj hJ hd K hK => ?_) ?_
    · clear hd
      simp only [Jo.putl, Jo.ze, Act.put, Jo.za, Jo.zb, Jo.zc] at hK ⊢
      have xX10 : World.cell? wj ⟨w.heap.size, 0, none⟩ = some (.int .i64 1) := (X1.below hJ).cell 0
      have xX11 : World.cell? wj ⟨w.heap.size, 1, none⟩ = some (.bool s) := (X1.below hJ).cell 1
      have xX12 : World.cell? wj ⟨w.heap.size, 2, none⟩ = some (.int .u64 9223372036854775808) := (X1.below hJ).cell 2
      have xX13 : World.cell? wj ⟨w.heap.size, 3, none⟩ = some (.int .i64 (-1048576)) := (X1.below hJ).cell 3
      go_simp
      exact hK.out _ _ rfl (Below.refl _ _)
    refine Jo.jcons (i := 1) (o := ⟨some 10, _, _, _, _, _⟩) (di := some 10) (L := []) (f := Jo.Fact.eq (.pointer (some ⟨w.heap.size, 1, none⟩))) rfl rfl rfl rfl (fun vs wj hJ hd K hK => ?_) ?_
    · clear hd
      simp only [Jo.putl, Jo.ze, Act.put, Jo.za, Jo.zb, Jo.zc] at hK ⊢
      go_simp
      exact hK.out _ _ rfl (Below.refl _ _)
    refine Jo.jcons (i := 2) (o := ⟨some 11, _, _, _, _, _⟩) (di := some 11) (L := [(some 10, 1)]) (f := Jo.Fact.eq (.bool s)) rfl rfl rfl rfl (fun vs wj hJ hd K hK => ?_) ?_
    · have d1 : (Jo.Fact.eq (.pointer (some ⟨w.heap.size, 1, none⟩))).P (vs 1) wj := hd 1 (by decide)
      clear hd
      simp only [Jo.putl, Jo.zd, Jo.ze, Act.put, Jo.za, Jo.zb, Jo.zc] at hK ⊢
      generalize vs 1 = u1 at hK d1 ⊢
      replace d1 : u1 = _ := d1
      subst d1
      have xX10 : World.cell? wj ⟨w.heap.size, 0, none⟩ = some (.int .i64 1) := (X1.below hJ).cell 0
      have xX11 : World.cell? wj ⟨w.heap.size, 1, none⟩ = some (.bool s) := (X1.below hJ).cell 1
      have xX12 : World.cell? wj ⟨w.heap.size, 2, none⟩ = some (.int .u64 9223372036854775808) := (X1.below hJ).cell 2
      have xX13 : World.cell? wj ⟨w.heap.size, 3, none⟩ = some (.int .i64 (-1048576)) := (X1.below hJ).cell 3
      go_simp
      exact hK.out _ _ rfl (Below.refl _ _)
    refine Jo.jcons (i := 3) (o := ⟨some 12, _, _, _, _, _⟩) (di := some 12) (L := [(some 11, 2)]) (f := Jo.Fact.eq (.agg #[.int .i64 1, .bool s, .int .u64 9223372036854775808, .int .i64 (-1048576)])) rfl rfl rfl rfl (fun vs wj hJ hd K hK => ?_) ?_
    · have d2 : (Jo.Fact.eq (.bool s)).P (vs 2) wj := hd 2 (by decide)
      clear hd
      simp only [Jo.putl, Jo.zd, Jo.ze, Act.put, Jo.za, Jo.zb, Jo.zc] at hK ⊢
      generalize vs 2 = u2 at hK d2 ⊢
      replace d2 : u2 = _ := d2
      subst d2
      go_simp
      refine (nT).mono ?_
      rintro ee wk ⟨rfl, B⟩
      exact hK.out _ _ rfl B
    refine Jo.jcons (i := 4) (o := ⟨some 13, _, _, _, _, _⟩) (di := some 13) (L := [(some 9, 0), (some 12, 3)]) (f := Jo.Fact.eq (.bool true)) rfl rfl rfl rfl (fun vs wj hJ hd K hK => ?_) ?_
    · have d0 : (Jo.Fact.eq (.agg #[.int .i64 1, .bool s, .int .u64 9223372036854775808, .int .i64 (-1048576)])).P (vs 0) wj := hd 0 (by decide)
      have d3 : (Jo.Fact.eq (.agg #[.int .i64 1, .bool s, .int .u64 9223372036854775808, .int .i64 (-1048576)])).P (vs 3) wj := hd 3 (by decide)
      clear hd
      simp only [Jo.putl, Jo.zd, Jo.ze, Act.put, Jo.za, Jo.zb, Jo.zc] at hK ⊢
      generalize vs 0 = u0 at hK d0 ⊢
      generalize vs 3 = u3 at hK d3 ⊢
      replace d0 : u0 = _ := d0
      subst d0
      replace d3 : u3 = _ := d3
      subst d3
      go_simp
      exact hK.out _ _ (by first | rfl | (show Value.bool _ = Value.bool _; simp)) (Below.refl _ _)
    exact Jo.Steps.nil
  have d0 : (Jo.Fact.eq (.agg #[.int .i64 1, .bool s, .int .u64 9223372036854775808, .int .i64 (-1048576)])).P (vs 0) w2 := hd 0 (by decide)
  have d1 : (Jo.Fact.eq (.pointer (some ⟨w.heap.size, 1, none⟩))).P (vs 1) w2 := hd 1 (by decide)
  have d2 : (Jo.Fact.eq (.bool s)).P (vs 2) w2 := hd 2 (by decide)
  have d3 : (Jo.Fact.eq (.agg #[.int .i64 1, .bool s, .int .u64 9223372036854775808, .int .i64 (-1048576)])).P (vs 3) w2 := hd 3 (by decide)
  have d4 : (Jo.Fact.eq (.bool true)).P (vs 4) w2 := hd 4 (by decide)
  clear hd
  simp only [Jo.putl, Jo.zd, Jo.ze, Act.put, Jo.za, Jo.zb, Jo.zc]
  generalize vs 0 = u0 at d0 ⊢
  generalize vs 1 = u1 at d1 ⊢
  generalize vs 2 = u2 at d2 ⊢
  generalize vs 3 = u3 at d3 ⊢
  generalize vs 4 = u4 at d4 ⊢
  clear vs
  replace d0 : u0 = _ := d0
  subst d0
  replace d1 : u1 = _ := d1
  subst d1
  replace d2 : u2 = _ := d2
  subst d2
  replace d3 : u3 = _ := d3
  subst d3
  replace d4 : u4 = _ := d4
  subst d4
  replace X1 := X1.below hJ
  replace XR := XR.below hJ
  replace HB := Lib.hid (bt HB.out hJ)
  refine Jo.jdone (by kernel_rfl) ?_
  have xXR0 := XR.at (i := 0) (v := .int .i64 0) rfl
  have zXR0 := XR.frozen 0
  have xXR1 := XR.at (i := 1) (v := .bool false) rfl
  have zXR1 := XR.frozen 1
  have xXR2 := XR.at (i := 2) (v := .int .u64 0) rfl
  have zXR2 := XR.frozen 2
  have xXR3 := XR.at (i := 3) (v := .int .i64 0) rfl
  have zXR3 := XR.frozen 3
  have xX10 := X1.at (i := 0) (v := .int .i64 1) rfl
  have xX11 := X1.at (i := 1) (v := .bool s) rfl
  have xX12 := X1.at (i := 2) (v := .int .u64 9223372036854775808) rfl
  have xX13 := X1.at (i := 3) (v := .int .i64 (-1048576)) rfl
  go_wp2
  clear xXR0 zXR0 xXR1 zXR1 xXR2 zXR2 xXR3 zXR3 xX10 xX11 xX12 xX13
  have SX := StN.mk4 XR (.int .i64 0) (.bool false) (.int .u64 0) (.int .i64 0)
  replace X1 := X1.stn SX (by omega)
  replace HB := Lib.hid (SX.below HB.out (by omega))
  replace XR := SX.box
  clear SX
  generalize (World.setCell (World.setCell (World.setCell (World.setCell w2 ⟨w.heap.size + 1, 0, none⟩ (.int .i64 0)) ⟨w.heap.size + 1, 1, none⟩ (.bool false)) ⟨w.heap.size + 1, 2, none⟩ (.int .u64 0)) ⟨w.heap.size + 1, 3, none⟩ (.int .i64 0)) = w4 at *
  have r0 := XR.cell 0
  have r1 := XR.cell 1
  have r2 := XR.cell 2
  have r3 := XR.cell 3
  exact bodyPost_ret (v := .agg #[.int .i64 0, .bool false, .int .u64 0, .int .i64 0]) (by simp [results, Tryd.results41, go_sem, r0, r1, r2, r3]) rfl ⟨_, _, _, _, rfl, Fq.nought, HB.out⟩
set_option maxHeartbeats 4000000 in
theorem nIn_carry {w : World} {s : Bool} {E r : Int} (hF : Fq 1 s 18446744073709551615 (E - 1) r) (h1 : -1048576 < E) (h2 : E ≤ 1048576) : Calls Tryd.prog 41 #[.agg #[.int .i64 1, .bool s, .int .u64 9223372036854775808, .int .i64 E]] w (PN w r) := by
  have hq : E ≠ -1048576 := by omega
  have HW : Hid (IntKind.i64.wrap (E - 1) = E - 1) := Lib.hid (IntWalk.i64_in _ (by omega))
  go_enter Tryd.func41, Tryd.ntmps41
  go_upto_region 1 with (fail)
  have X1 := (Bo.newAt w (g := w.heap.size) (by simp) #[.int .i64 1, .bool s, .int .u64 9223372036854775808, .int .i64 E] 24).below (bel1 _ (.cells #[.int .i64 0, .bool false, .int .u64 0, .int .i64 0] 24))
  have XR := (Bo.newAt (w.alloc (.cells #[.int .i64 1, .bool s, .int .u64 9223372036854775808, .int .i64 E] 24)) (g := w.heap.size + 1) (by simp) #[.int .i64 0, .bool false, .int .u64 0, .int .i64 0] 24)
  have HB := Lib.hid (bel2 w (.cells #[.int .i64 1, .bool s, .int .u64 9223372036854775808, .int .i64 E] 24) (.cells #[.int .i64 0, .bool false, .int .u64 0, .int .i64 0] 24))
  generalize hW1 : ((w.alloc (.cells #[.int .i64 1, .bool s, .int .u64 9223372036854775808, .int .i64 E] 24)).alloc (.cells #[.int .i64 0, .bool false, .int .u64 0, .int .i64 0] 24)) = w1 at *
  clear hW1
  have xX10 := X1.at (i := 0) (v := .int .i64 1) rfl
  have xX11 := X1.at (i := 1) (v := .bool s) rfl
  have xX12 := X1.at (i := 2) (v := .int .u64 9223372036854775808) rfl
  have xX13 := X1.at (i := 3) (v := .int .i64 E) rfl
  go_upto_region 3 with (fail)
  clear xX10 xX11 xX12 xX13
  refine Jo.region_joint (T := [0, 1, 2, 3, 4]) (ds := [some 9, some 10, some 11, some 12, some 13]) (ls := [[], [], [1], [2], [0, 3]]) (k := 5) (L := [(some 9, 0), (some 10, 1), (some 11, 2), (some 12, 3), (some 13, 4)]) (fuel := 0) (J := fun wj => Below (World.heap w1).size w1 wj)
    (F := [Jo.Fact.eq (.agg #[.int .i64 1, .bool s, .int .u64 9223372036854775808, .int .i64 E]), Jo.Fact.eq (.pointer (some ⟨w.heap.size, 1, none⟩)), Jo.Fact.eq (.bool s), Jo.Fact.eq (.agg #[.int .i64 1, .bool s, .int .u64 9223372036854775808, .int .i64 (-1048576)]), Jo.Fact.eq (.bool false)])
    (by kernel_rfl) (by kernel_rfl) (by decide) rfl rfl (fun _ _ h b => bt h b) ((Below.refl _ _).drew) ?_ (fun vs w2 hJ hd => ?_)
  · refine Jo.jcons (i := 0) (o := ⟨some 9, _, _, _, _, _⟩) (di := some 9) (L := []) (f := Jo.Fact.eq (.agg #[.int .i64 1, .bool s, .int .u64 9223372036854775808, .int .i64 E])) rfl rfl rfl rfl (fun vs wj hJ hd K hK => ?_) ?_
    · clear hd
      simp only [Jo.putl, Jo.ze, Act.put, Jo.za, Jo.zb, Jo.zc] at hK ⊢
      have xX10 : World.cell? wj ⟨w.heap.size, 0, none⟩ = some (.int .i64 1) := (X1.below hJ).cell 0
      have xX11 : World.cell? wj ⟨w.heap.size, 1, none⟩ = some (.bool s) := (X1.below hJ).cell 1
      have xX12 : World.cell? wj ⟨w.heap.size, 2, none⟩ = some (.int .u64 9223372036854775808) := (X1.below hJ).cell 2
      have xX13 : World.cell? wj ⟨w.heap.size, 3, none⟩ = some (.int .i64 E) := (X1.below hJ).cell 3
      go_simp
      exact hK.out _ _ rfl (Below.refl _ _)
    refine Jo.jcons (i := 1) (o := ⟨some 10, _, _, _, _, _⟩) (di := some 10) (L := []) (f := Jo.Fact.eq (.pointer (some ⟨w.heap.size, 1, none⟩))) rfl rfl rfl rfl (fun vs wj hJ hd K hK => ?_) ?_
    · clear hd
      simp only [Jo.putl, Jo.ze, Act.put, Jo.za, Jo.zb, Jo.zc] at hK ⊢
      go_simp
      exact hK.out _ _ rfl (Below.refl _ _)
    refine Jo.jcons (i := 2) (o := ⟨some 11, _, _, _, _, _⟩) (di := some 11) (L := [(some 10, 1)]) (f := Jo.Fact.eq (.bool s)) rfl rfl rfl rfl (fun vs wj hJ hd K hK => ?_) ?_
    · have d1 : (Jo.Fact.eq (.pointer (some ⟨w.heap.size, 1, none⟩))).P (vs 1) wj := hd 1 (by decide)
      clear hd
      simp only [Jo.putl, Jo.zd, Jo.ze, Act.put, Jo.za, Jo.zb, Jo.zc] at hK ⊢
      generalize vs 1 = u1 at hK d1 ⊢
      replace d1 : u1 = _ := d1
      subst d1
      have xX10 : World.cell? wj ⟨w.heap.size, 0, none⟩ = some (.int .i64 1) := (X1.below hJ).cell 0
      have xX11 : World.cell? wj ⟨w.heap.size, 1, none⟩ = some (.bool s) := (X1.below hJ).cell 1
      have xX12 : World.cell? wj ⟨w.heap.size, 2, none⟩ = some (.int .u64 9223372036854775808) := (X1.below hJ).cell 2
      have xX13 : World.cell? wj ⟨w.heap.size, 3, none⟩ = some (.int .i64 E) := (X1.below hJ).cell 3
      go_simp
      exact hK.out _ _ rfl (Below.refl _ _)
    refine Jo.jcons (i := 3) (o := ⟨some 12, _, _, _, _, _⟩) (di := some 12) (L := [(some 11, 2)]) (f := Jo.Fact.eq (.agg #[.int .i64 1, .bool s, .int .u64 9223372036854775808, .int .i64 (-1048576)])) rfl rfl rfl rfl (fun vs wj hJ hd K hK => ?_) ?_
    · have d2 : (Jo.Fact.eq (.bool s)).P (vs 2) wj := hd 2 (by decide)
      clear hd
      simp only [Jo.putl, Jo.zd, Jo.ze, Act.put, Jo.za, Jo.zb, Jo.zc] at hK ⊢
      generalize vs 2 = u2 at hK d2 ⊢
      replace d2 : u2 = _ := d2
      subst d2
      go_simp
      refine (nT).mono ?_
      rintro ee wk ⟨rfl, B⟩
      exact hK.out _ _ rfl B
    refine Jo.jcons (i := 4) (o := ⟨some 13, _, _, _, _, _⟩) (di := some 13) (L := [(some 9, 0), (some 12, 3)]) (f := Jo.Fact.eq (.bool false)) rfl rfl rfl rfl (fun vs wj hJ hd K hK => ?_) ?_
    · have d0 : (Jo.Fact.eq (.agg #[.int .i64 1, .bool s, .int .u64 9223372036854775808, .int .i64 E])).P (vs 0) wj := hd 0 (by decide)
      have d3 : (Jo.Fact.eq (.agg #[.int .i64 1, .bool s, .int .u64 9223372036854775808, .int .i64 (-1048576)])).P (vs 3) wj := hd 3 (by decide)
      clear hd
      simp only [Jo.putl, Jo.zd, Jo.ze, Act.put, Jo.za, Jo.zb, Jo.zc] at hK ⊢
      generalize vs 0 = u0 at hK d0 ⊢
      generalize vs 3 = u3 at hK d3 ⊢
      replace d0 : u0 = _ := d0
      subst d0
      replace d3 : u3 = _ := d3
      subst d3
      go_simp
      exact hK.out _ _ (by first | rfl | (show Value.bool _ = Value.bool _; simp [hq])) (Below.refl _ _)
    exact Jo.Steps.nil
  have d0 : (Jo.Fact.eq (.agg #[.int .i64 1, .bool s, .int .u64 9223372036854775808, .int .i64 E])).P (vs 0) w2 := hd 0 (by decide)
  have d1 : (Jo.Fact.eq (.pointer (some ⟨w.heap.size, 1, none⟩))).P (vs 1) w2 := hd 1 (by decide)
  have d2 : (Jo.Fact.eq (.bool s)).P (vs 2) w2 := hd 2 (by decide)
  have d3 : (Jo.Fact.eq (.agg #[.int .i64 1, .bool s, .int .u64 9223372036854775808, .int .i64 (-1048576)])).P (vs 3) w2 := hd 3 (by decide)
  have d4 : (Jo.Fact.eq (.bool false)).P (vs 4) w2 := hd 4 (by decide)
  clear hd
  simp only [Jo.putl, Jo.zd, Jo.ze, Act.put, Jo.za, Jo.zb, Jo.zc]
  generalize vs 0 = u0 at d0 ⊢
  generalize vs 1 = u1 at d1 ⊢
  generalize vs 2 = u2 at d2 ⊢
  generalize vs 3 = u3 at d3 ⊢
  generalize vs 4 = u4 at d4 ⊢
  clear vs
  replace d0 : u0 = _ := d0
  subst d0
  replace d1 : u1 = _ := d1
  subst d1
  replace d2 : u2 = _ := d2
  subst d2
  replace d3 : u3 = _ := d3
  subst d3
  replace d4 : u4 = _ := d4
  subst d4
  replace X1 := X1.below hJ
  replace XR := XR.below hJ
  replace HB := Lib.hid (bt HB.out hJ)
  refine Jo.jdone (by kernel_rfl) ?_
  have xX10 := X1.at (i := 0) (v := .int .i64 1) rfl
  have zX10 := X1.frozen 0
  have xX11 := X1.at (i := 1) (v := .bool s) rfl
  have zX11 := X1.frozen 1
  have xX12 := X1.at (i := 2) (v := .int .u64 9223372036854775808) rfl
  have zX12 := X1.frozen 2
  have xX13 := X1.at (i := 3) (v := .int .i64 E) rfl
  have zX13 := X1.frozen 3
  go_upto_region 7 with (fail)
  clear xX10 zX10 xX11 zX11 xX12 zX12 xX13 zX13
  have SX : StN w2 (World.setCell w2 ⟨w.heap.size, 2, none⟩ (.int .u64 18446744073709551615)) _ _ #[.int .i64 1, .bool s, .int .u64 18446744073709551615, .int .i64 E] _ := StN.at4 X1 2 (.int .u64 18446744073709551615)
  replace XR := XR.stn SX (by omega)
  replace HB := Lib.hid (SX.below HB.out (by omega))
  replace X1 := SX.box
  clear SX
  generalize World.setCell w2 ⟨w.heap.size, 2, none⟩ (.int .u64 18446744073709551615) = w3 at *
  have xX10 := X1.at (i := 0) (v := .int .i64 1) rfl
  have zX10 := X1.frozen 0
  have xX11 := X1.at (i := 1) (v := .bool s) rfl
  have zX11 := X1.frozen 1
  have xX12 := X1.at (i := 2) (v := .int .u64 18446744073709551615) rfl
  have zX12 := X1.frozen 2
  have xX13 := X1.at (i := 3) (v := .int .i64 E) rfl
  have zX13 := X1.frozen 3
  have hw := HW.out
  go_upto_region 8 with (fail)
  clear hw
  clear xX10 zX10 xX11 zX11 xX12 zX12 xX13 zX13
  have SX : StN w3 (World.setCell w3 ⟨w.heap.size, 3, none⟩ (.int .i64 (E - 1))) _ _ #[.int .i64 1, .bool s, .int .u64 18446744073709551615, .int .i64 (E - 1)] _ := StN.at4 X1 3 (.int .i64 (E - 1))
  replace XR := XR.stn SX (by omega)
  replace HB := Lib.hid (SX.below HB.out (by omega))
  replace X1 := SX.box
  clear SX
  generalize World.setCell w3 ⟨w.heap.size, 3, none⟩ (.int .i64 (E - 1)) = w4 at *
  have xXR0 := XR.at (i := 0) (v := .int .i64 0) rfl
  have zXR0 := XR.frozen 0
  have xXR1 := XR.at (i := 1) (v := .bool false) rfl
  have zXR1 := XR.frozen 1
  have xXR2 := XR.at (i := 2) (v := .int .u64 0) rfl
  have zXR2 := XR.frozen 2
  have xXR3 := XR.at (i := 3) (v := .int .i64 0) rfl
  have zXR3 := XR.frozen 3
  have xX10 := X1.at (i := 0) (v := .int .i64 1) rfl
  have xX11 := X1.at (i := 1) (v := .bool s) rfl
  have xX12 := X1.at (i := 2) (v := .int .u64 18446744073709551615) rfl
  have xX13 := X1.at (i := 3) (v := .int .i64 (E - 1)) rfl
  go_wp2
  clear xXR0 zXR0 xXR1 zXR1 xXR2 zXR2 xXR3 zXR3 xX10 xX11 xX12 xX13
  have SX := StN.mk4 XR (.int .i64 1) (.bool s) (.int .u64 18446744073709551615) (.int .i64 (E - 1))
  replace X1 := X1.stn SX (by omega)
  replace HB := Lib.hid (SX.below HB.out (by omega))
  replace XR := SX.box
  clear SX
  generalize (World.setCell (World.setCell (World.setCell (World.setCell w4 ⟨w.heap.size + 1, 0, none⟩ (.int .i64 1)) ⟨w.heap.size + 1, 1, none⟩ (.bool s)) ⟨w.heap.size + 1, 2, none⟩ (.int .u64 18446744073709551615)) ⟨w.heap.size + 1, 3, none⟩ (.int .i64 (E - 1))) = w5 at *
  have r0 := XR.cell 0
  have r1 := XR.cell 1
  have r2 := XR.cell 2
  have r3 := XR.cell 3
  exact bodyPost_ret (v := .agg #[.int .i64 1, .bool s, .int .u64 18446744073709551615, .int .i64 (E - 1)]) (by simp [results, Tryd.results41, go_sem, r0, r1, r2, r3]) rfl ⟨_, _, _, _, rfl, hF, HB.out⟩
set_option maxHeartbeats 4000000 in
theorem nIn_less {w : World} {s : Bool} {M E r : Int} (hF : Fq 1 s (M - 1) E r) (h1 : 9223372036854775808 < M) (h2 : M ≤ 18446744073709551615) : Calls Tryd.prog 41 #[.agg #[.int .i64 1, .bool s, .int .u64 M, .int .i64 E]] w (PN w r) := by
  have hq : M ≠ 9223372036854775808 := by omega
  have e1 : (M == 9223372036854775808) = false := by simpa using hq
  have HW : Hid (IntKind.u64.wrap (M - 1) = M - 1) := Lib.hid (IntWalk.u64_in _ (by omega))
  go_enter Tryd.func41, Tryd.ntmps41
  go_upto_region 1 with (fail)
  have X1 := (Bo.newAt w (g := w.heap.size) (by simp) #[.int .i64 1, .bool s, .int .u64 M, .int .i64 E] 24).below (bel1 _ (.cells #[.int .i64 0, .bool false, .int .u64 0, .int .i64 0] 24))
  have XR := (Bo.newAt (w.alloc (.cells #[.int .i64 1, .bool s, .int .u64 M, .int .i64 E] 24)) (g := w.heap.size + 1) (by simp) #[.int .i64 0, .bool false, .int .u64 0, .int .i64 0] 24)
  have HB := Lib.hid (bel2 w (.cells #[.int .i64 1, .bool s, .int .u64 M, .int .i64 E] 24) (.cells #[.int .i64 0, .bool false, .int .u64 0, .int .i64 0] 24))
  generalize hW1 : ((w.alloc (.cells #[.int .i64 1, .bool s, .int .u64 M, .int .i64 E] 24)).alloc (.cells #[.int .i64 0, .bool false, .int .u64 0, .int .i64 0] 24)) = w1 at *
  clear hW1
  have xX10 := X1.at (i := 0) (v := .int .i64 1) rfl
  have xX11 := X1.at (i := 1) (v := .bool s) rfl
  have xX12 := X1.at (i := 2) (v := .int .u64 M) rfl
  have xX13 := X1.at (i := 3) (v := .int .i64 E) rfl
  go_upto_region 3 with (fail)
  clear xX10 xX11 xX12 xX13
  refine Jo.region_joint (T := [0, 1, 2, 3, 4]) (ds := [some 9, some 10, some 11, some 12, some 13]) (ls := [[], [], [1], [2], [0, 3]]) (k := 5) (L := [(some 9, 0), (some 10, 1), (some 11, 2), (some 12, 3), (some 13, 4)]) (fuel := 0) (J := fun wj => Below (World.heap w1).size w1 wj)
    (F := [Jo.Fact.eq (.agg #[.int .i64 1, .bool s, .int .u64 M, .int .i64 E]), Jo.Fact.eq (.pointer (some ⟨w.heap.size, 1, none⟩)), Jo.Fact.eq (.bool s), Jo.Fact.eq (.agg #[.int .i64 1, .bool s, .int .u64 9223372036854775808, .int .i64 (-1048576)]), Jo.Fact.eq (.bool false)])
    (by kernel_rfl) (by kernel_rfl) (by decide) rfl rfl (fun _ _ h b => bt h b) ((Below.refl _ _).drew) ?_ (fun vs w2 hJ hd => ?_)
  · refine Jo.jcons (i := 0) (o := ⟨some 9, _, _, _, _, _⟩) (di := some 9) (L := []) (f := Jo.Fact.eq (.agg #[.int .i64 1, .bool s, .int .u64 M, .int .i64 E])) rfl rfl rfl rfl (fun vs wj hJ hd K hK => ?_) ?_
    · clear hd
      simp only [Jo.putl, Jo.ze, Act.put, Jo.za, Jo.zb, Jo.zc] at hK ⊢
      have xX10 : World.cell? wj ⟨w.heap.size, 0, none⟩ = some (.int .i64 1) := (X1.below hJ).cell 0
      have xX11 : World.cell? wj ⟨w.heap.size, 1, none⟩ = some (.bool s) := (X1.below hJ).cell 1
      have xX12 : World.cell? wj ⟨w.heap.size, 2, none⟩ = some (.int .u64 M) := (X1.below hJ).cell 2
      have xX13 : World.cell? wj ⟨w.heap.size, 3, none⟩ = some (.int .i64 E) := (X1.below hJ).cell 3
      go_simp
      exact hK.out _ _ rfl (Below.refl _ _)
    refine Jo.jcons (i := 1) (o := ⟨some 10, _, _, _, _, _⟩) (di := some 10) (L := []) (f := Jo.Fact.eq (.pointer (some ⟨w.heap.size, 1, none⟩))) rfl rfl rfl rfl (fun vs wj hJ hd K hK => ?_) ?_
    · clear hd
      simp only [Jo.putl, Jo.ze, Act.put, Jo.za, Jo.zb, Jo.zc] at hK ⊢
      go_simp
      exact hK.out _ _ rfl (Below.refl _ _)
    refine Jo.jcons (i := 2) (o := ⟨some 11, _, _, _, _, _⟩) (di := some 11) (L := [(some 10, 1)]) (f := Jo.Fact.eq (.bool s)) rfl rfl rfl rfl (fun vs wj hJ hd K hK => ?_) ?_
    · have d1 : (Jo.Fact.eq (.pointer (some ⟨w.heap.size, 1, none⟩))).P (vs 1) wj := hd 1 (by decide)
      clear hd
      simp only [Jo.putl, Jo.zd, Jo.ze, Act.put, Jo.za, Jo.zb, Jo.zc] at hK ⊢
      generalize vs 1 = u1 at hK d1 ⊢
      replace d1 : u1 = _ := d1
      subst d1
      have xX10 : World.cell? wj ⟨w.heap.size, 0, none⟩ = some (.int .i64 1) := (X1.below hJ).cell 0
      have xX11 : World.cell? wj ⟨w.heap.size, 1, none⟩ = some (.bool s) := (X1.below hJ).cell 1
      have xX12 : World.cell? wj ⟨w.heap.size, 2, none⟩ = some (.int .u64 M) := (X1.below hJ).cell 2
      have xX13 : World.cell? wj ⟨w.heap.size, 3, none⟩ = some (.int .i64 E) := (X1.below hJ).cell 3
      go_simp
      exact hK.out _ _ rfl (Below.refl _ _)
    refine Jo.jcons (i := 3) (o := ⟨some 12, _, _, _, _, _⟩) (di := some 12) (L := [(some 11, 2)]) (f := Jo.Fact.eq (.agg #[.int .i64 1, .bool s, .int .u64 9223372036854775808, .int .i64 (-1048576)])) rfl rfl rfl rfl (fun vs wj hJ hd K hK => ?_) ?_
    · have d2 : (Jo.Fact.eq (.bool s)).P (vs 2) wj := hd 2 (by decide)
      clear hd
      simp only [Jo.putl, Jo.zd, Jo.ze, Act.put, Jo.za, Jo.zb, Jo.zc] at hK ⊢
      generalize vs 2 = u2 at hK d2 ⊢
      replace d2 : u2 = _ := d2
      subst d2
      go_simp
      refine (nT).mono ?_
      rintro ee wk ⟨rfl, B⟩
      exact hK.out _ _ rfl B
    refine Jo.jcons (i := 4) (o := ⟨some 13, _, _, _, _, _⟩) (di := some 13) (L := [(some 9, 0), (some 12, 3)]) (f := Jo.Fact.eq (.bool false)) rfl rfl rfl rfl (fun vs wj hJ hd K hK => ?_) ?_
    · have d0 : (Jo.Fact.eq (.agg #[.int .i64 1, .bool s, .int .u64 M, .int .i64 E])).P (vs 0) wj := hd 0 (by decide)
      have d3 : (Jo.Fact.eq (.agg #[.int .i64 1, .bool s, .int .u64 9223372036854775808, .int .i64 (-1048576)])).P (vs 3) wj := hd 3 (by decide)
      clear hd
      simp only [Jo.putl, Jo.zd, Jo.ze, Act.put, Jo.za, Jo.zb, Jo.zc] at hK ⊢
      generalize vs 0 = u0 at hK d0 ⊢
      generalize vs 3 = u3 at hK d3 ⊢
      replace d0 : u0 = _ := d0
      subst d0
      replace d3 : u3 = _ := d3
      subst d3
      go_simp
      exact hK.out _ _ (by first | rfl | (show Value.bool _ = Value.bool _; simp [hq])) (Below.refl _ _)
    exact Jo.Steps.nil
  have d0 : (Jo.Fact.eq (.agg #[.int .i64 1, .bool s, .int .u64 M, .int .i64 E])).P (vs 0) w2 := hd 0 (by decide)
  have d1 : (Jo.Fact.eq (.pointer (some ⟨w.heap.size, 1, none⟩))).P (vs 1) w2 := hd 1 (by decide)
  have d2 : (Jo.Fact.eq (.bool s)).P (vs 2) w2 := hd 2 (by decide)
  have d3 : (Jo.Fact.eq (.agg #[.int .i64 1, .bool s, .int .u64 9223372036854775808, .int .i64 (-1048576)])).P (vs 3) w2 := hd 3 (by decide)
  have d4 : (Jo.Fact.eq (.bool false)).P (vs 4) w2 := hd 4 (by decide)
  clear hd
  simp only [Jo.putl, Jo.zd, Jo.ze, Act.put, Jo.za, Jo.zb, Jo.zc]
  generalize vs 0 = u0 at d0 ⊢
  generalize vs 1 = u1 at d1 ⊢
  generalize vs 2 = u2 at d2 ⊢
  generalize vs 3 = u3 at d3 ⊢
  generalize vs 4 = u4 at d4 ⊢
  clear vs
  replace d0 : u0 = _ := d0
  subst d0
  replace d1 : u1 = _ := d1
  subst d1
  replace d2 : u2 = _ := d2
  subst d2
  replace d3 : u3 = _ := d3
  subst d3
  replace d4 : u4 = _ := d4
  subst d4
  replace X1 := X1.below hJ
  replace XR := XR.below hJ
  replace HB := Lib.hid (bt HB.out hJ)
  refine Jo.jdone (by kernel_rfl) ?_
  have xX10 := X1.at (i := 0) (v := .int .i64 1) rfl
  have zX10 := X1.frozen 0
  have xX11 := X1.at (i := 1) (v := .bool s) rfl
  have zX11 := X1.frozen 1
  have xX12 := X1.at (i := 2) (v := .int .u64 M) rfl
  have zX12 := X1.frozen 2
  have xX13 := X1.at (i := 3) (v := .int .i64 E) rfl
  have zX13 := X1.frozen 3
  have hw := HW.out
  go_upto_region 10 with (fail)
  clear hw
  clear xX10 zX10 xX11 zX11 xX12 zX12 xX13 zX13
  have SX : StN w2 (World.setCell w2 ⟨w.heap.size, 2, none⟩ (.int .u64 (M - 1))) _ _ #[.int .i64 1, .bool s, .int .u64 (M - 1), .int .i64 E] _ := StN.at4 X1 2 (.int .u64 (M - 1))
  replace XR := XR.stn SX (by omega)
  replace HB := Lib.hid (SX.below HB.out (by omega))
  replace X1 := SX.box
  clear SX
  generalize World.setCell w2 ⟨w.heap.size, 2, none⟩ (.int .u64 (M - 1)) = w3 at *
  have xXR0 := XR.at (i := 0) (v := .int .i64 0) rfl
  have zXR0 := XR.frozen 0
  have xXR1 := XR.at (i := 1) (v := .bool false) rfl
  have zXR1 := XR.frozen 1
  have xXR2 := XR.at (i := 2) (v := .int .u64 0) rfl
  have zXR2 := XR.frozen 2
  have xXR3 := XR.at (i := 3) (v := .int .i64 0) rfl
  have zXR3 := XR.frozen 3
  have xX10 := X1.at (i := 0) (v := .int .i64 1) rfl
  have xX11 := X1.at (i := 1) (v := .bool s) rfl
  have xX12 := X1.at (i := 2) (v := .int .u64 (M - 1)) rfl
  have xX13 := X1.at (i := 3) (v := .int .i64 E) rfl
  go_wp2
  clear xXR0 zXR0 xXR1 zXR1 xXR2 zXR2 xXR3 zXR3 xX10 xX11 xX12 xX13
  have SX := StN.mk4 XR (.int .i64 1) (.bool s) (.int .u64 (M - 1)) (.int .i64 E)
  replace X1 := X1.stn SX (by omega)
  replace HB := Lib.hid (SX.below HB.out (by omega))
  replace XR := SX.box
  clear SX
  generalize (World.setCell (World.setCell (World.setCell (World.setCell w3 ⟨w.heap.size + 1, 0, none⟩ (.int .i64 1)) ⟨w.heap.size + 1, 1, none⟩ (.bool s)) ⟨w.heap.size + 1, 2, none⟩ (.int .u64 (M - 1))) ⟨w.heap.size + 1, 3, none⟩ (.int .i64 E)) = w4 at *
  have r0 := XR.cell 0
  have r1 := XR.cell 1
  have r2 := XR.cell 2
  have r3 := XR.cell 3
  exact bodyPost_ret (v := .agg #[.int .i64 1, .bool s, .int .u64 (M - 1), .int .i64 E]) (by simp [results, Tryd.results41, go_sem, r0, r1, r2, r3]) rfl ⟨_, _, _, _, rfl, hF, HB.out⟩
theorem nIn {w : World} {D : Int} {s : Bool} {M E x r : Int} (q : Fq D s M E x) (h0 : D ≠ 0) (hr : nx s x = r) : Calls Tryd.prog 41 #[.agg #[.int .i64 D, .bool s, .int .u64 M, .int .i64 E]] w (PN w r) := by
  rw [nx_in q h0] at hr
  have := TP_eq
  rcases q.plc h0 with ⟨rfl, h1, h2, h3, h4, h5⟩ | ⟨rfl, rfl, rfl, h5⟩ <;> rw [h5] at hr
  · by_cases hm : M = 9223372036854775808
    · subst hm
      by_cases he : E = -1048576
      · subst he
        refine nIn_tiny (hr ▸ ?_)
        cases s <;> rfl
      · refine nIn_carry (Fq.fin (by decide) (by decide) (by omega) (by omega) ?_) (by omega) h4
        rw [← hr]
        congr 1
        omega
    · refine nIn_less (Fq.fin (by omega) (by omega) h3 h4 ?_) (by omega) (by omega)
      rw [← hr]
      congr 1
      omega
  · refine nIn_inf (Fq.fin (by decide) (by decide) (by decide) (by decide) ?_)
    rw [← hr]
    rfl
set_option maxHeartbeats 4000000 in
theorem nNext {w : World} {D M E : Int} {s : Bool} {up : Bool} {r : Int} (hM : M < 18446744073709551616) (hr : nx up (rk D s M E) = r) : Calls Tryd.prog 14 #[.agg #[.int .i64 D, .bool s, .int .u64 M, .int .i64 E], .bool up] w (PN w r) := by
  obtain ⟨x, hx⟩ : ∃ x, rk D s M E = x := ⟨_, rfl⟩
  rw [hx] at hr
  have HX := Lib.hid hx
  have HR := Lib.hid hr
  clear hx hr
  go_enter Tryd.func14, Tryd.ntmps14
  go_upto_region 1 with (fail)
  have X1 := (Bo.newAt w (g := w.heap.size) (by simp) #[.int .i64 D, .bool s, .int .u64 M, .int .i64 E] 24).below (bel1 _ (.cells #[.int .i64 0, .bool false, .int .u64 0, .int .i64 0] 24))
  have XR := (Bo.newAt (w.alloc (.cells #[.int .i64 D, .bool s, .int .u64 M, .int .i64 E] 24)) (g := w.heap.size + 1) (by simp) #[.int .i64 0, .bool false, .int .u64 0, .int .i64 0] 24)
  have HB := Lib.hid (bel2 w (.cells #[.int .i64 D, .bool s, .int .u64 M, .int .i64 E] 24) (.cells #[.int .i64 0, .bool false, .int .u64 0, .int .i64 0] 24))
  generalize hW1 : ((w.alloc (.cells #[.int .i64 D, .bool s, .int .u64 M, .int .i64 E] 24)).alloc (.cells #[.int .i64 0, .bool false, .int .u64 0, .int .i64 0] 24)) = w1 at *
  clear hW1
  have xX10 := X1.at (i := 0) (v := .int .i64 D) rfl
  have xX11 := X1.at (i := 1) (v := .bool s) rfl
  have xX12 := X1.at (i := 2) (v := .int .u64 M) rfl
  have xX13 := X1.at (i := 3) (v := .int .i64 E) rfl
  go_wp2_with fail
  refine (nTaken hM HX.out).mono ?_
  rintro ee w2 ⟨K1, s1, M1, E1, rfl, q1, B⟩
  clear xX10 xX11 xX12 xX13
  replace X1 := X1.below B
  replace XR := XR.below B
  replace HB := Lib.hid (bt HB.out B)
  clear B
  have xX10 := X1.at (i := 0) (v := .int .i64 D) rfl
  have zX10 := X1.frozen 0
  have xX11 := X1.at (i := 1) (v := .bool s) rfl
  have zX11 := X1.frozen 1
  have xX12 := X1.at (i := 2) (v := .int .u64 M) rfl
  have zX12 := X1.frozen 2
  have xX13 := X1.at (i := 3) (v := .int .i64 E) rfl
  have zX13 := X1.frozen 3
  go_upto_region 2 with (fail)
  clear xX10 zX10 xX11 zX11 xX12 zX12 xX13 zX13
  have SX := StN.mk4 X1 (.int .i64 K1) (.bool s1) (.int .u64 M1) (.int .i64 E1)
  replace XR := XR.stn SX (by omega)
  replace HB := Lib.hid (SX.below HB.out (by omega))
  replace X1 := SX.box
  clear SX
  generalize (World.setCell (World.setCell (World.setCell (World.setCell w2 ⟨w.heap.size, 0, none⟩ (.int .i64 K1)) ⟨w.heap.size, 1, none⟩ (.bool s1)) ⟨w.heap.size, 2, none⟩ (.int .u64 M1)) ⟨w.heap.size, 3, none⟩ (.int .i64 E1)) = w3 at *
  by_cases h0 : K1 = 0
  · subst h0
    have hz := q1.zero_iff.1 rfl
    subst hz
    have hF : Fq 1 (!up) 9223372036854775808 (-1048576) r := Fq.fin (by decide) (by decide) (by decide) (by decide) (by rw [← HR.out]; cases up <;> rfl)
    clear q1
    have xX10 := X1.at (i := 0) (v := .int .i64 0) rfl
    have xX11 := X1.at (i := 1) (v := .bool s1) rfl
    have xX12 := X1.at (i := 2) (v := .int .u64 M1) rfl
    have xX13 := X1.at (i := 3) (v := .int .i64 E1) rfl
    go_wp2_with fail
    refine (nT).mono ?_
    rintro ee w4 ⟨rfl, B⟩
    clear xX10 xX11 xX12 xX13
    replace X1 := X1.below B
    replace XR := XR.below B
    replace HB := Lib.hid (bt HB.out B)
    clear B
    have xXR0 := XR.at (i := 0) (v := .int .i64 0) rfl
    have zXR0 := XR.frozen 0
    have xXR1 := XR.at (i := 1) (v := .bool false) rfl
    have zXR1 := XR.frozen 1
    have xXR2 := XR.at (i := 2) (v := .int .u64 0) rfl
    have zXR2 := XR.frozen 2
    have xXR3 := XR.at (i := 3) (v := .int .i64 0) rfl
    have zXR3 := XR.frozen 3
    have xX10 := X1.at (i := 0) (v := .int .i64 0) rfl
    have xX11 := X1.at (i := 1) (v := .bool s1) rfl
    have xX12 := X1.at (i := 2) (v := .int .u64 M1) rfl
    have xX13 := X1.at (i := 3) (v := .int .i64 E1) rfl
    go_wp2
    clear xXR0 zXR0 xXR1 zXR1 xXR2 zXR2 xXR3 zXR3 xX10 xX11 xX12 xX13
    have SX := StN.mk4 XR (.int .i64 1) (.bool (!up)) (.int .u64 9223372036854775808) (.int .i64 (-1048576))
    replace X1 := X1.stn SX (by omega)
    replace HB := Lib.hid (SX.below HB.out (by omega))
    replace XR := SX.box
    clear SX
    generalize (World.setCell (World.setCell (World.setCell (World.setCell w4 ⟨w.heap.size + 1, 0, none⟩ (.int .i64 1)) ⟨w.heap.size + 1, 1, none⟩ (.bool (!up))) ⟨w.heap.size + 1, 2, none⟩ (.int .u64 9223372036854775808)) ⟨w.heap.size + 1, 3, none⟩ (.int .i64 (-1048576))) = w5 at *
    have r0 := XR.cell 0
    have r1 := XR.cell 1
    have r2 := XR.cell 2
    have r3 := XR.cell 3
    exact bodyPost_ret (v := .agg #[.int .i64 1, .bool (!up), .int .u64 9223372036854775808, .int .i64 (-1048576)]) (by simp [results, Tryd.results14, go_sem, r0, r1, r2, r3]) rfl ⟨_, _, _, _, rfl, hF, HB.out⟩
  · have e0 : (K1 == 0) = false := by simpa using h0
    by_cases hs : s1 = up
    · subst hs
      have xX10 := X1.at (i := 0) (v := .int .i64 K1) rfl
      have xX11 := X1.at (i := 1) (v := .bool s1) rfl
      have xX12 := X1.at (i := 2) (v := .int .u64 M1) rfl
      have xX13 := X1.at (i := 3) (v := .int .i64 E1) rfl
      go_wp2_with fail
      refine (nIn q1 h0 HR.out).mono ?_
      rintro ee w4 ⟨K2, s2, M2, E2, rfl, q2, B⟩
      clear xX10 xX11 xX12 xX13
      replace X1 := X1.below B
      replace XR := XR.below B
      replace HB := Lib.hid (bt HB.out B)
      clear B
      have xXR0 := XR.at (i := 0) (v := .int .i64 0) rfl
      have zXR0 := XR.frozen 0
      have xXR1 := XR.at (i := 1) (v := .bool false) rfl
      have zXR1 := XR.frozen 1
      have xXR2 := XR.at (i := 2) (v := .int .u64 0) rfl
      have zXR2 := XR.frozen 2
      have xXR3 := XR.at (i := 3) (v := .int .i64 0) rfl
      have zXR3 := XR.frozen 3
      have xX10 := X1.at (i := 0) (v := .int .i64 K1) rfl
      have xX11 := X1.at (i := 1) (v := .bool s1) rfl
      have xX12 := X1.at (i := 2) (v := .int .u64 M1) rfl
      have xX13 := X1.at (i := 3) (v := .int .i64 E1) rfl
      go_wp2
      clear xXR0 zXR0 xXR1 zXR1 xXR2 zXR2 xXR3 zXR3 xX10 xX11 xX12 xX13
      have SX := StN.mk4 XR (.int .i64 K2) (.bool s2) (.int .u64 M2) (.int .i64 E2)
      replace X1 := X1.stn SX (by omega)
      replace HB := Lib.hid (SX.below HB.out (by omega))
      replace XR := SX.box
      clear SX
      generalize (World.setCell (World.setCell (World.setCell (World.setCell w4 ⟨w.heap.size + 1, 0, none⟩ (.int .i64 K2)) ⟨w.heap.size + 1, 1, none⟩ (.bool s2)) ⟨w.heap.size + 1, 2, none⟩ (.int .u64 M2)) ⟨w.heap.size + 1, 3, none⟩ (.int .i64 E2)) = w5 at *
      have r0 := XR.cell 0
      have r1 := XR.cell 1
      have r2 := XR.cell 2
      have r3 := XR.cell 3
      exact bodyPost_ret (v := .agg #[.int .i64 K2, .bool s2, .int .u64 M2, .int .i64 E2]) (by simp [results, Tryd.results14, go_sem, r0, r1, r2, r3]) rfl ⟨_, _, _, _, rfl, q2, HB.out⟩
    · obtain rfl : (!s1) = up := by cases s1 <;> cases up <;> first | rfl | exact absurd rfl hs
      clear hs
      have e2 : (s1 == !s1) = false := by cases s1 <;> rfl
      have xX10 := X1.at (i := 0) (v := .int .i64 K1) rfl
      have xX11 := X1.at (i := 1) (v := .bool s1) rfl
      have xX12 := X1.at (i := 2) (v := .int .u64 M1) rfl
      have xX13 := X1.at (i := 3) (v := .int .i64 E1) rfl
      go_wp2_with fail
      refine (nOut q1 h0 HR.out).mono ?_
      rintro ee w4 ⟨K2, s2, M2, E2, rfl, q2, B⟩
      clear xX10 xX11 xX12 xX13
      replace X1 := X1.below B
      replace XR := XR.below B
      replace HB := Lib.hid (bt HB.out B)
      clear B
      have xXR0 := XR.at (i := 0) (v := .int .i64 0) rfl
      have zXR0 := XR.frozen 0
      have xXR1 := XR.at (i := 1) (v := .bool false) rfl
      have zXR1 := XR.frozen 1
      have xXR2 := XR.at (i := 2) (v := .int .u64 0) rfl
      have zXR2 := XR.frozen 2
      have xXR3 := XR.at (i := 3) (v := .int .i64 0) rfl
      have zXR3 := XR.frozen 3
      have xX10 := X1.at (i := 0) (v := .int .i64 K1) rfl
      have xX11 := X1.at (i := 1) (v := .bool s1) rfl
      have xX12 := X1.at (i := 2) (v := .int .u64 M1) rfl
      have xX13 := X1.at (i := 3) (v := .int .i64 E1) rfl
      go_wp2
      clear xXR0 zXR0 xXR1 zXR1 xXR2 zXR2 xXR3 zXR3 xX10 xX11 xX12 xX13
      have SX := StN.mk4 XR (.int .i64 K2) (.bool s2) (.int .u64 M2) (.int .i64 E2)
      replace X1 := X1.stn SX (by omega)
      replace HB := Lib.hid (SX.below HB.out (by omega))
      replace XR := SX.box
      clear SX
      generalize (World.setCell (World.setCell (World.setCell (World.setCell w4 ⟨w.heap.size + 1, 0, none⟩ (.int .i64 K2)) ⟨w.heap.size + 1, 1, none⟩ (.bool s2)) ⟨w.heap.size + 1, 2, none⟩ (.int .u64 M2)) ⟨w.heap.size + 1, 3, none⟩ (.int .i64 E2)) = w5 at *
      have r0 := XR.cell 0
      have r1 := XR.cell 1
      have r2 := XR.cell 2
      have r3 := XR.cell 3
      exact bodyPost_ret (v := .agg #[.int .i64 K2, .bool s2, .int .u64 M2, .int .i64 E2]) (by simp [results, Tryd.results14, go_sem, r0, r1, r2, r3]) rfl ⟨_, _, _, _, rfl, q2, HB.out⟩
end Go.Proofs.YtpmakljahhhnfaaDoor

/-
  What the document's finite and Next do.
-/
namespace Go.Proofs.YtpmakljahhhnfaaDoor
open Go.RowKit
set_option linter.unusedVariables false
set_option linter.unusedSimpArgs false
set_option maxRecDepth 100000

/-- The place of a number of a sign, 64 bits and an exponent, as far as it may be. -/
def fin (s : Bool) (M E : Int) (aw : Bool) : Int := sgi s (if 1048576 < E then (if aw = true then TP else TP - 1) else if E < -1048576 then (if aw = true then 1 else 0) else M - 9223372036854775808 + 1 + (E + 1048576) * 9223372036854775808)
end Go.Proofs.YtpmakljahhhnfaaDoor

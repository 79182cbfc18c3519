/-
  The walk of NumRounds: for all arguments, where the table lies as it was laid, the call answers true, and nothing that was there has turned.
-/
import Derived.Test.YthibemmhgdbiiaaDoorZay
import Derived.Test.YthibemmhgdbiiaaDoorZba
namespace Go.Proofs.YthibemmhgdbiiaaDoor
open Go.RowKit
set_option linter.unusedVariables false
set_option linter.unusedSimpArgs false
set_option maxRecDepth 100000

set_option maxHeartbeats 8000000 in
theorem numRounds_far (s0 : Bool) (a0 : Option Addr) (len0 cap0 : Nat) (e0 : Int) (b1 : Bool) (w : World) (hT : Tab w) (hn : 20 < len0) (hb : len0 ≤ 9223372036854775807) :
    Calls Tryd.prog 3 #[.agg #[.bool s0, .slice a0 len0 cap0, .int .i64 e0], .bool b1] w (PB w true) := by
  go_enter Tryd.func3, Tryd.ntmps3
  go_upto_region 1 with (fail)
  have X0 := (Bo.newAt w (g := w.heap.size) (by simp) #[.bool s0, .slice a0 len0 cap0, .int .i64 e0] 26)
  have HB := Lib.hid (bel1 w (.cells #[.bool s0, .slice a0 len0 cap0, .int .i64 e0] 26))
  replace hT := hT.below HB.out
  generalize hW1 : (w.alloc (.cells #[.bool s0, .slice a0 len0 cap0, .int .i64 e0] 26)) = w1 at *
  clear hW1
  go_wp2_with fail
  refine (awake5 _ hT).mono ?_
  rintro ee w2 ⟨rfl, B⟩
  replace X0 := X0.below B
  replace hT := hT.below B
  replace HB := Lib.hid (bt HB.out B)
  clear B
  have xX00 := X0.at (i := 0) (v := .bool s0) rfl
  have xX01 := X0.at (i := 1) (v := .slice a0 len0 cap0) rfl
  have xX02 := X0.at (i := 2) (v := .int .i64 e0) rfl
  go_wp2
  go_ret
  exact ⟨rfl, HB.out⟩
set_option maxHeartbeats 8000000 in
theorem numRounds_main (s0 : Bool) (a0 : Option Addr) (len0 cap0 : Nat) (e0 : Int) (b1 : Bool) (w : World) (z : Int) (hT : Tab w) (h0 : Wr w s0 a0 len0 cap0 z) (hn : len0 ≤ 20) :
    Calls Tryd.prog 3 #[.agg #[.bool s0, .slice a0 len0 cap0, .int .i64 e0], .bool b1] w (PB w true) := by
  obtain ⟨N, hN⟩ : ∃ N, (mk z e0).1 = N := ⟨_, rfl⟩
  obtain ⟨F, hF⟩ : ∃ F, (mk z e0).2 = F := ⟨_, rfl⟩
  obtain ⟨r, hr⟩ : ∃ r, rnd b1 N F = r := ⟨_, rfl⟩
  have HN := Lib.hid hN
  have HF := Lib.hid hF
  have HR := Lib.hid hr
  clear hN hF hr
  go_enter Tryd.func3, Tryd.ntmps3
  go_upto_region 1 with (fail)
  have X0 := (Bo.newAt w (g := w.heap.size) (by simp) #[.bool s0, .slice a0 len0 cap0, .int .i64 e0] 26)
  have HB := Lib.hid (bel1 w (.cells #[.bool s0, .slice a0 len0 cap0, .int .i64 e0] 26))
  replace hT := hT.below HB.out
  replace h0 := h0.below HB.out
  generalize hW1 : (w.alloc (.cells #[.bool s0, .slice a0 len0 cap0, .int .i64 e0] 26)) = w1 at *
  clear hW1
  go_wp2_with fail
  refine (awake5 _ hT).mono ?_
  rintro ee w2 ⟨rfl, B⟩
  replace X0 := X0.below B
  replace hT := hT.below B
  replace h0 := h0.below B
  replace HB := Lib.hid (bt HB.out B)
  clear B
  have xX00 := X0.at (i := 0) (v := .bool s0) rfl
  have xX01 := X0.at (i := 1) (v := .slice a0 len0 cap0) rfl
  have xX02 := X0.at (i := 2) (v := .int .i64 e0) rfl
  go_wp2_with fail
  refine (nRound hT h0 (by omega) HN.out HF.out HR.out).mono ?_
  rintro ee w3 ⟨K1, s1, M1, E1, rfl, q1, B⟩
  clear xX00 xX01 xX02
  replace X0 := X0.below B
  replace hT := hT.below B
  replace h0 := h0.below B
  replace HB := Lib.hid (bt HB.out B)
  clear B
  go_upto_region 5 with (fail)
  have lX6 := Nat.le_refl (World.heap w3).size
  have nX6X0 := X0.lt
  replace X0 := X0.below (bel1 _ (.cells #[.int .i64 K1, .bool s1, .int .u64 M1, .int .i64 E1] 30))
  replace hT := hT.below (bel1 _ (.cells #[.int .i64 K1, .bool s1, .int .u64 M1, .int .i64 E1] 30))
  replace h0 := h0.below (bel1 _ (.cells #[.int .i64 K1, .bool s1, .int .u64 M1, .int .i64 E1] 30))
  replace HB := Lib.hid (bt HB.out (bel1 _ (.cells #[.int .i64 K1, .bool s1, .int .u64 M1, .int .i64 E1] 30)))
  have X6 := Bo.new w3 #[.int .i64 K1, .bool s1, .int .u64 M1, .int .i64 E1] 30
  generalize hWn : World.alloc w3 (.cells #[.int .i64 K1, .bool s1, .int .u64 M1, .int .i64 E1] 30) = w4 at *
  clear hWn
  clear lX6
  refine Jo.region_joint (T := [0, 1, 2, 3, 4, 5, 6, 7, 8, 9]) (ds := [some 21, some 22, some 23, some 24, some 25, some 26, some 27, some 28, some 29, some 4]) (ls := [[], [], [], [1, 2], [0, 3], [4], [5], [5, 6], [5, 7], [8]]) (k := 10) (L := [(some 21, 0), (some 22, 1), (some 23, 2), (some 24, 3), (some 25, 4), (some 26, 5), (some 27, 6), (some 28, 7), (some 29, 8), (some 4, 9)]) (fuel := 0) (J := fun wj => Below (World.heap w4).size w4 wj)
    (F := [Jo.Fact.eq (.agg #[.int .i64 K1, .bool s1, .int .u64 M1, .int .i64 E1]), Jo.Fact.eq (.agg #[.bool s0, .slice a0 len0 cap0, .int .i64 e0]), Jo.Fact.eq (.bool b1), Jo.Fact.num r, Jo.Fact.eq (.bool true), Jo.Fact.eq (.bool true), Jo.Fact.eq (.agg #[.int .i64 K1, .bool s1, .int .u64 M1, .int .i64 E1]), Jo.Fact.eq (.bool true), Jo.Fact.eq (.bool true), Jo.Fact.eq (.bool true)])
    (by kernel_rfl) (by kernel_rfl) (by decide) rfl rfl (fun _ _ h b => bt h b) ((Below.refl _ _).drew) ?_ (fun vs w5 hJ hd => ?_)
  · refine Jo.jcons (i := 0) (o := ⟨some 21, _, _, _, _, _⟩) (di := some 21) (L := []) (f := Jo.Fact.eq (.agg #[.int .i64 K1, .bool s1, .int .u64 M1, .int .i64 E1])) rfl rfl rfl rfl (fun vs wj hJ hd K hK => ?_) ?_
    · clear hd
      simp only [Jo.putl, List.foldl_nil, Act.put, List.setIfInBounds_toArray, List.set_cons_zero, List.set_cons_succ] at hK ⊢
      have xX60 : World.cell? wj ⟨w3.heap.size, 0, none⟩ = some (.int .i64 K1) := (X6.below hJ).cell 0
      have xX61 : World.cell? wj ⟨w3.heap.size, 1, none⟩ = some (.bool s1) := (X6.below hJ).cell 1
      have xX62 : World.cell? wj ⟨w3.heap.size, 2, none⟩ = some (.int .u64 M1) := (X6.below hJ).cell 2
      have xX63 : World.cell? wj ⟨w3.heap.size, 3, none⟩ = some (.int .i64 E1) := (X6.below hJ).cell 3
      go_simp
      exact hK.out _ _ rfl (Below.refl _ _)
    refine Jo.jcons (i := 1) (o := ⟨some 22, _, _, _, _, _⟩) (di := some 22) (L := []) (f := Jo.Fact.eq (.agg #[.bool s0, .slice a0 len0 cap0, .int .i64 e0])) rfl rfl rfl rfl (fun vs wj hJ hd K hK => ?_) ?_
    · clear hd
      simp only [Jo.putl, List.foldl_nil, Act.put, List.setIfInBounds_toArray, List.set_cons_zero, List.set_cons_succ] at hK ⊢
      have xX00 : World.cell? wj ⟨w.heap.size, 0, none⟩ = some (.bool s0) := (X0.below hJ).cell 0
      have xX01 : World.cell? wj ⟨w.heap.size, 1, none⟩ = some (.slice a0 len0 cap0) := (X0.below hJ).cell 1
      have xX02 : World.cell? wj ⟨w.heap.size, 2, none⟩ = some (.int .i64 e0) := (X0.below hJ).cell 2
      go_simp
      exact hK.out _ _ rfl (Below.refl _ _)
    refine Jo.jcons (i := 2) (o := ⟨some 23, _, _, _, _, _⟩) (di := some 23) (L := []) (f := Jo.Fact.eq (.bool b1)) rfl rfl rfl rfl (fun vs wj hJ hd K hK => ?_) ?_
    · clear hd
      simp only [Jo.putl, List.foldl_nil, Act.put, List.setIfInBounds_toArray, List.set_cons_zero, List.set_cons_succ] at hK ⊢
      go_simp
      exact hK.out _ _ rfl (Below.refl _ _)
    refine Jo.jcons (i := 3) (o := ⟨some 24, _, _, _, _, _⟩) (di := some 24) (L := [(some 22, 1), (some 23, 2)]) (f := Jo.Fact.num r) rfl rfl rfl rfl (fun vs wj hJ hd K hK => ?_) ?_
    · have d1 : (Jo.Fact.eq (.agg #[.bool s0, .slice a0 len0 cap0, .int .i64 e0])).P (vs 1) wj := hd 1 (by decide)
      have d2 : (Jo.Fact.eq (.bool b1)).P (vs 2) wj := hd 2 (by decide)
      clear hd
      simp only [Jo.putl, List.foldl_cons, List.foldl_nil, Act.put, List.setIfInBounds_toArray, List.set_cons_zero, List.set_cons_succ] at hK ⊢
      generalize vs 1 = u1 at hK d1 ⊢
      generalize vs 2 = u2 at hK d2 ⊢
      replace d1 : u1 = _ := d1
      subst d1
      replace d2 : u2 = _ := d2
      subst d2
      go_simp
      refine (yRound (h0.below hJ) (by omega) HN.out HF.out HR.out).mono ?_
      rintro ee wk ⟨K4, s4, M4, E4, rfl, q4, B⟩
      exact hK.out _ _ ⟨K4, s4, M4, E4, rfl, q4⟩ B
    refine Jo.jcons (i := 4) (o := ⟨some 25, _, _, _, _, _⟩) (di := some 25) (L := [(some 21, 0), (some 24, 3)]) (f := Jo.Fact.eq (.bool true)) rfl rfl rfl rfl (fun vs wj hJ hd K hK => ?_) ?_
    · have d0 : (Jo.Fact.eq (.agg #[.int .i64 K1, .bool s1, .int .u64 M1, .int .i64 E1])).P (vs 0) wj := hd 0 (by decide)
      have d3 : (Jo.Fact.num r).P (vs 3) wj := hd 3 (by decide)
      clear hd
      simp only [Jo.putl, List.foldl_cons, List.foldl_nil, Act.put, List.setIfInBounds_toArray, List.set_cons_zero, List.set_cons_succ] at hK ⊢
      generalize vs 0 = u0 at hK d0 ⊢
      generalize vs 3 = u3 at hK d3 ⊢
      replace d0 : u0 = _ := d0
      subst d0
      obtain ⟨K4, s4, M4, E4, rfl, q4⟩ := d3
      obtain ⟨rfl, rfl, rfl, rfl⟩ := q1.uniq q4
      go_simp
      exact hK.out _ _ (by first | rfl | (show Value.bool _ = Value.bool _; simp)) (Below.refl _ _)
    refine Jo.jcons (i := 5) (o := ⟨some 26, _, _, _, _, _⟩) (di := some 26) (L := [(some 25, 4)]) (f := Jo.Fact.eq (.bool true)) rfl rfl rfl rfl (fun vs wj hJ hd K hK => ?_) ?_
    · have d4 : (Jo.Fact.eq (.bool true)).P (vs 4) wj := hd 4 (by decide)
      clear hd
      simp only [Jo.putl, List.foldl_cons, List.foldl_nil, Act.put, List.setIfInBounds_toArray, List.set_cons_zero, List.set_cons_succ] at hK ⊢
      generalize vs 4 = u4 at hK d4 ⊢
      replace d4 : u4 = _ := d4
      subst d4
      go_simp
      exact hK.out _ _ rfl (Below.refl _ _)
    refine Jo.jcons (i := 6) (o := ⟨some 27, _, _, _, _, _⟩) (di := some 27) (L := [(some 26, 5)]) (f := Jo.Fact.eq (.agg #[.int .i64 K1, .bool s1, .int .u64 M1, .int .i64 E1])) rfl rfl rfl rfl (fun vs wj hJ hd K hK => ?_) ?_
    · have d5 : (Jo.Fact.eq (.bool true)).P (vs 5) wj := hd 5 (by decide)
      clear hd
      simp only [Jo.putl, List.foldl_cons, List.foldl_nil, Act.put, List.setIfInBounds_toArray, List.set_cons_zero, List.set_cons_succ] at hK ⊢
      generalize vs 5 = u5 at hK d5 ⊢
      replace d5 : u5 = _ := d5
      subst d5
      have xX60 : World.cell? wj ⟨w3.heap.size, 0, none⟩ = some (.int .i64 K1) := (X6.below hJ).cell 0
      have xX61 : World.cell? wj ⟨w3.heap.size, 1, none⟩ = some (.bool s1) := (X6.below hJ).cell 1
      have xX62 : World.cell? wj ⟨w3.heap.size, 2, none⟩ = some (.int .u64 M1) := (X6.below hJ).cell 2
      have xX63 : World.cell? wj ⟨w3.heap.size, 3, none⟩ = some (.int .i64 E1) := (X6.below hJ).cell 3
      go_simp
      exact hK.out _ _ rfl (Below.refl _ _)
    refine Jo.jcons (i := 7) (o := ⟨some 28, _, _, _, _, _⟩) (di := some 28) (L := [(some 26, 5), (some 27, 6)]) (f := Jo.Fact.eq (.bool true)) rfl rfl rfl rfl (fun vs wj hJ hd K hK => ?_) ?_
    · have d5 : (Jo.Fact.eq (.bool true)).P (vs 5) wj := hd 5 (by decide)
      have d6 : (Jo.Fact.eq (.agg #[.int .i64 K1, .bool s1, .int .u64 M1, .int .i64 E1])).P (vs 6) wj := hd 6 (by decide)
      clear hd
      simp only [Jo.putl, List.foldl_cons, List.foldl_nil, Act.put, List.setIfInBounds_toArray, List.set_cons_zero, List.set_cons_succ] at hK ⊢
      generalize vs 5 = u5 at hK d5 ⊢
      generalize vs 6 = u6 at hK d6 ⊢
      replace d5 : u5 = _ := d5
      subst d5
      replace d6 : u6 = _ := d6
      subst d6
      go_simp
      refine (nMay (decide_eq_true q1.1)).mono ?_
      rintro ee wk ⟨rfl, B⟩
      exact hK.out _ _ rfl B
    refine Jo.jcons (i := 8) (o := ⟨some 29, _, _, _, _, _⟩) (di := some 29) (L := [(some 26, 5), (some 28, 7)]) (f := Jo.Fact.eq (.bool true)) rfl rfl rfl rfl (fun vs wj hJ hd K hK => ?_) ?_
    · have d5 : (Jo.Fact.eq (.bool true)).P (vs 5) wj := hd 5 (by decide)
      have d7 : (Jo.Fact.eq (.bool true)).P (vs 7) wj := hd 7 (by decide)
      clear hd
      simp only [Jo.putl, List.foldl_cons, List.foldl_nil, Act.put, List.setIfInBounds_toArray, List.set_cons_zero, List.set_cons_succ] at hK ⊢
      generalize vs 5 = u5 at hK d5 ⊢
      generalize vs 7 = u7 at hK d7 ⊢
      replace d5 : u5 = _ := d5
      subst d5
      replace d7 : u7 = _ := d7
      subst d7
      go_simp
      exact hK.out _ _ rfl (Below.refl _ _)
    refine Jo.jcons (i := 9) (o := ⟨some 4, _, _, _, _, _⟩) (di := some 4) (L := [(some 29, 8)]) (f := Jo.Fact.eq (.bool true)) rfl rfl rfl rfl (fun vs wj hJ hd K hK => ?_) ?_
    · have d8 : (Jo.Fact.eq (.bool true)).P (vs 8) wj := hd 8 (by decide)
      clear hd
      simp only [Jo.putl, List.foldl_cons, List.foldl_nil, Act.put, List.setIfInBounds_toArray, List.set_cons_zero, List.set_cons_succ] at hK ⊢
      generalize vs 8 = u8 at hK d8 ⊢
      replace d8 : u8 = _ := d8
      subst d8
      go_simp
      exact hK.out _ _ rfl (Below.refl _ _)
    exact Jo.Steps.nil
  have d0 : (Jo.Fact.eq (.agg #[.int .i64 K1, .bool s1, .int .u64 M1, .int .i64 E1])).P (vs 0) w5 := hd 0 (by decide)
  have d1 : (Jo.Fact.eq (.agg #[.bool s0, .slice a0 len0 cap0, .int .i64 e0])).P (vs 1) w5 := hd 1 (by decide)
  have d2 : (Jo.Fact.eq (.bool b1)).P (vs 2) w5 := hd 2 (by decide)
  have d3 : (Jo.Fact.num r).P (vs 3) w5 := hd 3 (by decide)
  have d4 : (Jo.Fact.eq (.bool true)).P (vs 4) w5 := hd 4 (by decide)
  have d5 : (Jo.Fact.eq (.bool true)).P (vs 5) w5 := hd 5 (by decide)
  have d6 : (Jo.Fact.eq (.agg #[.int .i64 K1, .bool s1, .int .u64 M1, .int .i64 E1])).P (vs 6) w5 := hd 6 (by decide)
  have d7 : (Jo.Fact.eq (.bool true)).P (vs 7) w5 := hd 7 (by decide)
  have d8 : (Jo.Fact.eq (.bool true)).P (vs 8) w5 := hd 8 (by decide)
  have d9 : (Jo.Fact.eq (.bool true)).P (vs 9) w5 := hd 9 (by decide)
  clear hd
  simp only [Jo.putl, List.foldl_cons, List.foldl_nil, Act.put, List.setIfInBounds_toArray, List.set_cons_zero, List.set_cons_succ]
  generalize vs 0 = u0 at d0 ⊢
  generalize vs 1 = u1 at d1 ⊢
  generalize vs 2 = u2 at d2 ⊢
  generalize vs 3 = u3 at d3 ⊢
  generalize vs 4 = u4 at d4 ⊢
  generalize vs 5 = u5 at d5 ⊢
  generalize vs 6 = u6 at d6 ⊢
  generalize vs 7 = u7 at d7 ⊢
  generalize vs 8 = u8 at d8 ⊢
  generalize vs 9 = u9 at d9 ⊢
  clear vs
  replace d0 : u0 = _ := d0
  subst d0
  replace d1 : u1 = _ := d1
  subst d1
  replace d2 : u2 = _ := d2
  subst d2
  obtain ⟨K4, s4, M4, E4, rfl, _⟩ := d3
  replace d4 : u4 = _ := d4
  subst d4
  replace d5 : u5 = _ := d5
  subst d5
  replace d6 : u6 = _ := d6
  subst d6
  replace d7 : u7 = _ := d7
  subst d7
  replace d8 : u8 = _ := d8
  subst d8
  replace d9 : u9 = _ := d9
  subst d9
  replace X0 := X0.below hJ
  replace X6 := X6.below hJ
  replace hT := hT.below hJ
  replace h0 := h0.below hJ
  replace HB := Lib.hid (bt HB.out hJ)
  refine Jo.jdone (by kernel_rfl) ?_
  go_wp2
  go_ret
  exact ⟨rfl, HB.out⟩

theorem numRounds_walk (s0 : Bool) (a0 : Option Addr) (len0 cap0 : Nat) (y0 : List Int) (e0 : Int) (b1 : Bool) (w : World) (hT : Tab w) (w0 : RowIn w a0 len0 cap0 y0)  :
    Calls Tryd.prog 3 #[.agg #[.bool s0, .slice a0 len0 cap0, .int .i64 e0], .bool b1] w fun e w' => e = .returned (.bool true) ∧ Below w.heap.size w w' := by
  by_cases hn : len0 ≤ 20
  · obtain ⟨u, r0⟩ := w0.rd (by omega)
    exact numRounds_main s0 a0 len0 cap0 e0 b1 w _ hT (r0.wr s0) hn
  · exact numRounds_far s0 a0 len0 cap0 e0 b1 w hT (by omega) w0.len
end Go.Proofs.YthibemmhgdbiiaaDoor

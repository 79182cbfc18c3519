/-
  The walk of DecimalOrders: for all arguments, where the table lies as it was laid, the call answers true, and nothing that was there has turned.
-/
import Derived.Test.YtdfnjhkcicnkpaaGreatDoorZbf
import Derived.Test.YtdfnjhkcicnkpaaGreatDoorZbg
namespace Go.Proofs.YtdfnjhkcicnkpaaGreatDoor
open Go.RowKit
set_option linter.unusedVariables false
set_option linter.unusedSimpArgs false
set_option maxRecDepth 100000

theorem cmpI_anti (x y : Int) : cmpI y x = -cmpI x y := by unfold cmpI; split <;> (try split) <;> (try split) <;> (try split) <;> omega
theorem cmpC_anti (p q : Bool) (x t y u : Int) : cmpC p q x t y u = -cmpC q p y u x t := by
  unfold cmpC
  rw [Bool.and_comm q p, Int.min_comm u t]
  split
  · exact cmpI_anti _ _
  · rfl
theorem cmpC_bd (p q : Bool) (x t y u : Int) : -1 ≤ cmpC p q x t y u ∧ cmpC p q x t y u ≤ 1 := by
  unfold cmpC
  split
  · exact cmpI_bd _ _
  · omega

set_option maxHeartbeats 2000000 in
theorem decimalOrders_far0 (s0 : Bool) (a0 : Option Addr) (len0 cap0 : Nat) (e0 : Int) (s1 : Bool) (a1 : Option Addr) (len1 cap1 : Nat) (e1 : Int) (w : World) (hT : Pt w) (hf : 10 < len0) :
    Calls Tryz.prog 5 #[.agg #[.bool s0, .slice a0 len0 cap0, .int .i64 e0], .agg #[.bool s1, .slice a1 len1 cap1, .int .i64 e1]] w (PB w true) := by
  have t0 : decide ((10 : Int) < (len0 : Int)) = true := by simp; omega
  go_enter Tryz.func5, Tryz.ntmps5
  go_upto_region 1 with (fail)
  have X0 := (Bo.newAt w (g := w.heap.size) (by simp) #[.bool s0, .slice a0 len0 cap0, .int .i64 e0] 27).below (bel1 _ (.cells #[.bool s1, .slice a1 len1 cap1, .int .i64 e1] 27))
  have X1 := (Bo.newAt (w.alloc (.cells #[.bool s0, .slice a0 len0 cap0, .int .i64 e0] 27)) (g := w.heap.size + 1) (by simp) #[.bool s1, .slice a1 len1 cap1, .int .i64 e1] 27)
  have HB := Lib.hid (bel2 w (.cells #[.bool s0, .slice a0 len0 cap0, .int .i64 e0] 27) (.cells #[.bool s1, .slice a1 len1 cap1, .int .i64 e1] 27))
  replace hT := hT.below HB.out
  generalize hW1 : ((w.alloc (.cells #[.bool s0, .slice a0 len0 cap0, .int .i64 e0] 27)).alloc (.cells #[.bool s1, .slice a1 len1 cap1, .int .i64 e1] 27)) = w1 at *
  clear hW1
  go_wp2_with fail
  refine (awake4 _ hT).mono ?_
  rintro ee w2 ⟨rfl, B⟩
  replace X0 := X0.below B
  replace X1 := X1.below B
  replace hT := hT.below B
  replace HB := Lib.hid (bt HB.out B)
  clear B
  have xX00 := X0.at (i := 0) (v := .bool s0) rfl
  have xX01 := X0.at (i := 1) (v := .slice a0 len0 cap0) rfl
  have xX02 := X0.at (i := 2) (v := .int .i64 e0) rfl
  have xX10 := X1.at (i := 0) (v := .bool s1) rfl
  have xX11 := X1.at (i := 1) (v := .slice a1 len1 cap1) rfl
  have xX12 := X1.at (i := 2) (v := .int .i64 e1) rfl
  go_wp2
  go_ret
  exact ⟨rfl, HB.out⟩

set_option maxHeartbeats 2000000 in
theorem decimalOrders_far1 (s0 : Bool) (a0 : Option Addr) (len0 cap0 : Nat) (e0 : Int) (s1 : Bool) (a1 : Option Addr) (len1 cap1 : Nat) (e1 : Int) (w : World) (hT : Pt w) (hf : len0 ≤ 10) (hg : 10 < len1) :
    Calls Tryz.prog 5 #[.agg #[.bool s0, .slice a0 len0 cap0, .int .i64 e0], .agg #[.bool s1, .slice a1 len1 cap1, .int .i64 e1]] w (PB w true) := by
  have t0 : decide ((10 : Int) < (len0 : Int)) = false := by simp; omega
  have t1 : decide ((10 : Int) < (len1 : Int)) = true := by simp; omega
  go_enter Tryz.func5, Tryz.ntmps5
  go_upto_region 1 with (fail)
  have X0 := (Bo.newAt w (g := w.heap.size) (by simp) #[.bool s0, .slice a0 len0 cap0, .int .i64 e0] 27).below (bel1 _ (.cells #[.bool s1, .slice a1 len1 cap1, .int .i64 e1] 27))
  have X1 := (Bo.newAt (w.alloc (.cells #[.bool s0, .slice a0 len0 cap0, .int .i64 e0] 27)) (g := w.heap.size + 1) (by simp) #[.bool s1, .slice a1 len1 cap1, .int .i64 e1] 27)
  have HB := Lib.hid (bel2 w (.cells #[.bool s0, .slice a0 len0 cap0, .int .i64 e0] 27) (.cells #[.bool s1, .slice a1 len1 cap1, .int .i64 e1] 27))
  replace hT := hT.below HB.out
  generalize hW1 : ((w.alloc (.cells #[.bool s0, .slice a0 len0 cap0, .int .i64 e0] 27)).alloc (.cells #[.bool s1, .slice a1 len1 cap1, .int .i64 e1] 27)) = w1 at *
  clear hW1
  go_wp2_with fail
  refine (awake4 _ hT).mono ?_
  rintro ee w2 ⟨rfl, B⟩
  replace X0 := X0.below B
  replace X1 := X1.below B
  replace hT := hT.below B
  replace HB := Lib.hid (bt HB.out B)
  clear B
  have xX00 := X0.at (i := 0) (v := .bool s0) rfl
  have xX01 := X0.at (i := 1) (v := .slice a0 len0 cap0) rfl
  have xX02 := X0.at (i := 2) (v := .int .i64 e0) rfl
  have xX10 := X1.at (i := 0) (v := .bool s1) rfl
  have xX11 := X1.at (i := 1) (v := .slice a1 len1 cap1) rfl
  have xX12 := X1.at (i := 2) (v := .int .i64 e1) rfl
  go_wp2
  go_ret
  exact ⟨rfl, HB.out⟩

set_option maxHeartbeats 4000000 in
theorem decimalOrders_main (s0 : Bool) (a0 : Option Addr) (len0 cap0 : Nat) (e0 : Int) (s1 : Bool) (a1 : Option Addr) (len1 cap1 : Nat) (e1 : Int) (w : World) (b0 b1 : Nat) (hT : Pt w) (h0 : Rd w a0 len0 cap0 b0) (h1 : Rd w a1 len1 cap1 b1) (hf : len0 ≤ 10) (hg : len1 ≤ 10) :
    Calls Tryz.prog 5 #[.agg #[.bool s0, .slice a0 len0 cap0, .int .i64 e0], .agg #[.bool s1, .slice a1 len1 cap1, .int .i64 e1]] w (PB w true) := by
  have t0 : decide ((10 : Int) < (len0 : Int)) = false := by simp; omega
  have t1 : decide ((10 : Int) < (len1 : Int)) = false := by simp; omega
  have l0 : len0 ≤ 20 := by omega
  have l1 : len1 ≤ 20 := by omega
  obtain ⟨κ, hκ⟩ : ∃ κ, cmpC (mayC s1 len1 b1 e1) (mayC s0 len0 b0 e0) (sg s1 b1) e1 (sg s0 b0) e0 = κ := ⟨_, rfl⟩
  have hκ2 : cmpC (mayC s0 len0 b0 e0) (mayC s1 len1 b1 e1) (sg s0 b0) e0 (sg s1 b1) e1 = -κ := by rw [cmpC_anti, hκ]
  have hbd := cmpC_bd (mayC s1 len1 b1 e1) (mayC s0 len0 b0 e0) (sg s1 b1) e1 (sg s0 b0) e0
  rw [hκ] at hbd
  have HR := Lib.hid hκ
  have HR2 := Lib.hid hκ2
  have HW := Lib.hid (show IntKind.i64.wrap (-κ) = -κ from wrap_in (by omega) (by omega))
  clear hκ hκ2 hbd
  go_enter Tryz.func5, Tryz.ntmps5
  go_upto_region 1 with (fail)
  have X0 := (Bo.newAt w (g := w.heap.size) (by simp) #[.bool s0, .slice a0 len0 cap0, .int .i64 e0] 27).below (bel1 _ (.cells #[.bool s1, .slice a1 len1 cap1, .int .i64 e1] 27))
  have X1 := (Bo.newAt (w.alloc (.cells #[.bool s0, .slice a0 len0 cap0, .int .i64 e0] 27)) (g := w.heap.size + 1) (by simp) #[.bool s1, .slice a1 len1 cap1, .int .i64 e1] 27)
  have HB := Lib.hid (bel2 w (.cells #[.bool s0, .slice a0 len0 cap0, .int .i64 e0] 27) (.cells #[.bool s1, .slice a1 len1 cap1, .int .i64 e1] 27))
  replace hT := hT.below HB.out
  replace h0 := h0.below HB.out
  replace h1 := h1.below HB.out
  generalize hW1 : ((w.alloc (.cells #[.bool s0, .slice a0 len0 cap0, .int .i64 e0] 27)).alloc (.cells #[.bool s1, .slice a1 len1 cap1, .int .i64 e1] 27)) = w1 at *
  clear hW1
  go_wp2_with fail
  refine (awake4 _ hT).mono ?_
  rintro ee w2 ⟨rfl, B⟩
  replace X0 := X0.below B
  replace X1 := X1.below B
  replace hT := hT.below B
  replace h0 := h0.below B
  replace h1 := h1.below B
  replace HB := Lib.hid (bt HB.out B)
  clear B
  have xX00 := X0.at (i := 0) (v := .bool s0) rfl
  have xX01 := X0.at (i := 1) (v := .slice a0 len0 cap0) rfl
  have xX02 := X0.at (i := 2) (v := .int .i64 e0) rfl
  have xX10 := X1.at (i := 0) (v := .bool s1) rfl
  have xX11 := X1.at (i := 1) (v := .slice a1 len1 cap1) rfl
  have xX12 := X1.at (i := 2) (v := .int .i64 e1) rfl
  go_upto_region 4 with (fail)
  refine Jo.region_joint (T := [0, 1, 2, 3, 4, 5, 6, 7, 8, 9, 10, 11, 12, 13, 14, 15, 16, 17]) (ds := [some 24, some 25, some 26, some 27, some 28, some 29, some 30, some 31, some 32, some 33, some 34, some 35, some 36, some 37, some 38, some 39, some 40, some 4]) (ls := [[], [], [0, 1], [], [], [3, 4], [2, 5], [6], [7], [7], [7, 8, 9], [7], [7], [7, 11, 12], [7, 13], [7, 10, 14], [7, 15], [16]]) (k := 18) (L := [(some 24, 0), (some 25, 1), (some 26, 2), (some 27, 3), (some 28, 4), (some 29, 5), (some 30, 6), (some 31, 7), (some 32, 8), (some 33, 9), (some 34, 10), (some 35, 11), (some 36, 12), (some 37, 13), (some 38, 14), (some 39, 15), (some 40, 16), (some 4, 17)]) (fuel := 0) (J := fun wj => Below (World.heap w2).size w2 wj)
    (F := [Jo.Fact.eq (.agg #[.bool s0, .slice a0 len0 cap0, .int .i64 e0]), Jo.Fact.eq (.agg #[.bool s1, .slice a1 len1 cap1, .int .i64 e1]), Jo.Fact.eq (.int .i64 (-κ)), Jo.Fact.eq (.agg #[.bool s0, .slice a0 len0 cap0, .int .i64 e0]), Jo.Fact.eq (.agg #[.bool s1, .slice a1 len1 cap1, .int .i64 e1]), Jo.Fact.eq (.int .i64 (-κ)), Jo.Fact.eq (.bool true), Jo.Fact.eq (.bool true), Jo.Fact.eq (.agg #[.bool s0, .slice a0 len0 cap0, .int .i64 e0]), Jo.Fact.eq (.agg #[.bool s1, .slice a1 len1 cap1, .int .i64 e1]), Jo.Fact.eq (.int .i64 (-κ)), Jo.Fact.eq (.agg #[.bool s1, .slice a1 len1 cap1, .int .i64 e1]), Jo.Fact.eq (.agg #[.bool s0, .slice a0 len0 cap0, .int .i64 e0]), Jo.Fact.eq (.int .i64 κ), Jo.Fact.eq (.int .i64 (-κ)), Jo.Fact.eq (.bool true), Jo.Fact.eq (.bool true), Jo.Fact.eq (.bool true)])
    (by kernel_rfl) (by kernel_rfl) (by decide) rfl rfl (fun _ _ h b => bt h b) ((Below.refl _ _).drew) ?_ (fun vs w3 hJ hd => ?_)
  clear xX00 xX01 xX02 xX10 xX11 xX12
  · refine Jo.jcons (i := 0) (o := ⟨some 24, _, _, _, _, _⟩) (di := some 24) (L := []) (f := Jo.Fact.eq (.agg #[.bool s0, .slice a0 len0 cap0, .int .i64 e0])) rfl rfl rfl rfl (fun vs wj hJ hd K hK => ?_) ?_
    · clear hd
      simp only [Jo.putl, List.foldl_nil, Act.put, List.setIfInBounds_toArray, List.set_cons_zero, List.set_cons_succ] at hK ⊢
      have xX00 : World.cell? wj ⟨w.heap.size, 0, none⟩ = some (.bool s0) := (X0.below hJ).cell 0
      have xX01 : World.cell? wj ⟨w.heap.size, 1, none⟩ = some (.slice a0 len0 cap0) := (X0.below hJ).cell 1
      have xX02 : World.cell? wj ⟨w.heap.size, 2, none⟩ = some (.int .i64 e0) := (X0.below hJ).cell 2
      go_simp
      exact hK.out _ _ rfl (Below.refl _ _)
    refine Jo.jcons (i := 1) (o := ⟨some 25, _, _, _, _, _⟩) (di := some 25) (L := []) (f := Jo.Fact.eq (.agg #[.bool s1, .slice a1 len1 cap1, .int .i64 e1])) rfl rfl rfl rfl (fun vs wj hJ hd K hK => ?_) ?_
    · clear hd
      simp only [Jo.putl, List.foldl_nil, Act.put, List.setIfInBounds_toArray, List.set_cons_zero, List.set_cons_succ] at hK ⊢
      have xX10 : World.cell? wj ⟨w.heap.size + 1, 0, none⟩ = some (.bool s1) := (X1.below hJ).cell 0
      have xX11 : World.cell? wj ⟨w.heap.size + 1, 1, none⟩ = some (.slice a1 len1 cap1) := (X1.below hJ).cell 1
      have xX12 : World.cell? wj ⟨w.heap.size + 1, 2, none⟩ = some (.int .i64 e1) := (X1.below hJ).cell 2
      go_simp
      exact hK.out _ _ rfl (Below.refl _ _)
    refine Jo.jcons (i := 2) (o := ⟨some 26, _, _, _, _, _⟩) (di := some 26) (L := [(some 24, 0), (some 25, 1)]) (f := Jo.Fact.eq (.int .i64 (-κ))) rfl rfl rfl rfl (fun vs wj hJ hd K hK => ?_) ?_
    · have d0 : (Jo.Fact.eq (.agg #[.bool s0, .slice a0 len0 cap0, .int .i64 e0])).P (vs 0) wj := hd 0 (by decide)
      have d1 : (Jo.Fact.eq (.agg #[.bool s1, .slice a1 len1 cap1, .int .i64 e1])).P (vs 1) wj := hd 1 (by decide)
      clear hd
      simp only [Jo.putl, List.foldl_cons, List.foldl_nil, Act.put, List.setIfInBounds_toArray, List.set_cons_zero, List.set_cons_succ] at hK ⊢
      generalize vs 0 = u0 at hK d0 ⊢
      generalize vs 1 = u1 at hK d1 ⊢
      replace d0 : u0 = _ := d0
      subst d0
      replace d1 : u1 = _ := d1
      subst d1
      go_simp
      refine (vCmpD (h0.below hJ) (h1.below hJ) l0 l1 HR2.out).mono ?_
      rintro ee wk ⟨rfl, B⟩
      exact hK.out _ _ rfl B
    refine Jo.jcons (i := 3) (o := ⟨some 27, _, _, _, _, _⟩) (di := some 27) (L := []) (f := Jo.Fact.eq (.agg #[.bool s0, .slice a0 len0 cap0, .int .i64 e0])) rfl rfl rfl rfl (fun vs wj hJ hd K hK => ?_) ?_
    · clear hd
      simp only [Jo.putl, List.foldl_nil, Act.put, List.setIfInBounds_toArray, List.set_cons_zero, List.set_cons_succ] at hK ⊢
      have xX00 : World.cell? wj ⟨w.heap.size, 0, none⟩ = some (.bool s0) := (X0.below hJ).cell 0
      have xX01 : World.cell? wj ⟨w.heap.size, 1, none⟩ = some (.slice a0 len0 cap0) := (X0.below hJ).cell 1
      have xX02 : World.cell? wj ⟨w.heap.size, 2, none⟩ = some (.int .i64 e0) := (X0.below hJ).cell 2
      go_simp
      exact hK.out _ _ rfl (Below.refl _ _)
    refine Jo.jcons (i := 4) (o := ⟨some 28, _, _, _, _, _⟩) (di := some 28) (L := []) (f := Jo.Fact.eq (.agg #[.bool s1, .slice a1 len1 cap1, .int .i64 e1])) rfl rfl rfl rfl (fun vs wj hJ hd K hK => ?_) ?_
    · clear hd
      simp only [Jo.putl, List.foldl_nil, Act.put, List.setIfInBounds_toArray, List.set_cons_zero, List.set_cons_succ] at hK ⊢
      have xX10 : World.cell? wj ⟨w.heap.size + 1, 0, none⟩ = some (.bool s1) := (X1.below hJ).cell 0
      have xX11 : World.cell? wj ⟨w.heap.size + 1, 1, none⟩ = some (.slice a1 len1 cap1) := (X1.below hJ).cell 1
      have xX12 : World.cell? wj ⟨w.heap.size + 1, 2, none⟩ = some (.int .i64 e1) := (X1.below hJ).cell 2
      go_simp
      exact hK.out _ _ rfl (Below.refl _ _)
    refine Jo.jcons (i := 5) (o := ⟨some 29, _, _, _, _, _⟩) (di := some 29) (L := [(some 27, 3), (some 28, 4)]) (f := Jo.Fact.eq (.int .i64 (-κ))) rfl rfl rfl rfl (fun vs wj hJ hd K hK => ?_) ?_
    · have d3 : (Jo.Fact.eq (.agg #[.bool s0, .slice a0 len0 cap0, .int .i64 e0])).P (vs 3) wj := hd 3 (by decide)
      have d4 : (Jo.Fact.eq (.agg #[.bool s1, .slice a1 len1 cap1, .int .i64 e1])).P (vs 4) wj := hd 4 (by decide)
      clear hd
      simp only [Jo.putl, List.foldl_cons, List.foldl_nil, Act.put, List.setIfInBounds_toArray, List.set_cons_zero, List.set_cons_succ] at hK ⊢
      generalize vs 3 = u3 at hK d3 ⊢
      generalize vs 4 = u4 at hK d4 ⊢
      replace d3 : u3 = _ := d3
      subst d3
      replace d4 : u4 = _ := d4
      subst d4
      go_simp
      refine (uCmp (h0.below hJ) (h1.below hJ) l0 l1 HR2.out).mono ?_
      rintro ee wk ⟨rfl, B⟩
      exact hK.out _ _ rfl B
    refine Jo.jcons (i := 6) (o := ⟨some 30, _, _, _, _, _⟩) (di := some 30) (L := [(some 26, 2), (some 29, 5)]) (f := Jo.Fact.eq (.bool true)) rfl rfl rfl rfl (fun vs wj hJ hd K hK => ?_) ?_
    · have d2 : (Jo.Fact.eq (.int .i64 (-κ))).P (vs 2) wj := hd 2 (by decide)
      have d5 : (Jo.Fact.eq (.int .i64 (-κ))).P (vs 5) wj := hd 5 (by decide)
      clear hd
      simp only [Jo.putl, List.foldl_cons, List.foldl_nil, Act.put, List.setIfInBounds_toArray, List.set_cons_zero, List.set_cons_succ] at hK ⊢
      generalize vs 2 = u2 at hK d2 ⊢
      generalize vs 5 = u5 at hK d5 ⊢
      replace d2 : u2 = _ := d2
      subst d2
      replace d5 : u5 = _ := d5
      subst d5
      go_simp
      exact hK.out _ _ (by first | rfl | simp) (Below.refl _ _)
    refine Jo.jcons (i := 7) (o := ⟨some 31, _, _, _, _, _⟩) (di := some 31) (L := [(some 30, 6)]) (f := Jo.Fact.eq (.bool true)) rfl rfl rfl rfl (fun vs wj hJ hd K hK => ?_) ?_
    · have d6 : (Jo.Fact.eq (.bool true)).P (vs 6) wj := hd 6 (by decide)
      clear hd
      simp only [Jo.putl, List.foldl_cons, List.foldl_nil, Act.put, List.setIfInBounds_toArray, List.set_cons_zero, List.set_cons_succ] at hK ⊢
      generalize vs 6 = u6 at hK d6 ⊢
      replace d6 : u6 = _ := d6
      subst d6
      go_simp
      exact hK.out _ _ rfl (Below.refl _ _)
    refine Jo.jcons (i := 8) (o := ⟨some 32, _, _, _, _, _⟩) (di := some 32) (L := [(some 31, 7)]) (f := Jo.Fact.eq (.agg #[.bool s0, .slice a0 len0 cap0, .int .i64 e0])) rfl rfl rfl rfl (fun vs wj hJ hd K hK => ?_) ?_
    · have d7 : (Jo.Fact.eq (.bool true)).P (vs 7) wj := hd 7 (by decide)
      clear hd
      simp only [Jo.putl, List.foldl_cons, List.foldl_nil, Act.put, List.setIfInBounds_toArray, List.set_cons_zero, List.set_cons_succ] at hK ⊢
      generalize vs 7 = u7 at hK d7 ⊢
      replace d7 : u7 = _ := d7
      subst d7
      have xX00 : World.cell? wj ⟨w.heap.size, 0, none⟩ = some (.bool s0) := (X0.below hJ).cell 0
      have xX01 : World.cell? wj ⟨w.heap.size, 1, none⟩ = some (.slice a0 len0 cap0) := (X0.below hJ).cell 1
      have xX02 : World.cell? wj ⟨w.heap.size, 2, none⟩ = some (.int .i64 e0) := (X0.below hJ).cell 2
      go_simp
      exact hK.out _ _ rfl (Below.refl _ _)
    refine Jo.jcons (i := 9) (o := ⟨some 33, _, _, _, _, _⟩) (di := some 33) (L := [(some 31, 7)]) (f := Jo.Fact.eq (.agg #[.bool s1, .slice a1 len1 cap1, .int .i64 e1])) rfl rfl rfl rfl (fun vs wj hJ hd K hK => ?_) ?_
    · have d7 : (Jo.Fact.eq (.bool true)).P (vs 7) wj := hd 7 (by decide)
      clear hd
      simp only [Jo.putl, List.foldl_cons, List.foldl_nil, Act.put, List.setIfInBounds_toArray, List.set_cons_zero, List.set_cons_succ] at hK ⊢
      generalize vs 7 = u7 at hK d7 ⊢
      replace d7 : u7 = _ := d7
      subst d7
      have xX10 : World.cell? wj ⟨w.heap.size + 1, 0, none⟩ = some (.bool s1) := (X1.below hJ).cell 0
      have xX11 : World.cell? wj ⟨w.heap.size + 1, 1, none⟩ = some (.slice a1 len1 cap1) := (X1.below hJ).cell 1
      have xX12 : World.cell? wj ⟨w.heap.size + 1, 2, none⟩ = some (.int .i64 e1) := (X1.below hJ).cell 2
      go_simp
      exact hK.out _ _ rfl (Below.refl _ _)
    refine Jo.jcons (i := 10) (o := ⟨some 34, _, _, _, _, _⟩) (di := some 34) (L := [(some 31, 7), (some 32, 8), (some 33, 9)]) (f := Jo.Fact.eq (.int .i64 (-κ))) rfl rfl rfl rfl (fun vs wj hJ hd K hK => ?_) ?_
    · have d7 : (Jo.Fact.eq (.bool true)).P (vs 7) wj := hd 7 (by decide)
      have d8 : (Jo.Fact.eq (.agg #[.bool s0, .slice a0 len0 cap0, .int .i64 e0])).P (vs 8) wj := hd 8 (by decide)
      have d9 : (Jo.Fact.eq (.agg #[.bool s1, .slice a1 len1 cap1, .int .i64 e1])).P (vs 9) wj := hd 9 (by decide)
      clear hd
      simp only [Jo.putl, List.foldl_cons, List.foldl_nil, Act.put, List.setIfInBounds_toArray, List.set_cons_zero, List.set_cons_succ] at hK ⊢
      generalize vs 7 = u7 at hK d7 ⊢
      generalize vs 8 = u8 at hK d8 ⊢
      generalize vs 9 = u9 at hK d9 ⊢
      replace d7 : u7 = _ := d7
      subst d7
      replace d8 : u8 = _ := d8
      subst d8
      replace d9 : u9 = _ := d9
      subst d9
      go_simp
      refine (vCmpD (h0.below hJ) (h1.below hJ) l0 l1 HR2.out).mono ?_
      rintro ee wk ⟨rfl, B⟩
      exact hK.out _ _ rfl B
    refine Jo.jcons (i := 11) (o := ⟨some 35, _, _, _, _, _⟩) (di := some 35) (L := [(some 31, 7)]) (f := Jo.Fact.eq (.agg #[.bool s1, .slice a1 len1 cap1, .int .i64 e1])) rfl rfl rfl rfl (fun vs wj hJ hd K hK => ?_) ?_
    · have d7 : (Jo.Fact.eq (.bool true)).P (vs 7) wj := hd 7 (by decide)
      clear hd
      simp only [Jo.putl, List.foldl_cons, List.foldl_nil, Act.put, List.setIfInBounds_toArray, List.set_cons_zero, List.set_cons_succ] at hK ⊢
      generalize vs 7 = u7 at hK d7 ⊢
      replace d7 : u7 = _ := d7
      subst d7
      have xX10 : World.cell? wj ⟨w.heap.size + 1, 0, none⟩ = some (.bool s1) := (X1.below hJ).cell 0
      have xX11 : World.cell? wj ⟨w.heap.size + 1, 1, none⟩ = some (.slice a1 len1 cap1) := (X1.below hJ).cell 1
      have xX12 : World.cell? wj ⟨w.heap.size + 1, 2, none⟩ = some (.int .i64 e1) := (X1.below hJ).cell 2
      go_simp
      exact hK.out _ _ rfl (Below.refl _ _)
    refine Jo.jcons (i := 12) (o := ⟨some 36, _, _, _, _, _⟩) (di := some 36) (L := [(some 31, 7)]) (f := Jo.Fact.eq (.agg #[.bool s0, .slice a0 len0 cap0, .int .i64 e0])) rfl rfl rfl rfl (fun vs wj hJ hd K hK => ?_) ?_
    · have d7 : (Jo.Fact.eq (.bool true)).P (vs 7) wj := hd 7 (by decide)
      clear hd
      simp only [Jo.putl, List.foldl_cons, List.foldl_nil, Act.put, List.setIfInBounds_toArray, List.set_cons_zero, List.set_cons_succ] at hK ⊢
      generalize vs 7 = u7 at hK d7 ⊢
      replace d7 : u7 = _ := d7
      subst d7
      have xX00 : World.cell? wj ⟨w.heap.size, 0, none⟩ = some (.bool s0) := (X0.below hJ).cell 0
      have xX01 : World.cell? wj ⟨w.heap.size, 1, none⟩ = some (.slice a0 len0 cap0) := (X0.below hJ).cell 1
      have xX02 : World.cell? wj ⟨w.heap.size, 2, none⟩ = some (.int .i64 e0) := (X0.below hJ).cell 2
      go_simp
      exact hK.out _ _ rfl (Below.refl _ _)
    refine Jo.jcons (i := 13) (o := ⟨some 37, _, _, _, _, _⟩) (di := some 37) (L := [(some 31, 7), (some 35, 11), (some 36, 12)]) (f := Jo.Fact.eq (.int .i64 κ)) rfl rfl rfl rfl (fun vs wj hJ hd K hK => ?_) ?_
    · have d7 : (Jo.Fact.eq (.bool true)).P (vs 7) wj := hd 7 (by decide)
      have d11 : (Jo.Fact.eq (.agg #[.bool s1, .slice a1 len1 cap1, .int .i64 e1])).P (vs 11) wj := hd 11 (by decide)
      have d12 : (Jo.Fact.eq (.agg #[.bool s0, .slice a0 len0 cap0, .int .i64 e0])).P (vs 12) wj := hd 12 (by decide)
      clear hd
      simp only [Jo.putl, List.foldl_cons, List.foldl_nil, Act.put, List.setIfInBounds_toArray, List.set_cons_zero, List.set_cons_succ] at hK ⊢
      generalize vs 7 = u7 at hK d7 ⊢
      generalize vs 11 = u11 at hK d11 ⊢
      generalize vs 12 = u12 at hK d12 ⊢
      replace d7 : u7 = _ := d7
      subst d7
      replace d11 : u11 = _ := d11
      subst d11
      replace d12 : u12 = _ := d12
      subst d12
      go_simp
      refine (vCmpD (h1.below hJ) (h0.below hJ) l1 l0 HR.out).mono ?_
      rintro ee wk ⟨rfl, B⟩
      exact hK.out _ _ rfl B
    refine Jo.jcons (i := 14) (o := ⟨some 38, _, _, _, _, _⟩) (di := some 38) (L := [(some 31, 7), (some 37, 13)]) (f := Jo.Fact.eq (.int .i64 (-κ))) rfl rfl rfl rfl (fun vs wj hJ hd K hK => ?_) ?_
    · have d7 : (Jo.Fact.eq (.bool true)).P (vs 7) wj := hd 7 (by decide)
      have d13 : (Jo.Fact.eq (.int .i64 κ)).P (vs 13) wj := hd 13 (by decide)
      clear hd
      simp only [Jo.putl, List.foldl_cons, List.foldl_nil, Act.put, List.setIfInBounds_toArray, List.set_cons_zero, List.set_cons_succ] at hK ⊢
      generalize vs 7 = u7 at hK d7 ⊢
      generalize vs 13 = u13 at hK d13 ⊢
      replace d7 : u7 = _ := d7
      subst d7
      replace d13 : u13 = _ := d13
      subst d13
      go_simp
      rw [HW.out]
      exact hK.out _ _ rfl (Below.refl _ _)
    refine Jo.jcons (i := 15) (o := ⟨some 39, _, _, _, _, _⟩) (di := some 39) (L := [(some 31, 7), (some 34, 10), (some 38, 14)]) (f := Jo.Fact.eq (.bool true)) rfl rfl rfl rfl (fun vs wj hJ hd K hK => ?_) ?_
    · have d7 : (Jo.Fact.eq (.bool true)).P (vs 7) wj := hd 7 (by decide)
      have d10 : (Jo.Fact.eq (.int .i64 (-κ))).P (vs 10) wj := hd 10 (by decide)
      have d14 : (Jo.Fact.eq (.int .i64 (-κ))).P (vs 14) wj := hd 14 (by decide)
      clear hd
      simp only [Jo.putl, List.foldl_cons, List.foldl_nil, Act.put, List.setIfInBounds_toArray, List.set_cons_zero, List.set_cons_succ] at hK ⊢
      generalize vs 7 = u7 at hK d7 ⊢
      generalize vs 10 = u10 at hK d10 ⊢
      generalize vs 14 = u14 at hK d14 ⊢
      replace d7 : u7 = _ := d7
      subst d7
      replace d10 : u10 = _ := d10
      subst d10
      replace d14 : u14 = _ := d14
      subst d14
      go_simp
      exact hK.out _ _ (by first | rfl | simp) (Below.refl _ _)
    refine Jo.jcons (i := 16) (o := ⟨some 40, _, _, _, _, _⟩) (di := some 40) (L := [(some 31, 7), (some 39, 15)]) (f := Jo.Fact.eq (.bool true)) rfl rfl rfl rfl (fun vs wj hJ hd K hK => ?_) ?_
    · have d7 : (Jo.Fact.eq (.bool true)).P (vs 7) wj := hd 7 (by decide)
      have d15 : (Jo.Fact.eq (.bool true)).P (vs 15) wj := hd 15 (by decide)
      clear hd
      simp only [Jo.putl, List.foldl_cons, List.foldl_nil, Act.put, List.setIfInBounds_toArray, List.set_cons_zero, List.set_cons_succ] at hK ⊢
      generalize vs 7 = u7 at hK d7 ⊢
      generalize vs 15 = u15 at hK d15 ⊢
      replace d7 : u7 = _ := d7
      subst d7
      replace d15 : u15 = _ := d15
      subst d15
      go_simp
      exact hK.out _ _ rfl (Below.refl _ _)
    refine Jo.jcons (i := 17) (o := ⟨some 4, _, _, _, _, _⟩) (di := some 4) (L := [(some 40, 16)]) (f := Jo.Fact.eq (.bool true)) rfl rfl rfl rfl (fun vs wj hJ hd K hK => ?_) ?_
    · have d16 : (Jo.Fact.eq (.bool true)).P (vs 16) wj := hd 16 (by decide)
      clear hd
      simp only [Jo.putl, List.foldl_cons, List.foldl_nil, Act.put, List.setIfInBounds_toArray, List.set_cons_zero, List.set_cons_succ] at hK ⊢
      generalize vs 16 = u16 at hK d16 ⊢
      replace d16 : u16 = _ := d16
      subst d16
      go_simp
      exact hK.out _ _ rfl (Below.refl _ _)
    exact Jo.Steps.nil
  have d0 : (Jo.Fact.eq (.agg #[.bool s0, .slice a0 len0 cap0, .int .i64 e0])).P (vs 0) w3 := hd 0 (by decide)
  have d1 : (Jo.Fact.eq (.agg #[.bool s1, .slice a1 len1 cap1, .int .i64 e1])).P (vs 1) w3 := hd 1 (by decide)
  have d2 : (Jo.Fact.eq (.int .i64 (-κ))).P (vs 2) w3 := hd 2 (by decide)
  have d3 : (Jo.Fact.eq (.agg #[.bool s0, .slice a0 len0 cap0, .int .i64 e0])).P (vs 3) w3 := hd 3 (by decide)
  have d4 : (Jo.Fact.eq (.agg #[.bool s1, .slice a1 len1 cap1, .int .i64 e1])).P (vs 4) w3 := hd 4 (by decide)
  have d5 : (Jo.Fact.eq (.int .i64 (-κ))).P (vs 5) w3 := hd 5 (by decide)
  have d6 : (Jo.Fact.eq (.bool true)).P (vs 6) w3 := hd 6 (by decide)
  have d7 : (Jo.Fact.eq (.bool true)).P (vs 7) w3 := hd 7 (by decide)
  have d8 : (Jo.Fact.eq (.agg #[.bool s0, .slice a0 len0 cap0, .int .i64 e0])).P (vs 8) w3 := hd 8 (by decide)
  have d9 : (Jo.Fact.eq (.agg #[.bool s1, .slice a1 len1 cap1, .int .i64 e1])).P (vs 9) w3 := hd 9 (by decide)
  have d10 : (Jo.Fact.eq (.int .i64 (-κ))).P (vs 10) w3 := hd 10 (by decide)
  have d11 : (Jo.Fact.eq (.agg #[.bool s1, .slice a1 len1 cap1, .int .i64 e1])).P (vs 11) w3 := hd 11 (by decide)
  have d12 : (Jo.Fact.eq (.agg #[.bool s0, .slice a0 len0 cap0, .int .i64 e0])).P (vs 12) w3 := hd 12 (by decide)
  have d13 : (Jo.Fact.eq (.int .i64 κ)).P (vs 13) w3 := hd 13 (by decide)
  have d14 : (Jo.Fact.eq (.int .i64 (-κ))).P (vs 14) w3 := hd 14 (by decide)
  have d15 : (Jo.Fact.eq (.bool true)).P (vs 15) w3 := hd 15 (by decide)
  have d16 : (Jo.Fact.eq (.bool true)).P (vs 16) w3 := hd 16 (by decide)
  have d17 : (Jo.Fact.eq (.bool true)).P (vs 17) w3 := hd 17 (by decide)
  clear hd
  simp only [Jo.putl, List.foldl_cons, List.foldl_nil, Act.put, List.setIfInBounds_toArray, List.set_cons_zero, List.set_cons_succ]
  generalize vs 0 = u0 at d0 ⊢
  generalize vs 1 = u1 at d1 ⊢
  generalize vs 2 = u2 at d2 ⊢
  generalize vs 3 = u3 at d3 ⊢
  generalize vs 4 = u4 at d4 ⊢
  generalize vs 5 = u5 at d5 ⊢
  generalize vs 6 = u6 at d6 ⊢
  generalize vs 7 = u7 at d7 ⊢
  generalize vs 8 = u8 at d8 ⊢
  generalize vs 9 = u9 at d9 ⊢
  generalize vs 10 = u10 at d10 ⊢
  generalize vs 11 = u11 at d11 ⊢
  generalize vs 12 = u12 at d12 ⊢
  generalize vs 13 = u13 at d13 ⊢
  generalize vs 14 = u14 at d14 ⊢
  generalize vs 15 = u15 at d15 ⊢
  generalize vs 16 = u16 at d16 ⊢
  generalize vs 17 = u17 at d17 ⊢
  clear vs
  replace d0 : u0 = _ := d0
  subst d0
  replace d1 : u1 = _ := d1
  subst d1
  replace d2 : u2 = _ := d2
  subst d2
  replace d3 : u3 = _ := d3
  subst d3
  replace d4 : u4 = _ := d4
  subst d4
  replace d5 : u5 = _ := d5
  subst d5
  replace d6 : u6 = _ := d6
  subst d6
  replace d7 : u7 = _ := d7
  subst d7
  replace d8 : u8 = _ := d8
  subst d8
  replace d9 : u9 = _ := d9
  subst d9
  replace d10 : u10 = _ := d10
  subst d10
  replace d11 : u11 = _ := d11
  subst d11
  replace d12 : u12 = _ := d12
  subst d12
  replace d13 : u13 = _ := d13
  subst d13
  replace d14 : u14 = _ := d14
  subst d14
  replace d15 : u15 = _ := d15
  subst d15
  replace d16 : u16 = _ := d16
  subst d16
  replace d17 : u17 = _ := d17
  subst d17
  replace X0 := X0.below hJ
  replace X1 := X1.below hJ
  replace hT := hT.below hJ
  replace h0 := h0.below hJ
  replace h1 := h1.below hJ
  replace HB := Lib.hid (bt HB.out hJ)
  refine Jo.jdone (by kernel_rfl) ?_
  go_wp2
  go_ret
  exact ⟨rfl, HB.out⟩

theorem decimalOrders_walk (s0 : Bool) (a0 : Option Addr) (len0 cap0 : Nat) (y0 : List Int) (e0 : Int) (s1 : Bool) (a1 : Option Addr) (len1 cap1 : Nat) (y1 : List Int) (e1 : Int) (w : World) (hT : Pt w) (w0 : RowIn w a0 len0 cap0 y0) (f0 : -9223372036854775808 ≤ e0) (g0 : e0 ≤ 9223372036854775807) (w1 : RowIn w a1 len1 cap1 y1) (f1 : -9223372036854775808 ≤ e1) (g1 : e1 ≤ 9223372036854775807) :
    Calls Tryz.prog 5 #[.agg #[.bool s0, .slice a0 len0 cap0, .int .i64 e0], .agg #[.bool s1, .slice a1 len1 cap1, .int .i64 e1]] w fun e w' => e = .returned (.bool true) ∧ Below w.heap.size w w' := by
  by_cases hf : len0 ≤ 10
  · by_cases hg : len1 ≤ 10
    · obtain ⟨u, r0⟩ := w0.rd (by omega)
      obtain ⟨v, r1⟩ := w1.rd (by omega)
      exact decimalOrders_main s0 a0 len0 cap0 e0 s1 a1 len1 cap1 e1 w _ _ hT r0 r1 hf hg
    · exact decimalOrders_far1 s0 a0 len0 cap0 e0 s1 a1 len1 cap1 e1 w hT hf (by omega)
  · exact decimalOrders_far0 s0 a0 len0 cap0 e0 s1 a1 len1 cap1 e1 w hT (by omega)
end Go.Proofs.YtdfnjhkcicnkpaaGreatDoor

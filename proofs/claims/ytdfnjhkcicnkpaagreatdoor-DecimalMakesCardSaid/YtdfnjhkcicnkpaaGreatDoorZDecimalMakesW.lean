/-
  The walk of DecimalMakes: for all arguments, where the table lies as it was laid, the call answers true, and nothing that was there has turned.
-/
import Derived.Test.YtdfnjhkcicnkpaaGreatDoorZbf
import Derived.Test.YtdfnjhkcicnkpaaGreatDoorZbg
namespace Go.Proofs.YtdfnjhkcicnkpaaGreatDoor
open Go.RowKit
set_option linter.unusedVariables false
set_option linter.unusedSimpArgs false
set_option maxRecDepth 100000

theorem mkA_may {u v z t x : Int} (h : mkA u v = ((z, t), x)) : mayd z t = true := by
  unfold mkA at h
  split at h
  · simp only [Prod.mk.injEq] at h
    obtain ⟨⟨rfl, rfl⟩, _⟩ := h
    rfl
  · rename_i d hd
    obtain ⟨d1, d2⟩ := d
    simp only [Prod.mk.injEq] at h
    obtain ⟨⟨rfl, rfl⟩, _⟩ := h
    exact may_mkd hd

set_option maxHeartbeats 2000000 in
theorem decimalMakes_far (s0 : Bool) (a0 : Option Addr) (len0 cap0 : Nat) (e1 : Int) (w : World) (hT : Pt w) (hf : 10 < len0) :
    Calls Tryz.prog 4 #[.agg #[.bool s0, .slice a0 len0 cap0], .int .i64 e1] w (PB w true) := by
  have t0 : decide ((10 : Int) < (len0 : Int)) = true := by simp; omega
  go_enter Tryz.func4, Tryz.ntmps4
  go_upto_region 1 with (fail)
  have X0 := (Bo.newAt w (g := w.heap.size) (by simp) #[.bool s0, .slice a0 len0 cap0] 25)
  have HB := Lib.hid (bel1 w (.cells #[.bool s0, .slice a0 len0 cap0] 25))
  replace hT := hT.below HB.out
  generalize hW1 : (w.alloc (.cells #[.bool s0, .slice a0 len0 cap0] 25)) = w1 at *
  clear hW1
  go_wp2_with fail
  refine (awake4 _ hT).mono ?_
  rintro ee w2 ⟨rfl, B⟩
  replace X0 := X0.below B
  replace hT := hT.below B
  replace HB := Lib.hid (bt HB.out B)
  clear B
  have xX00 := X0.at (i := 0) (v := .bool s0) rfl
  have xX01 := X0.at (i := 1) (v := .slice a0 len0 cap0) rfl
  go_wp2
  go_ret
  exact ⟨rfl, HB.out⟩

set_option maxHeartbeats 8000000 in
theorem decimalMakes_main (s0 : Bool) (a0 : Option Addr) (len0 cap0 : Nat) (e1 : Int) (w : World) (b0 : Nat) (z t x : Int) (hT : Pt w) (h0 : Rd w a0 len0 cap0 b0) (hf : len0 ≤ 10) (f1 : -9223372036854775808 ≤ e1) (g1 : e1 ≤ 9223372036854775807) (hr : mkA (sg s0 b0) e1 = ((z, t), x)) :
    Calls Tryz.prog 4 #[.agg #[.bool s0, .slice a0 len0 cap0], .int .i64 e1] w (PB w true) := by
  have t0 : decide ((10 : Int) < (len0 : Int)) = false := by simp; omega
  have l0 : len0 ≤ 20 := by omega
  have l1 : len0 ≤ 1000 := by omega
  have l2 : len0 ≤ 100000 := by omega
  obtain ⟨D, hD⟩ : ∃ D, Lib.decDigits b0 = D := ⟨_, rfl⟩
  obtain ⟨μ, hμ⟩ : ∃ μ, mayC s0 len0 b0 e1 = μ := ⟨_, rfl⟩
  obtain ⟨L, hL⟩ : ∃ L, shD s0 len0 b0 e1 = L := ⟨_, rfl⟩
  have HR := Lib.hid hr
  have HM := Lib.hid (mkA_may hr)
  have Hμ := Lib.hid hμ
  have HL := Lib.hid hL
  have HD1 := Lib.hid (fun w (h : Rd w a0 len0 cap0 b0) (hT : Pt w) => show Calls Tryz.prog 14 #[.slice a0 len0 cap0] w (PS w D) from hD ▸ vDigits h l0 hT)
  have HD2 := Lib.hid (fun w (h : Rd w a0 len0 cap0 b0) => show Calls Tryz.prog 15 #[.slice a0 len0 cap0] w (PS w D) from hD ▸ uDigits h l2)
  have HF := Lib.hid (And.intro f1 g1)
  clear hr hD hμ hL f1 g1
  go_enter Tryz.func4, Tryz.ntmps4
  go_upto_region 1 with (fail)
  have X0 := (Bo.newAt w (g := w.heap.size) (by simp) #[.bool s0, .slice a0 len0 cap0] 25)
  have HB := Lib.hid (bel1 w (.cells #[.bool s0, .slice a0 len0 cap0] 25))
  replace hT := hT.below HB.out
  replace h0 := h0.below HB.out
  generalize hW1 : (w.alloc (.cells #[.bool s0, .slice a0 len0 cap0] 25)) = w1 at *
  clear hW1
  go_wp2_with fail
  refine (awake4 _ hT).mono ?_
  rintro ee w2 ⟨rfl, B⟩
  replace X0 := X0.below B
  replace hT := hT.below B
  replace h0 := h0.below B
  replace HB := Lib.hid (bt HB.out B)
  clear B
  have xX00 := X0.at (i := 0) (v := .bool s0) rfl
  have xX01 := X0.at (i := 1) (v := .slice a0 len0 cap0) rfl
  go_wp2_with fail
  refine (vMakeE h0 l1 HF.out.1 HF.out.2 rfl HR.out).mono ?_
  rintro ee w3 ⟨s3, A3, n3, c3, rfl, p3, k3, B⟩
  clear xX00 xX01
  replace X0 := X0.below B
  replace hT := hT.below B
  replace h0 := h0.below B
  replace HB := Lib.hid (bt HB.out B)
  clear B
  go_upto_region 5 with (fail)
  have lXa := Nat.le_refl (World.heap w3).size
  have nXaX0 := X0.lt
  replace X0 := X0.below (bel1 _ (.cells #[.bool s3, .slice A3 n3 c3, .int .i64 t] 27))
  replace hT := hT.below (bel1 _ (.cells #[.bool s3, .slice A3 n3 c3, .int .i64 t] 27))
  replace h0 := h0.below (bel1 _ (.cells #[.bool s3, .slice A3 n3 c3, .int .i64 t] 27))
  replace p3 := p3.below (bel1 _ (.cells #[.bool s3, .slice A3 n3 c3, .int .i64 t] 27))
  replace HB := Lib.hid (bt HB.out (bel1 _ (.cells #[.bool s3, .slice A3 n3 c3, .int .i64 t] 27)))
  have Xa := Bo.new w3 #[.bool s3, .slice A3 n3 c3, .int .i64 t] 27
  generalize hWn : World.alloc w3 (.cells #[.bool s3, .slice A3 n3 c3, .int .i64 t] 27) = w4 at *
  clear hWn
  have xX00 := X0.at (i := 0) (v := .bool s0) rfl
  have xX01 := X0.at (i := 1) (v := .slice a0 len0 cap0) rfl
  go_wp2_with fail
  refine (uMakeE h0 l1 rfl HR.out).mono ?_
  rintro ee w5 ⟨s4, A4, n4, c4, rfl, p4, k4, B⟩
  clear xX00 xX01
  replace X0 := X0.below B
  replace Xa := Xa.below B
  replace hT := hT.below B
  replace h0 := h0.below B
  replace p3 := p3.below B
  replace HB := Lib.hid (bt HB.out B)
  clear B
  go_upto_region 6 with (fail)
  have lXb := Nat.le_refl (World.heap w5).size
  have nXbX0 := X0.lt
  have nXbXa := Xa.lt
  replace X0 := X0.below (bel1 _ (.cells #[.bool s4, .slice A4 n4 c4, .int .i64 t] 27))
  replace Xa := Xa.below (bel1 _ (.cells #[.bool s4, .slice A4 n4 c4, .int .i64 t] 27))
  replace hT := hT.below (bel1 _ (.cells #[.bool s4, .slice A4 n4 c4, .int .i64 t] 27))
  replace h0 := h0.below (bel1 _ (.cells #[.bool s4, .slice A4 n4 c4, .int .i64 t] 27))
  replace p3 := p3.below (bel1 _ (.cells #[.bool s4, .slice A4 n4 c4, .int .i64 t] 27))
  replace p4 := p4.below (bel1 _ (.cells #[.bool s4, .slice A4 n4 c4, .int .i64 t] 27))
  replace HB := Lib.hid (bt HB.out (bel1 _ (.cells #[.bool s4, .slice A4 n4 c4, .int .i64 t] 27)))
  have Xb := Bo.new w5 #[.bool s4, .slice A4 n4 c4, .int .i64 t] 27
  generalize hWn : World.alloc w5 (.cells #[.bool s4, .slice A4 n4 c4, .int .i64 t] 27) = w6 at *
  clear hWn
  have xXa0 := Xa.at (i := 0) (v := .bool s3) rfl
  have xXa1 := Xa.at (i := 1) (v := .slice A3 n3 c3) rfl
  have xXa2 := Xa.at (i := 2) (v := .int .i64 t) rfl
  have xXb0 := Xb.at (i := 0) (v := .bool s4) rfl
  have xXb1 := Xb.at (i := 1) (v := .slice A4 n4 c4) rfl
  have xXb2 := Xb.at (i := 2) (v := .int .i64 t) rfl
  go_wp2_with fail
  refine (uAlike p3 p4).mono ?_
  rintro ee w7 ⟨rfl, B⟩
  clear xXa0 xXa1 xXa2 xXb0 xXb1 xXb2
  replace X0 := X0.below B
  replace Xa := Xa.below B
  replace Xb := Xb.below B
  replace hT := hT.below B
  replace h0 := h0.below B
  replace p3 := p3.below B
  replace p4 := p4.below B
  replace HB := Lib.hid (bt HB.out B)
  clear B
  clear p4
  have xX00 := X0.at (i := 0) (v := .bool s0) rfl
  have xX01 := X0.at (i := 1) (v := .slice a0 len0 cap0) rfl
  go_upto_region 8 with (fail)
  clear xX00 xX01
  have lXv := Nat.le_refl (World.heap w7).size
  have nXvX0 := X0.lt
  have nXvXa := Xa.lt
  have nXvXb := Xb.lt
  replace X0 := X0.below (bel1 _ (.cells #[.bool s0, .slice a0 len0 cap0, .int .i64 e1] 27))
  replace Xa := Xa.below (bel1 _ (.cells #[.bool s0, .slice a0 len0 cap0, .int .i64 e1] 27))
  replace Xb := Xb.below (bel1 _ (.cells #[.bool s0, .slice a0 len0 cap0, .int .i64 e1] 27))
  replace hT := hT.below (bel1 _ (.cells #[.bool s0, .slice a0 len0 cap0, .int .i64 e1] 27))
  replace h0 := h0.below (bel1 _ (.cells #[.bool s0, .slice a0 len0 cap0, .int .i64 e1] 27))
  replace p3 := p3.below (bel1 _ (.cells #[.bool s0, .slice a0 len0 cap0, .int .i64 e1] 27))
  replace HB := Lib.hid (bt HB.out (bel1 _ (.cells #[.bool s0, .slice a0 len0 cap0, .int .i64 e1] 27)))
  have Xv := Bo.new w7 #[.bool s0, .slice a0 len0 cap0, .int .i64 e1] 27
  generalize hWn : World.alloc w7 (.cells #[.bool s0, .slice a0 len0 cap0, .int .i64 e1] 27) = w8 at *
  clear hWn
  refine Jo.region_joint (T := [0, 1, 2, 3, 4, 5, 6, 7, 8, 9, 10, 11, 12, 13, 14, 15, 16, 17, 18, 19, 20, 21, 22, 23, 24, 25, 26, 27, 28, 29, 30, 31, 32, 33]) (ds := [some 40, some 41, some 42, some 43, some 44, some 45, some 46, some 47, some 48, some 49, some 50, some 51, some 52, some 53, some 54, some 55, some 56, some 57, some 58, some 59, some 60, some 61, some 62, some 63, some 64, some 65, some 66, some 67, some 68, some 69, some 70, some 71, some 72, some 4]) (ls := [[], [0], [1], [1], [1, 2, 3], [1, 4], [5], [6], [6, 7], [6, 8], [6], [6, 10], [6, 11], [6, 9, 12], [6, 13], [14], [15], [15, 16], [15], [15, 18], [15, 17, 19], [15, 20], [21], [22], [22, 23], [22], [22, 25], [22, 24, 26], [22, 27], [28], [29], [29, 30], [29, 31], [32]]) (k := 34) (L := [(some 40, 0), (some 41, 1), (some 42, 2), (some 43, 3), (some 44, 4), (some 45, 5), (some 46, 6), (some 47, 7), (some 48, 8), (some 49, 9), (some 50, 10), (some 51, 11), (some 52, 12), (some 53, 13), (some 54, 14), (some 55, 15), (some 56, 16), (some 57, 17), (some 58, 18), (some 59, 19), (some 60, 20), (some 61, 21), (some 62, 22), (some 63, 23), (some 64, 24), (some 65, 25), (some 66, 26), (some 67, 27), (some 68, 28), (some 69, 29), (some 70, 30), (some 71, 31), (some 72, 32), (some 4, 33)]) (fuel := 0) (J := fun wj => Below (World.heap w8).size w8 wj)
    (F := [Jo.Fact.eq (.bool true), Jo.Fact.eq (.bool true), Jo.Fact.eq (.int .i64 x), Jo.Fact.eq (.int .i64 x), Jo.Fact.eq (.bool true), Jo.Fact.eq (.bool true), Jo.Fact.eq (.bool true), Jo.Fact.eq (.pointer (some ⟨w.heap.size, 1, none⟩)), Jo.Fact.eq (.slice a0 len0 cap0), Jo.Fact.eq (.string (st D)), Jo.Fact.eq (.pointer (some ⟨w.heap.size, 1, none⟩)), Jo.Fact.eq (.slice a0 len0 cap0), Jo.Fact.eq (.string (st D)), Jo.Fact.eq (.bool true), Jo.Fact.eq (.bool true), Jo.Fact.eq (.bool true), Jo.Fact.eq (.agg #[.bool s0, .slice a0 len0 cap0, .int .i64 e1]), Jo.Fact.eq (.bool μ), Jo.Fact.eq (.agg #[.bool s0, .slice a0 len0 cap0, .int .i64 e1]), Jo.Fact.eq (.bool μ), Jo.Fact.eq (.bool true), Jo.Fact.eq (.bool true), Jo.Fact.eq (.bool true), Jo.Fact.eq (.agg #[.bool s0, .slice a0 len0 cap0, .int .i64 e1]), Jo.Fact.eq (.string (st L)), Jo.Fact.eq (.agg #[.bool s0, .slice a0 len0 cap0, .int .i64 e1]), Jo.Fact.eq (.string (st L)), Jo.Fact.eq (.bool true), Jo.Fact.eq (.bool true), Jo.Fact.eq (.bool true), Jo.Fact.eq (.agg #[.bool s3, .slice A3 n3 c3, .int .i64 t]), Jo.Fact.eq (.bool true), Jo.Fact.eq (.bool true), Jo.Fact.eq (.bool true)])
    (by kernel_rfl) (by kernel_rfl) (by decide) rfl rfl (fun _ _ h b => bt h b) ((Below.refl _ _).drew) ?_ (fun vs w9 hJ hd => ?_)
  · refine Jo.jcons (i := 0) (o := ⟨some 40, _, _, _, _, _⟩) (di := some 40) (L := []) (f := Jo.Fact.eq (.bool true)) rfl rfl rfl rfl (fun vs wj hJ hd K hK => ?_) ?_
    · clear hd
      simp only [Jo.putl, List.foldl_nil, Act.put, List.setIfInBounds_toArray, List.set_cons_zero, List.set_cons_succ] at hK ⊢
      go_simp
      exact hK.out _ _ rfl (Below.refl _ _)
    refine Jo.jcons (i := 1) (o := ⟨some 41, _, _, _, _, _⟩) (di := some 41) (L := [(some 40, 0)]) (f := Jo.Fact.eq (.bool true)) rfl rfl rfl rfl (fun vs wj hJ hd K hK => ?_) ?_
    · have d0 : (Jo.Fact.eq (.bool true)).P (vs 0) wj := hd 0 (by decide)
      clear hd
      simp only [Jo.putl, List.foldl_cons, List.foldl_nil, Act.put, List.setIfInBounds_toArray, List.set_cons_zero, List.set_cons_succ] at hK ⊢
      generalize vs 0 = u0 at hK d0 ⊢
      replace d0 : u0 = _ := d0
      subst d0
      go_simp
      exact hK.out _ _ rfl (Below.refl _ _)
    refine Jo.jcons (i := 2) (o := ⟨some 42, _, _, _, _, _⟩) (di := some 42) (L := [(some 41, 1)]) (f := Jo.Fact.eq (.int .i64 x)) rfl rfl rfl rfl (fun vs wj hJ hd K hK => ?_) ?_
    · have d1 : (Jo.Fact.eq (.bool true)).P (vs 1) wj := hd 1 (by decide)
      clear hd
      simp only [Jo.putl, List.foldl_cons, List.foldl_nil, Act.put, List.setIfInBounds_toArray, List.set_cons_zero, List.set_cons_succ] at hK ⊢
      generalize vs 1 = u1 at hK d1 ⊢
      replace d1 : u1 = _ := d1
      subst d1
      go_simp
      exact hK.out _ _ rfl (Below.refl _ _)
    refine Jo.jcons (i := 3) (o := ⟨some 43, _, _, _, _, _⟩) (di := some 43) (L := [(some 41, 1)]) (f := Jo.Fact.eq (.int .i64 x)) rfl rfl rfl rfl (fun vs wj hJ hd K hK => ?_) ?_
    · have d1 : (Jo.Fact.eq (.bool true)).P (vs 1) wj := hd 1 (by decide)
      clear hd
      simp only [Jo.putl, List.foldl_cons, List.foldl_nil, Act.put, List.setIfInBounds_toArray, List.set_cons_zero, List.set_cons_succ] at hK ⊢
      generalize vs 1 = u1 at hK d1 ⊢
      replace d1 : u1 = _ := d1
      subst d1
      go_simp
      exact hK.out _ _ rfl (Below.refl _ _)
    refine Jo.jcons (i := 4) (o := ⟨some 44, _, _, _, _, _⟩) (di := some 44) (L := [(some 41, 1), (some 42, 2), (some 43, 3)]) (f := Jo.Fact.eq (.bool true)) rfl rfl rfl rfl (fun vs wj hJ hd K hK => ?_) ?_
    · have d1 : (Jo.Fact.eq (.bool true)).P (vs 1) wj := hd 1 (by decide)
      have d2 : (Jo.Fact.eq (.int .i64 x)).P (vs 2) wj := hd 2 (by decide)
      have d3 : (Jo.Fact.eq (.int .i64 x)).P (vs 3) wj := hd 3 (by decide)
      clear hd
      simp only [Jo.putl, List.foldl_cons, List.foldl_nil, Act.put, List.setIfInBounds_toArray, List.set_cons_zero, List.set_cons_succ] at hK ⊢
      generalize vs 1 = u1 at hK d1 ⊢
      generalize vs 2 = u2 at hK d2 ⊢
      generalize vs 3 = u3 at hK d3 ⊢
      replace d1 : u1 = _ := d1
      subst d1
      replace d2 : u2 = _ := d2
      subst d2
      replace d3 : u3 = _ := d3
      subst d3
      go_simp
      exact hK.out _ _ (by first | rfl | simp) (Below.refl _ _)
    refine Jo.jcons (i := 5) (o := ⟨some 45, _, _, _, _, _⟩) (di := some 45) (L := [(some 41, 1), (some 44, 4)]) (f := Jo.Fact.eq (.bool true)) rfl rfl rfl rfl (fun vs wj hJ hd K hK => ?_) ?_
    · have d1 : (Jo.Fact.eq (.bool true)).P (vs 1) wj := hd 1 (by decide)
      have d4 : (Jo.Fact.eq (.bool true)).P (vs 4) wj := hd 4 (by decide)
      clear hd
      simp only [Jo.putl, List.foldl_cons, List.foldl_nil, Act.put, List.setIfInBounds_toArray, List.set_cons_zero, List.set_cons_succ] at hK ⊢
      generalize vs 1 = u1 at hK d1 ⊢
      generalize vs 4 = u4 at hK d4 ⊢
      replace d1 : u1 = _ := d1
      subst d1
      replace d4 : u4 = _ := d4
      subst d4
      go_simp
      exact hK.out _ _ rfl (Below.refl _ _)
    refine Jo.jcons (i := 6) (o := ⟨some 46, _, _, _, _, _⟩) (di := some 46) (L := [(some 45, 5)]) (f := Jo.Fact.eq (.bool true)) rfl rfl rfl rfl (fun vs wj hJ hd K hK => ?_) ?_
    · have d5 : (Jo.Fact.eq (.bool true)).P (vs 5) wj := hd 5 (by decide)
      clear hd
      simp only [Jo.putl, List.foldl_cons, List.foldl_nil, Act.put, List.setIfInBounds_toArray, List.set_cons_zero, List.set_cons_succ] at hK ⊢
      generalize vs 5 = u5 at hK d5 ⊢
      replace d5 : u5 = _ := d5
      subst d5
      go_simp
      exact hK.out _ _ rfl (Below.refl _ _)
    refine Jo.jcons (i := 7) (o := ⟨some 47, _, _, _, _, _⟩) (di := some 47) (L := [(some 46, 6)]) (f := Jo.Fact.eq (.pointer (some ⟨w.heap.size, 1, none⟩))) rfl rfl rfl rfl (fun vs wj hJ hd K hK => ?_) ?_
    · have d6 : (Jo.Fact.eq (.bool true)).P (vs 6) wj := hd 6 (by decide)
      clear hd
      simp only [Jo.putl, List.foldl_cons, List.foldl_nil, Act.put, List.setIfInBounds_toArray, List.set_cons_zero, List.set_cons_succ] at hK ⊢
      generalize vs 6 = u6 at hK d6 ⊢
      replace d6 : u6 = _ := d6
      subst d6
      go_simp
      exact hK.out _ _ rfl (Below.refl _ _)
    refine Jo.jcons (i := 8) (o := ⟨some 48, _, _, _, _, _⟩) (di := some 48) (L := [(some 46, 6), (some 47, 7)]) (f := Jo.Fact.eq (.slice a0 len0 cap0)) rfl rfl rfl rfl (fun vs wj hJ hd K hK => ?_) ?_
    · have d6 : (Jo.Fact.eq (.bool true)).P (vs 6) wj := hd 6 (by decide)
      have d7 : (Jo.Fact.eq (.pointer (some ⟨w.heap.size, 1, none⟩))).P (vs 7) wj := hd 7 (by decide)
      clear hd
      simp only [Jo.putl, List.foldl_cons, List.foldl_nil, Act.put, List.setIfInBounds_toArray, List.set_cons_zero, List.set_cons_succ] at hK ⊢
      generalize vs 6 = u6 at hK d6 ⊢
      generalize vs 7 = u7 at hK d7 ⊢
      replace d6 : u6 = _ := d6
      subst d6
      replace d7 : u7 = _ := d7
      subst d7
      have xX00 : World.cell? wj ⟨w.heap.size, 0, none⟩ = some (.bool s0) := (X0.below hJ).cell 0
      have xX01 : World.cell? wj ⟨w.heap.size, 1, none⟩ = some (.slice a0 len0 cap0) := (X0.below hJ).cell 1
      go_simp
      exact hK.out _ _ rfl (Below.refl _ _)
    refine Jo.jcons (i := 9) (o := ⟨some 49, _, _, _, _, _⟩) (di := some 49) (L := [(some 46, 6), (some 48, 8)]) (f := Jo.Fact.eq (.string (st D))) rfl rfl rfl rfl (fun vs wj hJ hd K hK => ?_) ?_
    · have d6 : (Jo.Fact.eq (.bool true)).P (vs 6) wj := hd 6 (by decide)
      have d8 : (Jo.Fact.eq (.slice a0 len0 cap0)).P (vs 8) wj := hd 8 (by decide)
      clear hd
      simp only [Jo.putl, List.foldl_cons, List.foldl_nil, Act.put, List.setIfInBounds_toArray, List.set_cons_zero, List.set_cons_succ] at hK ⊢
      generalize vs 6 = u6 at hK d6 ⊢
      generalize vs 8 = u8 at hK d8 ⊢
      replace d6 : u6 = _ := d6
      subst d6
      replace d8 : u8 = _ := d8
      subst d8
      go_simp
      refine (HD1.out _ (h0.below hJ) (hT.below hJ)).mono ?_
      rintro ee wk ⟨rfl, B⟩
      exact hK.out _ _ rfl B
    refine Jo.jcons (i := 10) (o := ⟨some 50, _, _, _, _, _⟩) (di := some 50) (L := [(some 46, 6)]) (f := Jo.Fact.eq (.pointer (some ⟨w.heap.size, 1, none⟩))) rfl rfl rfl rfl (fun vs wj hJ hd K hK => ?_) ?_
    · have d6 : (Jo.Fact.eq (.bool true)).P (vs 6) wj := hd 6 (by decide)
      clear hd
      simp only [Jo.putl, List.foldl_cons, List.foldl_nil, Act.put, List.setIfInBounds_toArray, List.set_cons_zero, List.set_cons_succ] at hK ⊢
      generalize vs 6 = u6 at hK d6 ⊢
      replace d6 : u6 = _ := d6
      subst d6
      go_simp
      exact hK.out _ _ rfl (Below.refl _ _)
    refine Jo.jcons (i := 11) (o := ⟨some 51, _, _, _, _, _⟩) (di := some 51) (L := [(some 46, 6), (some 50, 10)]) (f := Jo.Fact.eq (.slice a0 len0 cap0)) rfl rfl rfl rfl (fun vs wj hJ hd K hK => ?_) ?_
    · have d6 : (Jo.Fact.eq (.bool true)).P (vs 6) wj := hd 6 (by decide)
      have d10 : (Jo.Fact.eq (.pointer (some ⟨w.heap.size, 1, none⟩))).P (vs 10) wj := hd 10 (by decide)
      clear hd
      simp only [Jo.putl, List.foldl_cons, List.foldl_nil, Act.put, List.setIfInBounds_toArray, List.set_cons_zero, List.set_cons_succ] at hK ⊢
      generalize vs 6 = u6 at hK d6 ⊢
      generalize vs 10 = u10 at hK d10 ⊢
      replace d6 : u6 = _ := d6
      subst d6
      replace d10 : u10 = _ := d10
      subst d10
      have xX00 : World.cell? wj ⟨w.heap.size, 0, none⟩ = some (.bool s0) := (X0.below hJ).cell 0
      have xX01 : World.cell? wj ⟨w.heap.size, 1, none⟩ = some (.slice a0 len0 cap0) := (X0.below hJ).cell 1
      go_simp
      exact hK.out _ _ rfl (Below.refl _ _)
    refine Jo.jcons (i := 12) (o := ⟨some 52, _, _, _, _, _⟩) (di := some 52) (L := [(some 46, 6), (some 51, 11)]) (f := Jo.Fact.eq (.string (st D))) rfl rfl rfl rfl (fun vs wj hJ hd K hK => ?_) ?_
    · have d6 : (Jo.Fact.eq (.bool true)).P (vs 6) wj := hd 6 (by decide)
      have d11 : (Jo.Fact.eq (.slice a0 len0 cap0)).P (vs 11) wj := hd 11 (by decide)
      clear hd
      simp only [Jo.putl, List.foldl_cons, List.foldl_nil, Act.put, List.setIfInBounds_toArray, List.set_cons_zero, List.set_cons_succ] at hK ⊢
      generalize vs 6 = u6 at hK d6 ⊢
      generalize vs 11 = u11 at hK d11 ⊢
      replace d6 : u6 = _ := d6
      subst d6
      replace d11 : u11 = _ := d11
      subst d11
      go_simp
      refine (HD2.out _ (h0.below hJ)).mono ?_
      rintro ee wk ⟨rfl, B⟩
      exact hK.out _ _ rfl B
    refine Jo.jcons (i := 13) (o := ⟨some 53, _, _, _, _, _⟩) (di := some 53) (L := [(some 46, 6), (some 49, 9), (some 52, 12)]) (f := Jo.Fact.eq (.bool true)) rfl rfl rfl rfl (fun vs wj hJ hd K hK => ?_) ?_
    · have d6 : (Jo.Fact.eq (.bool true)).P (vs 6) wj := hd 6 (by decide)
      have d9 : (Jo.Fact.eq (.string (st D))).P (vs 9) wj := hd 9 (by decide)
      have d12 : (Jo.Fact.eq (.string (st D))).P (vs 12) wj := hd 12 (by decide)
      clear hd
      simp only [Jo.putl, List.foldl_cons, List.foldl_nil, Act.put, List.setIfInBounds_toArray, List.set_cons_zero, List.set_cons_succ] at hK ⊢
      generalize vs 6 = u6 at hK d6 ⊢
      generalize vs 9 = u9 at hK d9 ⊢
      generalize vs 12 = u12 at hK d12 ⊢
      replace d6 : u6 = _ := d6
      subst d6
      replace d9 : u9 = _ := d9
      subst d9
      replace d12 : u12 = _ := d12
      subst d12
      go_simp
      exact hK.out _ _ (by first | rfl | simp) (Below.refl _ _)
    refine Jo.jcons (i := 14) (o := ⟨some 54, _, _, _, _, _⟩) (di := some 54) (L := [(some 46, 6), (some 53, 13)]) (f := Jo.Fact.eq (.bool true)) rfl rfl rfl rfl (fun vs wj hJ hd K hK => ?_) ?_
    · have d6 : (Jo.Fact.eq (.bool true)).P (vs 6) wj := hd 6 (by decide)
      have d13 : (Jo.Fact.eq (.bool true)).P (vs 13) wj := hd 13 (by decide)
      clear hd
      simp only [Jo.putl, List.foldl_cons, List.foldl_nil, Act.put, List.setIfInBounds_toArray, List.set_cons_zero, List.set_cons_succ] at hK ⊢
      generalize vs 6 = u6 at hK d6 ⊢
      generalize vs 13 = u13 at hK d13 ⊢
      replace d6 : u6 = _ := d6
      subst d6
      replace d13 : u13 = _ := d13
      subst d13
      go_simp
      exact hK.out _ _ rfl (Below.refl _ _)
    refine Jo.jcons (i := 15) (o := ⟨some 55, _, _, _, _, _⟩) (di := some 55) (L := [(some 54, 14)]) (f := Jo.Fact.eq (.bool true)) rfl rfl rfl rfl (fun vs wj hJ hd K hK => ?_) ?_
    · have d14 : (Jo.Fact.eq (.bool true)).P (vs 14) wj := hd 14 (by decide)
      clear hd
      simp only [Jo.putl, List.foldl_cons, List.foldl_nil, Act.put, List.setIfInBounds_toArray, List.set_cons_zero, List.set_cons_succ] at hK ⊢
      generalize vs 14 = u14 at hK d14 ⊢
      replace d14 : u14 = _ := d14
      subst d14
      go_simp
      exact hK.out _ _ rfl (Below.refl _ _)
    refine Jo.jcons (i := 16) (o := ⟨some 56, _, _, _, _, _⟩) (di := some 56) (L := [(some 55, 15)]) (f := Jo.Fact.eq (.agg #[.bool s0, .slice a0 len0 cap0, .int .i64 e1])) rfl rfl rfl rfl (fun vs wj hJ hd K hK => ?_) ?_
    · have d15 : (Jo.Fact.eq (.bool true)).P (vs 15) wj := hd 15 (by decide)
      clear hd
      simp only [Jo.putl, List.foldl_cons, List.foldl_nil, Act.put, List.setIfInBounds_toArray, List.set_cons_zero, List.set_cons_succ] at hK ⊢
      generalize vs 15 = u15 at hK d15 ⊢
      replace d15 : u15 = _ := d15
      subst d15
      have xXv0 : World.cell? wj ⟨w7.heap.size, 0, none⟩ = some (.bool s0) := (Xv.below hJ).cell 0
      have xXv1 : World.cell? wj ⟨w7.heap.size, 1, none⟩ = some (.slice a0 len0 cap0) := (Xv.below hJ).cell 1
      have xXv2 : World.cell? wj ⟨w7.heap.size, 2, none⟩ = some (.int .i64 e1) := (Xv.below hJ).cell 2
      go_simp
      exact hK.out _ _ rfl (Below.refl _ _)
    refine Jo.jcons (i := 17) (o := ⟨some 57, _, _, _, _, _⟩) (di := some 57) (L := [(some 55, 15), (some 56, 16)]) (f := Jo.Fact.eq (.bool μ)) rfl rfl rfl rfl (fun vs wj hJ hd K hK => ?_) ?_
    · have d15 : (Jo.Fact.eq (.bool true)).P (vs 15) wj := hd 15 (by decide)
      have d16 : (Jo.Fact.eq (.agg #[.bool s0, .slice a0 len0 cap0, .int .i64 e1])).P (vs 16) wj := hd 16 (by decide)
      clear hd
      simp only [Jo.putl, List.foldl_cons, List.foldl_nil, Act.put, List.setIfInBounds_toArray, List.set_cons_zero, List.set_cons_succ] at hK ⊢
      generalize vs 15 = u15 at hK d15 ⊢
      generalize vs 16 = u16 at hK d16 ⊢
      replace d15 : u15 = _ := d15
      subst d15
      replace d16 : u16 = _ := d16
      subst d16
      go_simp
      refine (vMayD (h0.below hJ) (by omega) Hμ.out).mono ?_
      rintro ee wk ⟨rfl, B⟩
      exact hK.out _ _ rfl B
    refine Jo.jcons (i := 18) (o := ⟨some 58, _, _, _, _, _⟩) (di := some 58) (L := [(some 55, 15)]) (f := Jo.Fact.eq (.agg #[.bool s0, .slice a0 len0 cap0, .int .i64 e1])) rfl rfl rfl rfl (fun vs wj hJ hd K hK => ?_) ?_
    · have d15 : (Jo.Fact.eq (.bool true)).P (vs 15) wj := hd 15 (by decide)
      clear hd
      simp only [Jo.putl, List.foldl_cons, List.foldl_nil, Act.put, List.setIfInBounds_toArray, List.set_cons_zero, List.set_cons_succ] at hK ⊢
      generalize vs 15 = u15 at hK d15 ⊢
      replace d15 : u15 = _ := d15
      subst d15
      have xXv0 : World.cell? wj ⟨w7.heap.size, 0, none⟩ = some (.bool s0) := (Xv.below hJ).cell 0
      have xXv1 : World.cell? wj ⟨w7.heap.size, 1, none⟩ = some (.slice a0 len0 cap0) := (Xv.below hJ).cell 1
      have xXv2 : World.cell? wj ⟨w7.heap.size, 2, none⟩ = some (.int .i64 e1) := (Xv.below hJ).cell 2
      go_simp
      exact hK.out _ _ rfl (Below.refl _ _)
    refine Jo.jcons (i := 19) (o := ⟨some 59, _, _, _, _, _⟩) (di := some 59) (L := [(some 55, 15), (some 58, 18)]) (f := Jo.Fact.eq (.bool μ)) rfl rfl rfl rfl (fun vs wj hJ hd K hK => ?_) ?_
    · have d15 : (Jo.Fact.eq (.bool true)).P (vs 15) wj := hd 15 (by decide)
      have d18 : (Jo.Fact.eq (.agg #[.bool s0, .slice a0 len0 cap0, .int .i64 e1])).P (vs 18) wj := hd 18 (by decide)
      clear hd
      simp only [Jo.putl, List.foldl_cons, List.foldl_nil, Act.put, List.setIfInBounds_toArray, List.set_cons_zero, List.set_cons_succ] at hK ⊢
      generalize vs 15 = u15 at hK d15 ⊢
      generalize vs 18 = u18 at hK d18 ⊢
      replace d15 : u15 = _ := d15
      subst d15
      replace d18 : u18 = _ := d18
      subst d18
      go_simp
      refine (uMay (h0.below hJ) l1 Hμ.out).mono ?_
      rintro ee wk ⟨rfl, B⟩
      exact hK.out _ _ rfl B
    refine Jo.jcons (i := 20) (o := ⟨some 60, _, _, _, _, _⟩) (di := some 60) (L := [(some 55, 15), (some 57, 17), (some 59, 19)]) (f := Jo.Fact.eq (.bool true)) rfl rfl rfl rfl (fun vs wj hJ hd K hK => ?_) ?_
    · have d15 : (Jo.Fact.eq (.bool true)).P (vs 15) wj := hd 15 (by decide)
      have d17 : (Jo.Fact.eq (.bool μ)).P (vs 17) wj := hd 17 (by decide)
      have d19 : (Jo.Fact.eq (.bool μ)).P (vs 19) wj := hd 19 (by decide)
      clear hd
      simp only [Jo.putl, List.foldl_cons, List.foldl_nil, Act.put, List.setIfInBounds_toArray, List.set_cons_zero, List.set_cons_succ] at hK ⊢
      generalize vs 15 = u15 at hK d15 ⊢
      generalize vs 17 = u17 at hK d17 ⊢
      generalize vs 19 = u19 at hK d19 ⊢
      replace d15 : u15 = _ := d15
      subst d15
      replace d17 : u17 = _ := d17
      subst d17
      replace d19 : u19 = _ := d19
      subst d19
      go_simp
      exact hK.out _ _ (by first | rfl | simp) (Below.refl _ _)
    refine Jo.jcons (i := 21) (o := ⟨some 61, _, _, _, _, _⟩) (di := some 61) (L := [(some 55, 15), (some 60, 20)]) (f := Jo.Fact.eq (.bool true)) rfl rfl rfl rfl (fun vs wj hJ hd K hK => ?_) ?_
    · have d15 : (Jo.Fact.eq (.bool true)).P (vs 15) wj := hd 15 (by decide)
      have d20 : (Jo.Fact.eq (.bool true)).P (vs 20) wj := hd 20 (by decide)
      clear hd
      simp only [Jo.putl, List.foldl_cons, List.foldl_nil, Act.put, List.setIfInBounds_toArray, List.set_cons_zero, List.set_cons_succ] at hK ⊢
      generalize vs 15 = u15 at hK d15 ⊢
      generalize vs 20 = u20 at hK d20 ⊢
      replace d15 : u15 = _ := d15
      subst d15
      replace d20 : u20 = _ := d20
      subst d20
      go_simp
      exact hK.out _ _ rfl (Below.refl _ _)
    refine Jo.jcons (i := 22) (o := ⟨some 62, _, _, _, _, _⟩) (di := some 62) (L := [(some 61, 21)]) (f := Jo.Fact.eq (.bool true)) rfl rfl rfl rfl (fun vs wj hJ hd K hK => ?_) ?_
    · have d21 : (Jo.Fact.eq (.bool true)).P (vs 21) wj := hd 21 (by decide)
      clear hd
      simp only [Jo.putl, List.foldl_cons, List.foldl_nil, Act.put, List.setIfInBounds_toArray, List.set_cons_zero, List.set_cons_succ] at hK ⊢
      generalize vs 21 = u21 at hK d21 ⊢
      replace d21 : u21 = _ := d21
      subst d21
      go_simp
      exact hK.out _ _ rfl (Below.refl _ _)
    refine Jo.jcons (i := 23) (o := ⟨some 63, _, _, _, _, _⟩) (di := some 63) (L := [(some 62, 22)]) (f := Jo.Fact.eq (.agg #[.bool s0, .slice a0 len0 cap0, .int .i64 e1])) rfl rfl rfl rfl (fun vs wj hJ hd K hK => ?_) ?_
    · have d22 : (Jo.Fact.eq (.bool true)).P (vs 22) wj := hd 22 (by decide)
      clear hd
      simp only [Jo.putl, List.foldl_cons, List.foldl_nil, Act.put, List.setIfInBounds_toArray, List.set_cons_zero, List.set_cons_succ] at hK ⊢
      generalize vs 22 = u22 at hK d22 ⊢
      replace d22 : u22 = _ := d22
      subst d22
      have xXv0 : World.cell? wj ⟨w7.heap.size, 0, none⟩ = some (.bool s0) := (Xv.below hJ).cell 0
      have xXv1 : World.cell? wj ⟨w7.heap.size, 1, none⟩ = some (.slice a0 len0 cap0) := (Xv.below hJ).cell 1
      have xXv2 : World.cell? wj ⟨w7.heap.size, 2, none⟩ = some (.int .i64 e1) := (Xv.below hJ).cell 2
      go_simp
      exact hK.out _ _ rfl (Below.refl _ _)
    refine Jo.jcons (i := 24) (o := ⟨some 64, _, _, _, _, _⟩) (di := some 64) (L := [(some 62, 22), (some 63, 23)]) (f := Jo.Fact.eq (.string (st L))) rfl rfl rfl rfl (fun vs wj hJ hd K hK => ?_) ?_
    · have d22 : (Jo.Fact.eq (.bool true)).P (vs 22) wj := hd 22 (by decide)
      have d23 : (Jo.Fact.eq (.agg #[.bool s0, .slice a0 len0 cap0, .int .i64 e1])).P (vs 23) wj := hd 23 (by decide)
      clear hd
      simp only [Jo.putl, List.foldl_cons, List.foldl_nil, Act.put, List.setIfInBounds_toArray, List.set_cons_zero, List.set_cons_succ] at hK ⊢
      generalize vs 22 = u22 at hK d22 ⊢
      generalize vs 23 = u23 at hK d23 ⊢
      replace d22 : u22 = _ := d22
      subst d22
      replace d23 : u23 = _ := d23
      subst d23
      go_simp
      refine (vShow (h0.below hJ) l0 (hT.below hJ) HL.out).mono ?_
      rintro ee wk ⟨rfl, B⟩
      exact hK.out _ _ rfl B
    refine Jo.jcons (i := 25) (o := ⟨some 65, _, _, _, _, _⟩) (di := some 65) (L := [(some 62, 22)]) (f := Jo.Fact.eq (.agg #[.bool s0, .slice a0 len0 cap0, .int .i64 e1])) rfl rfl rfl rfl (fun vs wj hJ hd K hK => ?_) ?_
    · have d22 : (Jo.Fact.eq (.bool true)).P (vs 22) wj := hd 22 (by decide)
      clear hd
      simp only [Jo.putl, List.foldl_cons, List.foldl_nil, Act.put, List.setIfInBounds_toArray, List.set_cons_zero, List.set_cons_succ] at hK ⊢
      generalize vs 22 = u22 at hK d22 ⊢
      replace d22 : u22 = _ := d22
      subst d22
      have xXv0 : World.cell? wj ⟨w7.heap.size, 0, none⟩ = some (.bool s0) := (Xv.below hJ).cell 0
      have xXv1 : World.cell? wj ⟨w7.heap.size, 1, none⟩ = some (.slice a0 len0 cap0) := (Xv.below hJ).cell 1
      have xXv2 : World.cell? wj ⟨w7.heap.size, 2, none⟩ = some (.int .i64 e1) := (Xv.below hJ).cell 2
      go_simp
      exact hK.out _ _ rfl (Below.refl _ _)
    refine Jo.jcons (i := 26) (o := ⟨some 66, _, _, _, _, _⟩) (di := some 66) (L := [(some 62, 22), (some 65, 25)]) (f := Jo.Fact.eq (.string (st L))) rfl rfl rfl rfl (fun vs wj hJ hd K hK => ?_) ?_
    · have d22 : (Jo.Fact.eq (.bool true)).P (vs 22) wj := hd 22 (by decide)
      have d25 : (Jo.Fact.eq (.agg #[.bool s0, .slice a0 len0 cap0, .int .i64 e1])).P (vs 25) wj := hd 25 (by decide)
      clear hd
      simp only [Jo.putl, List.foldl_cons, List.foldl_nil, Act.put, List.setIfInBounds_toArray, List.set_cons_zero, List.set_cons_succ] at hK ⊢
      generalize vs 22 = u22 at hK d22 ⊢
      generalize vs 25 = u25 at hK d25 ⊢
      replace d22 : u22 = _ := d22
      subst d22
      replace d25 : u25 = _ := d25
      subst d25
      go_simp
      refine (uShow (h0.below hJ) l0 HL.out).mono ?_
      rintro ee wk ⟨rfl, B⟩
      exact hK.out _ _ rfl B
    refine Jo.jcons (i := 27) (o := ⟨some 67, _, _, _, _, _⟩) (di := some 67) (L := [(some 62, 22), (some 64, 24), (some 66, 26)]) (f := Jo.Fact.eq (.bool true)) rfl rfl rfl rfl (fun vs wj hJ hd K hK => ?_) ?_
    · have d22 : (Jo.Fact.eq (.bool true)).P (vs 22) wj := hd 22 (by decide)
      have d24 : (Jo.Fact.eq (.string (st L))).P (vs 24) wj := hd 24 (by decide)
      have d26 : (Jo.Fact.eq (.string (st L))).P (vs 26) wj := hd 26 (by decide)
      clear hd
      simp only [Jo.putl, List.foldl_cons, List.foldl_nil, Act.put, List.setIfInBounds_toArray, List.set_cons_zero, List.set_cons_succ] at hK ⊢
      generalize vs 22 = u22 at hK d22 ⊢
      generalize vs 24 = u24 at hK d24 ⊢
      generalize vs 26 = u26 at hK d26 ⊢
      replace d22 : u22 = _ := d22
      subst d22
      replace d24 : u24 = _ := d24
      subst d24
      replace d26 : u26 = _ := d26
      subst d26
      go_simp
      exact hK.out _ _ (by first | rfl | simp) (Below.refl _ _)
    refine Jo.jcons (i := 28) (o := ⟨some 68, _, _, _, _, _⟩) (di := some 68) (L := [(some 62, 22), (some 67, 27)]) (f := Jo.Fact.eq (.bool true)) rfl rfl rfl rfl (fun vs wj hJ hd K hK => ?_) ?_
    · have d22 : (Jo.Fact.eq (.bool true)).P (vs 22) wj := hd 22 (by decide)
      have d27 : (Jo.Fact.eq (.bool true)).P (vs 27) wj := hd 27 (by decide)
      clear hd
      simp only [Jo.putl, List.foldl_cons, List.foldl_nil, Act.put, List.setIfInBounds_toArray, List.set_cons_zero, List.set_cons_succ] at hK ⊢
      generalize vs 22 = u22 at hK d22 ⊢
      generalize vs 27 = u27 at hK d27 ⊢
      replace d22 : u22 = _ := d22
      subst d22
      replace d27 : u27 = _ := d27
      subst d27
      go_simp
      exact hK.out _ _ rfl (Below.refl _ _)
    refine Jo.jcons (i := 29) (o := ⟨some 69, _, _, _, _, _⟩) (di := some 69) (L := [(some 68, 28)]) (f := Jo.Fact.eq (.bool true)) rfl rfl rfl rfl (fun vs wj hJ hd K hK => ?_) ?_
    · have d28 : (Jo.Fact.eq (.bool true)).P (vs 28) wj := hd 28 (by decide)
      clear hd
      simp only [Jo.putl, List.foldl_cons, List.foldl_nil, Act.put, List.setIfInBounds_toArray, List.set_cons_zero, List.set_cons_succ] at hK ⊢
      generalize vs 28 = u28 at hK d28 ⊢
      replace d28 : u28 = _ := d28
      subst d28
      go_simp
      exact hK.out _ _ rfl (Below.refl _ _)
    refine Jo.jcons (i := 30) (o := ⟨some 70, _, _, _, _, _⟩) (di := some 70) (L := [(some 69, 29)]) (f := Jo.Fact.eq (.agg #[.bool s3, .slice A3 n3 c3, .int .i64 t])) rfl rfl rfl rfl (fun vs wj hJ hd K hK => ?_) ?_
    · have d29 : (Jo.Fact.eq (.bool true)).P (vs 29) wj := hd 29 (by decide)
      clear hd
      simp only [Jo.putl, List.foldl_cons, List.foldl_nil, Act.put, List.setIfInBounds_toArray, List.set_cons_zero, List.set_cons_succ] at hK ⊢
      generalize vs 29 = u29 at hK d29 ⊢
      replace d29 : u29 = _ := d29
      subst d29
      have xXa0 : World.cell? wj ⟨w3.heap.size, 0, none⟩ = some (.bool s3) := (Xa.below hJ).cell 0
      have xXa1 : World.cell? wj ⟨w3.heap.size, 1, none⟩ = some (.slice A3 n3 c3) := (Xa.below hJ).cell 1
      have xXa2 : World.cell? wj ⟨w3.heap.size, 2, none⟩ = some (.int .i64 t) := (Xa.below hJ).cell 2
      go_simp
      exact hK.out _ _ rfl (Below.refl _ _)
    refine Jo.jcons (i := 31) (o := ⟨some 71, _, _, _, _, _⟩) (di := some 71) (L := [(some 69, 29), (some 70, 30)]) (f := Jo.Fact.eq (.bool true)) rfl rfl rfl rfl (fun vs wj hJ hd K hK => ?_) ?_
    · have d29 : (Jo.Fact.eq (.bool true)).P (vs 29) wj := hd 29 (by decide)
      have d30 : (Jo.Fact.eq (.agg #[.bool s3, .slice A3 n3 c3, .int .i64 t])).P (vs 30) wj := hd 30 (by decide)
      clear hd
      simp only [Jo.putl, List.foldl_cons, List.foldl_nil, Act.put, List.setIfInBounds_toArray, List.set_cons_zero, List.set_cons_succ] at hK ⊢
      generalize vs 29 = u29 at hK d29 ⊢
      generalize vs 30 = u30 at hK d30 ⊢
      replace d29 : u29 = _ := d29
      subst d29
      replace d30 : u30 = _ := d30
      subst d30
      go_simp
      refine (vMayW (p3.below hJ) (by omega) HM.out).mono ?_
      rintro ee wk ⟨rfl, B⟩
      exact hK.out _ _ rfl B
    refine Jo.jcons (i := 32) (o := ⟨some 72, _, _, _, _, _⟩) (di := some 72) (L := [(some 69, 29), (some 71, 31)]) (f := Jo.Fact.eq (.bool true)) rfl rfl rfl rfl (fun vs wj hJ hd K hK => ?_) ?_
    · have d29 : (Jo.Fact.eq (.bool true)).P (vs 29) wj := hd 29 (by decide)
      have d31 : (Jo.Fact.eq (.bool true)).P (vs 31) wj := hd 31 (by decide)
      clear hd
      simp only [Jo.putl, List.foldl_cons, List.foldl_nil, Act.put, List.setIfInBounds_toArray, List.set_cons_zero, List.set_cons_succ] at hK ⊢
      generalize vs 29 = u29 at hK d29 ⊢
      generalize vs 31 = u31 at hK d31 ⊢
      replace d29 : u29 = _ := d29
      subst d29
      replace d31 : u31 = _ := d31
      subst d31
      go_simp
      exact hK.out _ _ rfl (Below.refl _ _)
    refine Jo.jcons (i := 33) (o := ⟨some 4, _, _, _, _, _⟩) (di := some 4) (L := [(some 72, 32)]) (f := Jo.Fact.eq (.bool true)) rfl rfl rfl rfl (fun vs wj hJ hd K hK => ?_) ?_
    · have d32 : (Jo.Fact.eq (.bool true)).P (vs 32) wj := hd 32 (by decide)
      clear hd
      simp only [Jo.putl, List.foldl_cons, List.foldl_nil, Act.put, List.setIfInBounds_toArray, List.set_cons_zero, List.set_cons_succ] at hK ⊢
      generalize vs 32 = u32 at hK d32 ⊢
      replace d32 : u32 = _ := d32
      subst d32
      go_simp
      exact hK.out _ _ rfl (Below.refl _ _)
    exact Jo.Steps.nil
  have d0 : (Jo.Fact.eq (.bool true)).P (vs 0) w9 := hd 0 (by decide)
  have d1 : (Jo.Fact.eq (.bool true)).P (vs 1) w9 := hd 1 (by decide)
  have d2 : (Jo.Fact.eq (.int .i64 x)).P (vs 2) w9 := hd 2 (by decide)
  have d3 : (Jo.Fact.eq (.int .i64 x)).P (vs 3) w9 := hd 3 (by decide)
  have d4 : (Jo.Fact.eq (.bool true)).P (vs 4) w9 := hd 4 (by decide)
  have d5 : (Jo.Fact.eq (.bool true)).P (vs 5) w9 := hd 5 (by decide)
  have d6 : (Jo.Fact.eq (.bool true)).P (vs 6) w9 := hd 6 (by decide)
  have d7 : (Jo.Fact.eq (.pointer (some ⟨w.heap.size, 1, none⟩))).P (vs 7) w9 := hd 7 (by decide)
  have d8 : (Jo.Fact.eq (.slice a0 len0 cap0)).P (vs 8) w9 := hd 8 (by decide)
  have d9 : (Jo.Fact.eq (.string (st D))).P (vs 9) w9 := hd 9 (by decide)
  have d10 : (Jo.Fact.eq (.pointer (some ⟨w.heap.size, 1, none⟩))).P (vs 10) w9 := hd 10 (by decide)
  have d11 : (Jo.Fact.eq (.slice a0 len0 cap0)).P (vs 11) w9 := hd 11 (by decide)
  have d12 : (Jo.Fact.eq (.string (st D))).P (vs 12) w9 := hd 12 (by decide)
  have d13 : (Jo.Fact.eq (.bool true)).P (vs 13) w9 := hd 13 (by decide)
  have d14 : (Jo.Fact.eq (.bool true)).P (vs 14) w9 := hd 14 (by decide)
  have d15 : (Jo.Fact.eq (.bool true)).P (vs 15) w9 := hd 15 (by decide)
  have d16 : (Jo.Fact.eq (.agg #[.bool s0, .slice a0 len0 cap0, .int .i64 e1])).P (vs 16) w9 := hd 16 (by decide)
  have d17 : (Jo.Fact.eq (.bool μ)).P (vs 17) w9 := hd 17 (by decide)
  have d18 : (Jo.Fact.eq (.agg #[.bool s0, .slice a0 len0 cap0, .int .i64 e1])).P (vs 18) w9 := hd 18 (by decide)
  have d19 : (Jo.Fact.eq (.bool μ)).P (vs 19) w9 := hd 19 (by decide)
  have d20 : (Jo.Fact.eq (.bool true)).P (vs 20) w9 := hd 20 (by decide)
  have d21 : (Jo.Fact.eq (.bool true)).P (vs 21) w9 := hd 21 (by decide)
  have d22 : (Jo.Fact.eq (.bool true)).P (vs 22) w9 := hd 22 (by decide)
  have d23 : (Jo.Fact.eq (.agg #[.bool s0, .slice a0 len0 cap0, .int .i64 e1])).P (vs 23) w9 := hd 23 (by decide)
  have d24 : (Jo.Fact.eq (.string (st L))).P (vs 24) w9 := hd 24 (by decide)
  have d25 : (Jo.Fact.eq (.agg #[.bool s0, .slice a0 len0 cap0, .int .i64 e1])).P (vs 25) w9 := hd 25 (by decide)
  have d26 : (Jo.Fact.eq (.string (st L))).P (vs 26) w9 := hd 26 (by decide)
  have d27 : (Jo.Fact.eq (.bool true)).P (vs 27) w9 := hd 27 (by decide)
  have d28 : (Jo.Fact.eq (.bool true)).P (vs 28) w9 := hd 28 (by decide)
  have d29 : (Jo.Fact.eq (.bool true)).P (vs 29) w9 := hd 29 (by decide)
  have d30 : (Jo.Fact.eq (.agg #[.bool s3, .slice A3 n3 c3, .int .i64 t])).P (vs 30) w9 := hd 30 (by decide)
  have d31 : (Jo.Fact.eq (.bool true)).P (vs 31) w9 := hd 31 (by decide)
  have d32 : (Jo.Fact.eq (.bool true)).P (vs 32) w9 := hd 32 (by decide)
  have d33 : (Jo.Fact.eq (.bool true)).P (vs 33) w9 := hd 33 (by decide)
  clear hd
  simp only [Jo.putl, List.foldl_cons, List.foldl_nil, Act.put, List.setIfInBounds_toArray, List.set_cons_zero, List.set_cons_succ]
  generalize vs 0 = u0 at d0 ⊢
  generalize vs 1 = u1 at d1 ⊢
  generalize vs 2 = u2 at d2 ⊢
  generalize vs 3 = u3 at d3 ⊢
  generalize vs 4 = u4 at d4 ⊢
  generalize vs 5 = u5 at d5 ⊢
  generalize vs 6 = u6 at d6 ⊢
  generalize vs 7 = u7 at d7 ⊢
  generalize vs 8 = u8 at d8 ⊢
  generalize vs 9 = u9 at d9 ⊢
  generalize vs 10 = u10 at d10 ⊢
  generalize vs 11 = u11 at d11 ⊢
  generalize vs 12 = u12 at d12 ⊢
  generalize vs 13 = u13 at d13 ⊢
  generalize vs 14 = u14 at d14 ⊢
  generalize vs 15 = u15 at d15 ⊢
  generalize vs 16 = u16 at d16 ⊢
  generalize vs 17 = u17 at d17 ⊢
  generalize vs 18 = u18 at d18 ⊢
  generalize vs 19 = u19 at d19 ⊢
  generalize vs 20 = u20 at d20 ⊢
  generalize vs 21 = u21 at d21 ⊢
  generalize vs 22 = u22 at d22 ⊢
  generalize vs 23 = u23 at d23 ⊢
  generalize vs 24 = u24 at d24 ⊢
  generalize vs 25 = u25 at d25 ⊢
  generalize vs 26 = u26 at d26 ⊢
  generalize vs 27 = u27 at d27 ⊢
  generalize vs 28 = u28 at d28 ⊢
  generalize vs 29 = u29 at d29 ⊢
  generalize vs 30 = u30 at d30 ⊢
  generalize vs 31 = u31 at d31 ⊢
  generalize vs 32 = u32 at d32 ⊢
  generalize vs 33 = u33 at d33 ⊢
  clear vs
  replace d0 : u0 = _ := d0
  subst d0
  replace d1 : u1 = _ := d1
  subst d1
  replace d2 : u2 = _ := d2
  subst d2
  replace d3 : u3 = _ := d3
  subst d3
  replace d4 : u4 = _ := d4
  subst d4
  replace d5 : u5 = _ := d5
  subst d5
  replace d6 : u6 = _ := d6
  subst d6
  replace d7 : u7 = _ := d7
  subst d7
  replace d8 : u8 = _ := d8
  subst d8
  replace d9 : u9 = _ := d9
  subst d9
  replace d10 : u10 = _ := d10
  subst d10
  replace d11 : u11 = _ := d11
  subst d11
  replace d12 : u12 = _ := d12
  subst d12
  replace d13 : u13 = _ := d13
  subst d13
  replace d14 : u14 = _ := d14
  subst d14
  replace d15 : u15 = _ := d15
  subst d15
  replace d16 : u16 = _ := d16
  subst d16
  replace d17 : u17 = _ := d17
  subst d17
  replace d18 : u18 = _ := d18
  subst d18
  replace d19 : u19 = _ := d19
  subst d19
  replace d20 : u20 = _ := d20
  subst d20
  replace d21 : u21 = _ := d21
  subst d21
  replace d22 : u22 = _ := d22
  subst d22
  replace d23 : u23 = _ := d23
  subst d23
  replace d24 : u24 = _ := d24
  subst d24
  replace d25 : u25 = _ := d25
  subst d25
  replace d26 : u26 = _ := d26
  subst d26
  replace d27 : u27 = _ := d27
  subst d27
  replace d28 : u28 = _ := d28
  subst d28
  replace d29 : u29 = _ := d29
  subst d29
  replace d30 : u30 = _ := d30
  subst d30
  replace d31 : u31 = _ := d31
  subst d31
  replace d32 : u32 = _ := d32
  subst d32
  replace d33 : u33 = _ := d33
  subst d33
  replace X0 := X0.below hJ
  replace Xa := Xa.below hJ
  replace Xb := Xb.below hJ
  replace Xv := Xv.below hJ
  replace hT := hT.below hJ
  replace h0 := h0.below hJ
  replace p3 := p3.below hJ
  replace HB := Lib.hid (bt HB.out hJ)
  refine Jo.jdone (by kernel_rfl) ?_
  go_wp2
  go_ret
  exact ⟨rfl, HB.out⟩

theorem decimalMakes_walk (s0 : Bool) (a0 : Option Addr) (len0 cap0 : Nat) (y0 : List Int) (e1 : Int) (w : World) (hT : Pt w) (w0 : RowIn w a0 len0 cap0 y0) (f1 : -9223372036854775808 ≤ e1) (g1 : e1 ≤ 9223372036854775807) :
    Calls Tryz.prog 4 #[.agg #[.bool s0, .slice a0 len0 cap0], .int .i64 e1] w fun e w' => e = .returned (.bool true) ∧ Below w.heap.size w w' := by
  by_cases hf : len0 ≤ 10
  · obtain ⟨u, r0⟩ := w0.rd (by omega)
    exact decimalMakes_main s0 a0 len0 cap0 e1 w u _ _ _ hT r0 hf f1 g1 rfl
  · exact decimalMakes_far s0 a0 len0 cap0 e1 w hT (by omega)
end Go.Proofs.YtdfnjhkcicnkpaaGreatDoor

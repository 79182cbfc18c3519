/-
  The walk of QuotRatios: for all arguments, where the table lies as it was laid, the call answers true, and nothing that was there has turned.
-/
import Derived.Test.YtpmakljahhhnfaaGreatDoorYAbd
import Derived.Test.YtpmakljahhhnfaaGreatDoorYAbl
import Derived.Test.YtpmakljahhhnfaaGreatDoorYAbm
import Derived.Test.YtpmakljahhhnfaaGreatDoorYAbo
namespace Go.Proofs.YtpmakljahhhnfaaGreatDoor
open Go.RowKit
set_option linter.unusedVariables false
set_option linter.unusedSimpArgs false
set_option maxRecDepth 100000

set_option maxHeartbeats 8000000 in
theorem quotRatios_far0 (s0 : Bool) (a0 : Option Addr) (len0 cap0 : Nat) (s1 : Bool) (a1 : Option Addr) (len1 cap1 : Nat) (s2 : Bool) (a2 : Option Addr) (len2 cap2 : Nat) (e2 : Int) (b3 : Bool) (w : World) (hT : Tab w) (hf : 20 < len0) :
    Calls Tryz.prog 5 #[.agg #[.bool s0, .slice a0 len0 cap0], .agg #[.bool s1, .slice a1 len1 cap1], .agg #[.bool s2, .slice a2 len2 cap2, .int .i64 e2], .bool b3] w (PB w true) := by
  go_enter Tryz.func5, Tryz.ntmps5
  go_upto_region 1 with (fail)
  have X0 := (Bo.newAt w (g := w.heap.size) (by simp) #[.bool s0, .slice a0 len0 cap0] 34).below (bel2 _ (.cells #[.bool s1, .slice a1 len1 cap1] 34) (.cells #[.bool s2, .slice a2 len2 cap2, .int .i64 e2] 36))
  have X1 := (Bo.newAt (w.alloc (.cells #[.bool s0, .slice a0 len0 cap0] 34)) (g := w.heap.size + 1) (by simp) #[.bool s1, .slice a1 len1 cap1] 34).below (bel1 _ (.cells #[.bool s2, .slice a2 len2 cap2, .int .i64 e2] 36))
  have X2 := (Bo.newAt ((w.alloc (.cells #[.bool s0, .slice a0 len0 cap0] 34)).alloc (.cells #[.bool s1, .slice a1 len1 cap1] 34)) (g := w.heap.size + 1 + 1) (by simp) #[.bool s2, .slice a2 len2 cap2, .int .i64 e2] 36)
  have HB := Lib.hid (bel3 w (.cells #[.bool s0, .slice a0 len0 cap0] 34) (.cells #[.bool s1, .slice a1 len1 cap1] 34) (.cells #[.bool s2, .slice a2 len2 cap2, .int .i64 e2] 36))
  replace hT := hT.below HB.out
  generalize hW1 : (((w.alloc (.cells #[.bool s0, .slice a0 len0 cap0] 34)).alloc (.cells #[.bool s1, .slice a1 len1 cap1] 34)).alloc (.cells #[.bool s2, .slice a2 len2 cap2, .int .i64 e2] 36)) = w1 at *
  clear hW1
  go_wp2_with fail
  refine (awake7 hT).mono ?_
  rintro ee w2 ⟨rfl, B⟩
  replace X0 := X0.below B
  replace X1 := X1.below B
  replace X2 := X2.below B
  replace hT := hT.below B
  replace HB := Lib.hid (bt HB.out B)
  clear B
  clear hT
  have xX00 := X0.a 0 (.bool s0) rfl
  have xX01 := X0.a 1 (.slice a0 len0 cap0) rfl
  have xX10 := X1.a 0 (.bool s1) rfl
  have xX11 := X1.a 1 (.slice a1 len1 cap1) rfl
  have xX20 := X2.a 0 (.bool s2) rfl
  have xX21 := X2.a 1 (.slice a2 len2 cap2) rfl
  have xX22 := X2.a 2 (.int .i64 e2) rfl
  go_wp2
  go_ret
  exact ⟨rfl, HB.out⟩
set_option maxHeartbeats 8000000 in
theorem quotRatios_far1 (s0 : Bool) (a0 : Option Addr) (len0 cap0 : Nat) (s1 : Bool) (a1 : Option Addr) (len1 cap1 : Nat) (s2 : Bool) (a2 : Option Addr) (len2 cap2 : Nat) (e2 : Int) (b3 : Bool) (w : World) (hT : Tab w) (hg : len0 ≤ 20) (hf : 20 < len1) :
    Calls Tryz.prog 5 #[.agg #[.bool s0, .slice a0 len0 cap0], .agg #[.bool s1, .slice a1 len1 cap1], .agg #[.bool s2, .slice a2 len2 cap2, .int .i64 e2], .bool b3] w (PB w true) := by
  have t0 : ¬ (20 : Int) < len0 := by omega
  go_enter Tryz.func5, Tryz.ntmps5
  go_upto_region 1 with (fail)
  have X0 := (Bo.newAt w (g := w.heap.size) (by simp) #[.bool s0, .slice a0 len0 cap0] 34).below (bel2 _ (.cells #[.bool s1, .slice a1 len1 cap1] 34) (.cells #[.bool s2, .slice a2 len2 cap2, .int .i64 e2] 36))
  have X1 := (Bo.newAt (w.alloc (.cells #[.bool s0, .slice a0 len0 cap0] 34)) (g := w.heap.size + 1) (by simp) #[.bool s1, .slice a1 len1 cap1] 34).below (bel1 _ (.cells #[.bool s2, .slice a2 len2 cap2, .int .i64 e2] 36))
  have X2 := (Bo.newAt ((w.alloc (.cells #[.bool s0, .slice a0 len0 cap0] 34)).alloc (.cells #[.bool s1, .slice a1 len1 cap1] 34)) (g := w.heap.size + 1 + 1) (by simp) #[.bool s2, .slice a2 len2 cap2, .int .i64 e2] 36)
  have HB := Lib.hid (bel3 w (.cells #[.bool s0, .slice a0 len0 cap0] 34) (.cells #[.bool s1, .slice a1 len1 cap1] 34) (.cells #[.bool s2, .slice a2 len2 cap2, .int .i64 e2] 36))
  replace hT := hT.below HB.out
  generalize hW1 : (((w.alloc (.cells #[.bool s0, .slice a0 len0 cap0] 34)).alloc (.cells #[.bool s1, .slice a1 len1 cap1] 34)).alloc (.cells #[.bool s2, .slice a2 len2 cap2, .int .i64 e2] 36)) = w1 at *
  clear hW1
  go_wp2_with fail
  refine (awake7 hT).mono ?_
  rintro ee w2 ⟨rfl, B⟩
  replace X0 := X0.below B
  replace X1 := X1.below B
  replace X2 := X2.below B
  replace hT := hT.below B
  replace HB := Lib.hid (bt HB.out B)
  clear B
  clear hT
  have xX00 := X0.a 0 (.bool s0) rfl
  have xX01 := X0.a 1 (.slice a0 len0 cap0) rfl
  have xX10 := X1.a 0 (.bool s1) rfl
  have xX11 := X1.a 1 (.slice a1 len1 cap1) rfl
  have xX20 := X2.a 0 (.bool s2) rfl
  have xX21 := X2.a 1 (.slice a2 len2 cap2) rfl
  have xX22 := X2.a 2 (.int .i64 e2) rfl
  go_wp2
  go_ret
  exact ⟨rfl, HB.out⟩
set_option maxHeartbeats 8000000 in
theorem quotRatios_far2 (s0 : Bool) (a0 : Option Addr) (len0 cap0 : Nat) (s1 : Bool) (a1 : Option Addr) (len1 cap1 : Nat) (s2 : Bool) (a2 : Option Addr) (len2 cap2 : Nat) (e2 : Int) (b3 : Bool) (w : World) (hT : Tab w) (hg : len0 ≤ 20) (hh : len1 ≤ 20) (hf : 10 < len2) :
    Calls Tryz.prog 5 #[.agg #[.bool s0, .slice a0 len0 cap0], .agg #[.bool s1, .slice a1 len1 cap1], .agg #[.bool s2, .slice a2 len2 cap2, .int .i64 e2], .bool b3] w (PB w true) := by
  have t0 : ¬ (20 : Int) < len0 := by omega
  have t1 : ¬ (20 : Int) < len1 := by omega
  go_enter Tryz.func5, Tryz.ntmps5
  go_upto_region 1 with (fail)
  have X0 := (Bo.newAt w (g := w.heap.size) (by simp) #[.bool s0, .slice a0 len0 cap0] 34).below (bel2 _ (.cells #[.bool s1, .slice a1 len1 cap1] 34) (.cells #[.bool s2, .slice a2 len2 cap2, .int .i64 e2] 36))
  have X1 := (Bo.newAt (w.alloc (.cells #[.bool s0, .slice a0 len0 cap0] 34)) (g := w.heap.size + 1) (by simp) #[.bool s1, .slice a1 len1 cap1] 34).below (bel1 _ (.cells #[.bool s2, .slice a2 len2 cap2, .int .i64 e2] 36))
  have X2 := (Bo.newAt ((w.alloc (.cells #[.bool s0, .slice a0 len0 cap0] 34)).alloc (.cells #[.bool s1, .slice a1 len1 cap1] 34)) (g := w.heap.size + 1 + 1) (by simp) #[.bool s2, .slice a2 len2 cap2, .int .i64 e2] 36)
  have HB := Lib.hid (bel3 w (.cells #[.bool s0, .slice a0 len0 cap0] 34) (.cells #[.bool s1, .slice a1 len1 cap1] 34) (.cells #[.bool s2, .slice a2 len2 cap2, .int .i64 e2] 36))
  replace hT := hT.below HB.out
  generalize hW1 : (((w.alloc (.cells #[.bool s0, .slice a0 len0 cap0] 34)).alloc (.cells #[.bool s1, .slice a1 len1 cap1] 34)).alloc (.cells #[.bool s2, .slice a2 len2 cap2, .int .i64 e2] 36)) = w1 at *
  clear hW1
  go_wp2_with fail
  refine (awake7 hT).mono ?_
  rintro ee w2 ⟨rfl, B⟩
  replace X0 := X0.below B
  replace X1 := X1.below B
  replace X2 := X2.below B
  replace hT := hT.below B
  replace HB := Lib.hid (bt HB.out B)
  clear B
  clear hT
  have xX00 := X0.a 0 (.bool s0) rfl
  have xX01 := X0.a 1 (.slice a0 len0 cap0) rfl
  have xX10 := X1.a 0 (.bool s1) rfl
  have xX11 := X1.a 1 (.slice a1 len1 cap1) rfl
  have xX20 := X2.a 0 (.bool s2) rfl
  have xX21 := X2.a 1 (.slice a2 len2 cap2) rfl
  have xX22 := X2.a 2 (.int .i64 e2) rfl
  go_wp2
  go_ret
  exact ⟨rfl, HB.out⟩
set_option maxHeartbeats 8000000 in
theorem quotRatios_main (s0 : Bool) (a0 : Option Addr) (len0 cap0 : Nat) (s1 : Bool) (a1 : Option Addr) (len1 cap1 : Nat) (s2 : Bool) (a2 : Option Addr) (len2 cap2 : Nat) (e2 : Int) (b3 : Bool) (w : World) (x y : Int) (a : Nat) (hT : Tab w) (h0 : Wr w s0 a0 len0 cap0 x) (h1 : Wr w s1 a1 len1 cap1 y) (h2 : Rd w a2 len2 cap2 a) (l0 : len0 ≤ 20) (l1 : len1 ≤ 20) (l2 : len2 ≤ 10) :
    Calls Tryz.prog 5 #[.agg #[.bool s0, .slice a0 len0 cap0], .agg #[.bool s1, .slice a1 len1 cap1], .agg #[.bool s2, .slice a2 len2 cap2, .int .i64 e2], .bool b3] w (PB w true) := by
  obtain ⟨r, hr⟩ := rq_ex b3 x y
  obtain ⟨m, hm⟩ : ∃ m, mayC s2 len2 a e2 = m := ⟨_, rfl⟩
  obtain ⟨d, hd⟩ := fm_ex b3 m (sg s2 a) e2
  have HR := Lib.hid hr
  have HM := Lib.hid hm
  have HD := Lib.hid hd
  have t0 : ¬ (20 : Int) < len0 := by omega
  have t1 : ¬ (20 : Int) < len1 := by omega
  have t2 : ¬ (10 : Int) < len2 := by omega
  clear hr hm hd
  go_enter Tryz.func5, Tryz.ntmps5
  go_upto_region 1 with (fail)
  have X0 := (Bo.newAt w (g := w.heap.size) (by simp) #[.bool s0, .slice a0 len0 cap0] 34).below (bel2 _ (.cells #[.bool s1, .slice a1 len1 cap1] 34) (.cells #[.bool s2, .slice a2 len2 cap2, .int .i64 e2] 36))
  have X1 := (Bo.newAt (w.alloc (.cells #[.bool s0, .slice a0 len0 cap0] 34)) (g := w.heap.size + 1) (by simp) #[.bool s1, .slice a1 len1 cap1] 34).below (bel1 _ (.cells #[.bool s2, .slice a2 len2 cap2, .int .i64 e2] 36))
  have X2 := (Bo.newAt ((w.alloc (.cells #[.bool s0, .slice a0 len0 cap0] 34)).alloc (.cells #[.bool s1, .slice a1 len1 cap1] 34)) (g := w.heap.size + 1 + 1) (by simp) #[.bool s2, .slice a2 len2 cap2, .int .i64 e2] 36)
  have HB := Lib.hid (bel3 w (.cells #[.bool s0, .slice a0 len0 cap0] 34) (.cells #[.bool s1, .slice a1 len1 cap1] 34) (.cells #[.bool s2, .slice a2 len2 cap2, .int .i64 e2] 36))
  replace hT := hT.below HB.out
  replace h0 := h0.below HB.out
  replace h1 := h1.below HB.out
  replace h2 := h2.below HB.out
  generalize hW1 : (((w.alloc (.cells #[.bool s0, .slice a0 len0 cap0] 34)).alloc (.cells #[.bool s1, .slice a1 len1 cap1] 34)).alloc (.cells #[.bool s2, .slice a2 len2 cap2, .int .i64 e2] 36)) = w1 at *
  clear hW1
  go_wp2_with fail
  refine (awake7 hT).mono ?_
  rintro ee w2 ⟨rfl, B⟩
  replace X0 := X0.below B
  replace X1 := X1.below B
  replace X2 := X2.below B
  replace hT := hT.below B
  replace h0 := h0.below B
  replace h1 := h1.below B
  replace h2 := h2.below B
  replace HB := Lib.hid (bt HB.out B)
  clear B
  have xX00 := X0.a 0 (.bool s0) rfl
  have xX01 := X0.a 1 (.slice a0 len0 cap0) rfl
  have xX10 := X1.a 0 (.bool s1) rfl
  have xX11 := X1.a 1 (.slice a1 len1 cap1) rfl
  have xX20 := X2.a 0 (.bool s2) rfl
  have xX21 := X2.a 1 (.slice a2 len2 cap2) rfl
  have xX22 := X2.a 2 (.int .i64 e2) rfl
  go_upto_region 4 with (fail)
  clear t0 t1 t2
  clear xX00 xX01 xX10 xX11 xX20 xX21 xX22
  refine Jo.region_joint (T := [0, 1, 2, 3, 4, 5, 6, 7, 8, 9, 10, 11, 12, 13, 14, 15, 16, 17, 18]) (ds := [some 33, some 34, some 35, some 36, some 37, some 38, some 39, some 40, some 41, some 42, some 43, some 44, some 45, some 46, some 47, some 48, some 49, some 50, some 8]) (ls := [[], [], [], [0, 1, 2], [], [], [], [4, 5, 6], [3, 7], [8], [9], [9], [9, 10, 11], [9], [9], [9, 13, 14], [9, 12, 15], [9, 16], [17]]) (k := 19) (L := [(some 33, 0), (some 34, 1), (some 35, 2), (some 36, 3), (some 37, 4), (some 38, 5), (some 39, 6), (some 40, 7), (some 41, 8), (some 42, 9), (some 43, 10), (some 44, 11), (some 45, 12), (some 46, 13), (some 47, 14), (some 48, 15), (some 49, 16), (some 50, 17), (some 8, 18)]) (fuel := 0) (J := fun wj => Below (World.heap w2).size w2 wj)
    (F := [Jo.Fact.eq (.agg #[.bool s0, .slice a0 len0 cap0]), Jo.Fact.eq (.agg #[.bool s1, .slice a1 len1 cap1]), Jo.Fact.eq (.bool b3), Jo.Fact.num r, Jo.Fact.eq (.agg #[.bool s0, .slice a0 len0 cap0]), Jo.Fact.eq (.agg #[.bool s1, .slice a1 len1 cap1]), Jo.Fact.eq (.bool b3), Jo.Fact.num r, Jo.Fact.eq (.bool true), Jo.Fact.eq (.bool true), Jo.Fact.eq (.agg #[.bool s2, .slice a2 len2 cap2, .int .i64 e2]), Jo.Fact.eq (.bool b3), Jo.Fact.num d, Jo.Fact.eq (.agg #[.bool s2, .slice a2 len2 cap2, .int .i64 e2]), Jo.Fact.eq (.bool b3), Jo.Fact.num d, Jo.Fact.eq (.bool true), Jo.Fact.eq (.bool true), Jo.Fact.eq (.bool true)])
    (by kernel_rfl) (by kernel_rfl) (by decide) rfl rfl (fun _ _ h b => bt h b) ((Below.refl _ _).drew) ?_ (fun vs w3 hJ hd => ?_)
  · refine Jo.jd 0 (some 33) [] (Jo.Fact.eq (.agg #[.bool s0, .slice a0 len0 cap0])) rfl rfl rfl rfl (fun vs wj hJ hd K hK => ?_) ?_
    · simp only [Jo.putl, Jo.ze, Act.put, Jo.za, Jo.zb, Jo.zc] at hK ⊢
      clear hd
      have xX00 := (X0.below hJ).a 0 (.bool s0) rfl
      have xX01 := (X0.below hJ).a 1 (.slice a0 len0 cap0) rfl
      go_simp
      exact hK.out _ _ rfl (Below.refl _ _)
    refine Jo.jd 1 (some 34) [] (Jo.Fact.eq (.agg #[.bool s1, .slice a1 len1 cap1])) rfl rfl rfl rfl (fun vs wj hJ hd K hK => ?_) ?_
    · simp only [Jo.putl, Jo.ze, Act.put, Jo.za, Jo.zb, Jo.zc] at hK ⊢
      clear hd
      have xX10 := (X1.below hJ).a 0 (.bool s1) rfl
      have xX11 := (X1.below hJ).a 1 (.slice a1 len1 cap1) rfl
      go_simp
      exact hK.out _ _ rfl (Below.refl _ _)
    refine Jo.jd 2 (some 35) [] (Jo.Fact.eq (.bool b3)) rfl rfl rfl rfl (fun vs wj hJ hd K hK => ?_) ?_
    · simp only [Jo.putl, Jo.ze, Act.put, Jo.za, Jo.zb, Jo.zc] at hK ⊢
      clear hd
      go_simp
      exact hK.out _ _ rfl (Below.refl _ _)
    refine Jo.jd 3 (some 36) [(some 33, 0), (some 34, 1), (some 35, 2)] (Jo.Fact.num r) rfl rfl rfl rfl (fun vs wj hJ hd K hK => ?_) ?_
    · simp only [Jo.putl, Jo.zd, Jo.ze, Act.put, Jo.za, Jo.zb, Jo.zc] at hK ⊢
      rw [show vs 0 = _ from hd 0 (by decide), show vs 1 = _ from hd 1 (by decide), show vs 2 = _ from hd 2 (by decide)] at hK ⊢
      clear hd
      go_simp
      refine (kRatio (hT.below hJ) (h0.below hJ) (h1.below hJ) l0 l1 HR.out).mono ?_
      rintro ee wk ⟨K3, s3, M3, E3, rfl, q3, B⟩
      exact hK.out _ _ ⟨K3, s3, M3, E3, rfl, q3⟩ B
    refine Jo.jd 4 (some 37) [] (Jo.Fact.eq (.agg #[.bool s0, .slice a0 len0 cap0])) rfl rfl rfl rfl (fun vs wj hJ hd K hK => ?_) ?_
    · simp only [Jo.putl, Jo.ze, Act.put, Jo.za, Jo.zb, Jo.zc] at hK ⊢
      clear hd
      have xX00 := (X0.below hJ).a 0 (.bool s0) rfl
      have xX01 := (X0.below hJ).a 1 (.slice a0 len0 cap0) rfl
      go_simp
      exact hK.out _ _ rfl (Below.refl _ _)
    refine Jo.jd 5 (some 38) [] (Jo.Fact.eq (.agg #[.bool s1, .slice a1 len1 cap1])) rfl rfl rfl rfl (fun vs wj hJ hd K hK => ?_) ?_
    · simp only [Jo.putl, Jo.ze, Act.put, Jo.za, Jo.zb, Jo.zc] at hK ⊢
      clear hd
      have xX10 := (X1.below hJ).a 0 (.bool s1) rfl
      have xX11 := (X1.below hJ).a 1 (.slice a1 len1 cap1) rfl
      go_simp
      exact hK.out _ _ rfl (Below.refl _ _)
    refine Jo.jd 6 (some 39) [] (Jo.Fact.eq (.bool b3)) rfl rfl rfl rfl (fun vs wj hJ hd K hK => ?_) ?_
    · simp only [Jo.putl, Jo.ze, Act.put, Jo.za, Jo.zb, Jo.zc] at hK ⊢
      clear hd
      go_simp
      exact hK.out _ _ rfl (Below.refl _ _)
    refine Jo.jd 7 (some 40) [(some 37, 4), (some 38, 5), (some 39, 6)] (Jo.Fact.num r) rfl rfl rfl rfl (fun vs wj hJ hd K hK => ?_) ?_
    · simp only [Jo.putl, Jo.zd, Jo.ze, Act.put, Jo.za, Jo.zb, Jo.zc] at hK ⊢
      rw [show vs 4 = _ from hd 4 (by decide), show vs 5 = _ from hd 5 (by decide), show vs 6 = _ from hd 6 (by decide)] at hK ⊢
      clear hd
      go_simp
      refine (jRatio (h0.below hJ) (h1.below hJ) (by omega) (by omega) HR.out).mono ?_
      rintro ee wk ⟨K4, s4, M4, E4, rfl, q4, B⟩
      exact hK.out _ _ ⟨K4, s4, M4, E4, rfl, q4⟩ B
    refine Jo.jd 8 (some 41) [(some 36, 3), (some 40, 7)] (Jo.Fact.eq (.bool true)) rfl rfl rfl rfl (fun vs wj hJ hd K hK => ?_) ?_
    · have d3 : (Jo.Fact.num r).P (vs 3) wj := hd 3 (by decide)
      have d7 : (Jo.Fact.num r).P (vs 7) wj := hd 7 (by decide)
      simp only [Jo.putl, Jo.zd, Jo.ze, Act.put, Jo.za, Jo.zb, Jo.zc] at hK ⊢
      clear hd
      generalize vs 3 = u3 at hK d3 ⊢
      generalize vs 7 = u7 at hK d7 ⊢
      obtain ⟨K3, s3, M3, E3, rfl, q3⟩ := d3
      obtain ⟨K4, s4, M4, E4, rfl, q4⟩ := d7
      obtain ⟨rfl, rfl, rfl, rfl⟩ := q3.uniq q4
      go_simp
      exact hK.out _ _ (by first | rfl | (show Value.bool _ = Value.bool _; simp)) (Below.refl _ _)
    refine Jo.jd 9 (some 42) [(some 41, 8)] (Jo.Fact.eq (.bool true)) rfl rfl rfl rfl (fun vs wj hJ hd K hK => ?_) ?_
    · simp only [Jo.putl, Jo.zd, Jo.ze, Act.put, Jo.za, Jo.zb, Jo.zc] at hK ⊢
      rw [show vs 8 = _ from hd 8 (by decide)] at hK ⊢
      clear hd
      go_simp
      exact hK.out _ _ rfl (Below.refl _ _)
    refine Jo.jd 10 (some 43) [(some 42, 9)] (Jo.Fact.eq (.agg #[.bool s2, .slice a2 len2 cap2, .int .i64 e2])) rfl rfl rfl rfl (fun vs wj hJ hd K hK => ?_) ?_
    · simp only [Jo.putl, Jo.zd, Jo.ze, Act.put, Jo.za, Jo.zb, Jo.zc] at hK ⊢
      rw [show vs 9 = _ from hd 9 (by decide)] at hK ⊢
      clear hd
      have xX20 := (X2.below hJ).a 0 (.bool s2) rfl
      have xX21 := (X2.below hJ).a 1 (.slice a2 len2 cap2) rfl
      have xX22 := (X2.below hJ).a 2 (.int .i64 e2) rfl
      go_simp
      exact hK.out _ _ rfl (Below.refl _ _)
    refine Jo.jd 11 (some 44) [(some 42, 9)] (Jo.Fact.eq (.bool b3)) rfl rfl rfl rfl (fun vs wj hJ hd K hK => ?_) ?_
    · simp only [Jo.putl, Jo.zd, Jo.ze, Act.put, Jo.za, Jo.zb, Jo.zc] at hK ⊢
      rw [show vs 9 = _ from hd 9 (by decide)] at hK ⊢
      clear hd
      go_simp
      exact hK.out _ _ rfl (Below.refl _ _)
    refine Jo.jd 12 (some 45) [(some 42, 9), (some 43, 10), (some 44, 11)] (Jo.Fact.num d) rfl rfl rfl rfl (fun vs wj hJ hd K hK => ?_) ?_
    · simp only [Jo.putl, Jo.zd, Jo.ze, Act.put, Jo.za, Jo.zb, Jo.zc] at hK ⊢
      rw [show vs 9 = _ from hd 9 (by decide), show vs 10 = _ from hd 10 (by decide), show vs 11 = _ from hd 11 (by decide)] at hK ⊢
      clear hd
      go_simp
      refine (kFrom (hT.below hJ) (h2.below hJ) (by omega) HM.out HD.out).mono ?_
      rintro ee wk ⟨K5, s5, M5, E5, rfl, q5, B⟩
      exact hK.out _ _ ⟨K5, s5, M5, E5, rfl, q5⟩ B
    refine Jo.jd 13 (some 46) [(some 42, 9)] (Jo.Fact.eq (.agg #[.bool s2, .slice a2 len2 cap2, .int .i64 e2])) rfl rfl rfl rfl (fun vs wj hJ hd K hK => ?_) ?_
    · simp only [Jo.putl, Jo.zd, Jo.ze, Act.put, Jo.za, Jo.zb, Jo.zc] at hK ⊢
      rw [show vs 9 = _ from hd 9 (by decide)] at hK ⊢
      clear hd
      have xX20 := (X2.below hJ).a 0 (.bool s2) rfl
      have xX21 := (X2.below hJ).a 1 (.slice a2 len2 cap2) rfl
      have xX22 := (X2.below hJ).a 2 (.int .i64 e2) rfl
      go_simp
      exact hK.out _ _ rfl (Below.refl _ _)
    refine Jo.jd 14 (some 47) [(some 42, 9)] (Jo.Fact.eq (.bool b3)) rfl rfl rfl rfl (fun vs wj hJ hd K hK => ?_) ?_
    · simp only [Jo.putl, Jo.zd, Jo.ze, Act.put, Jo.za, Jo.zb, Jo.zc] at hK ⊢
      rw [show vs 9 = _ from hd 9 (by decide)] at hK ⊢
      clear hd
      go_simp
      exact hK.out _ _ rfl (Below.refl _ _)
    refine Jo.jd 15 (some 48) [(some 42, 9), (some 46, 13), (some 47, 14)] (Jo.Fact.num d) rfl rfl rfl rfl (fun vs wj hJ hd K hK => ?_) ?_
    · simp only [Jo.putl, Jo.zd, Jo.ze, Act.put, Jo.za, Jo.zb, Jo.zc] at hK ⊢
      rw [show vs 9 = _ from hd 9 (by decide), show vs 13 = _ from hd 13 (by decide), show vs 14 = _ from hd 14 (by decide)] at hK ⊢
      clear hd
      go_simp
      refine (jFrom (h2.below hJ) (by omega) HM.out HD.out).mono ?_
      rintro ee wk ⟨K6, s6, M6, E6, rfl, q6, B⟩
      exact hK.out _ _ ⟨K6, s6, M6, E6, rfl, q6⟩ B
    refine Jo.jd 16 (some 49) [(some 42, 9), (some 45, 12), (some 48, 15)] (Jo.Fact.eq (.bool true)) rfl rfl rfl rfl (fun vs wj hJ hd K hK => ?_) ?_
    · have d12 : (Jo.Fact.num d).P (vs 12) wj := hd 12 (by decide)
      have d15 : (Jo.Fact.num d).P (vs 15) wj := hd 15 (by decide)
      simp only [Jo.putl, Jo.zd, Jo.ze, Act.put, Jo.za, Jo.zb, Jo.zc] at hK ⊢
      rw [show vs 9 = _ from hd 9 (by decide)] at hK ⊢
      clear hd
      generalize vs 12 = u12 at hK d12 ⊢
      generalize vs 15 = u15 at hK d15 ⊢
      obtain ⟨K5, s5, M5, E5, rfl, q5⟩ := d12
      obtain ⟨K6, s6, M6, E6, rfl, q6⟩ := d15
      obtain ⟨rfl, rfl, rfl, rfl⟩ := q5.uniq q6
      go_simp
      exact hK.out _ _ (by first | rfl | (show Value.bool _ = Value.bool _; simp)) (Below.refl _ _)
    refine Jo.jd 17 (some 50) [(some 42, 9), (some 49, 16)] (Jo.Fact.eq (.bool true)) rfl rfl rfl rfl (fun vs wj hJ hd K hK => ?_) ?_
    · simp only [Jo.putl, Jo.zd, Jo.ze, Act.put, Jo.za, Jo.zb, Jo.zc] at hK ⊢
      rw [show vs 9 = _ from hd 9 (by decide), show vs 16 = _ from hd 16 (by decide)] at hK ⊢
      clear hd
      go_simp
      exact hK.out _ _ rfl (Below.refl _ _)
    refine Jo.jd 18 (some 8) [(some 50, 17)] (Jo.Fact.eq (.bool true)) rfl rfl rfl rfl (fun vs wj hJ hd K hK => ?_) ?_
    · simp only [Jo.putl, Jo.zd, Jo.ze, Act.put, Jo.za, Jo.zb, Jo.zc] at hK ⊢
      rw [show vs 17 = _ from hd 17 (by decide)] at hK ⊢
      clear hd
      go_simp
      exact hK.out _ _ rfl (Below.refl _ _)
    exact Jo.Steps.nil
  have d3 : (Jo.Fact.num r).P (vs 3) w3 := hd 3 (by decide)
  have d7 : (Jo.Fact.num r).P (vs 7) w3 := hd 7 (by decide)
  have d12 : (Jo.Fact.num d).P (vs 12) w3 := hd 12 (by decide)
  have d15 : (Jo.Fact.num d).P (vs 15) w3 := hd 15 (by decide)
  simp only [Jo.putl, Jo.zd, Jo.ze, Act.put, Jo.za, Jo.zb, Jo.zc]
  rw [show vs 0 = _ from hd 0 (by decide), show vs 1 = _ from hd 1 (by decide), show vs 2 = _ from hd 2 (by decide), show vs 4 = _ from hd 4 (by decide), show vs 5 = _ from hd 5 (by decide), show vs 6 = _ from hd 6 (by decide), show vs 8 = _ from hd 8 (by decide), show vs 9 = _ from hd 9 (by decide), show vs 10 = _ from hd 10 (by decide), show vs 11 = _ from hd 11 (by decide), show vs 13 = _ from hd 13 (by decide), show vs 14 = _ from hd 14 (by decide), show vs 16 = _ from hd 16 (by decide), show vs 17 = _ from hd 17 (by decide), show vs 18 = _ from hd 18 (by decide)]
  clear hd
  generalize vs 3 = u3 at d3 ⊢
  generalize vs 7 = u7 at d7 ⊢
  generalize vs 12 = u12 at d12 ⊢
  generalize vs 15 = u15 at d15 ⊢
  obtain ⟨K3, s3, M3, E3, rfl, _⟩ := d3
  obtain ⟨K4, s4, M4, E4, rfl, _⟩ := d7
  obtain ⟨K5, s5, M5, E5, rfl, _⟩ := d12
  obtain ⟨K6, s6, M6, E6, rfl, _⟩ := d15
  replace X0 := X0.below hJ
  replace X1 := X1.below hJ
  replace X2 := X2.below hJ
  replace hT := hT.below hJ
  replace h0 := h0.below hJ
  replace h1 := h1.below hJ
  replace h2 := h2.below hJ
  replace HB := Lib.hid (bt HB.out hJ)
  refine Jo.jdone (by kernel_rfl) ?_
  go_wp2
  go_ret
  exact ⟨rfl, HB.out⟩

theorem quotRatios_walk (s0 : Bool) (a0 : Option Addr) (len0 cap0 : Nat) (y0 : List Int) (s1 : Bool) (a1 : Option Addr) (len1 cap1 : Nat) (y1 : List Int) (s2 : Bool) (a2 : Option Addr) (len2 cap2 : Nat) (y2 : List Int) (e2 : Int) (b3 : Bool) (w : World) (hT : Tab w) (w0 : RowIn w a0 len0 cap0 y0) (w1 : RowIn w a1 len1 cap1 y1) (w2 : RowIn w a2 len2 cap2 y2) (f2 : -9223372036854775808 ≤ e2) (g2 : e2 ≤ 9223372036854775807)  :
    Calls Tryz.prog 5 #[.agg #[.bool s0, .slice a0 len0 cap0], .agg #[.bool s1, .slice a1 len1 cap1], .agg #[.bool s2, .slice a2 len2 cap2, .int .i64 e2], .bool b3] w fun e w' => e = .returned (.bool true) ∧ Below w.heap.size w w' := by
  by_cases l0 : len0 ≤ 20
  · by_cases l1 : len1 ≤ 20
    · by_cases l2 : len2 ≤ 10
      · obtain ⟨x, r0⟩ := w0.rd (by omega)
        obtain ⟨y, r1⟩ := w1.rd (by omega)
        obtain ⟨a, r2⟩ := w2.rd (by omega)
        exact quotRatios_main s0 a0 len0 cap0 s1 a1 len1 cap1 s2 a2 len2 cap2 e2 b3 w _ _ _ hT (r0.wr s0) (r1.wr s1) r2 l0 l1 l2
      · exact quotRatios_far2 s0 a0 len0 cap0 s1 a1 len1 cap1 s2 a2 len2 cap2 e2 b3 w hT l0 l1 (by omega)
    · exact quotRatios_far1 s0 a0 len0 cap0 s1 a1 len1 cap1 s2 a2 len2 cap2 e2 b3 w hT l0 (by omega)
  · exact quotRatios_far0 s0 a0 len0 cap0 s1 a1 len1 cap1 s2 a2 len2 cap2 e2 b3 w hT (by omega)
end Go.Proofs.YtpmakljahhhnfaaGreatDoor

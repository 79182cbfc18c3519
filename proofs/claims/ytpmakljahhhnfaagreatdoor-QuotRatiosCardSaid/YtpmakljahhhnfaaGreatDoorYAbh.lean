/-
  Contracts and words that the statement's proof rests on, several texts in one: Tc, Td.
-/
import Derived.Test.YtpmakljahhhnfaaGreatDoorYAaj
import Derived.Test.YtpmakljahhhnfaaGreatDoorYAaq
import Derived.Test.YtpmakljahhhnfaaGreatDoorYAbc
/-
  What decimal.May does.
-/
namespace Go.Proofs.YtpmakljahhhnfaaGreatDoor
open Go.RowKit
set_option linter.unusedVariables false
set_option maxRecDepth 100000

/-- May it be, told of a sign, the count of limbs, the number and the power of ten? -/
def mayC (s : Bool) (n a : Nat) (t : Int) : Bool := mayB s n a && (if n = 0 then decide (t = 0) else (decide (-400 ≤ t) && decide (t ≤ 400)) && (decide (a < 10 ^ 40) && !decide (a % 10 = 0)))
theorem vPower40 {P : Nat} (hP : 10 ^ 40 = P) (w : World) : Calls Tryz.prog 74 #[.int .i64 40] w (P1N w 41 P) := hP ▸ vPower 40 w (by decide)
theorem vWithinE {t : Int} {p : Bool} (h : (decide (-400 ≤ t) && decide (t ≤ 400)) = p) (w : World) : Calls Tryz.prog 72 #[.int .i64 t] w (PB w p) := h ▸ (vWithin t w).mono fun e w' x => ⟨x.1, x.2 ▸ Below.refl _ _⟩
theorem vMultipleE {w : World} {A : Option Addr} {n c a : Nat} {p : Bool} (h : Rd w A n c a) (hn : n ≤ 1073741824) (hp : decide (a % 10 = 0) = p) : Calls Tryz.prog 75 #[.slice A n c] w (PB w p) := hp ▸ vMultiple h hn

set_option maxHeartbeats 2000000 in
theorem vMayD_no {w : World} {A : Option Addr} {n c a : Nat} {s : Bool} {t : Int} (h : Rd w A n c a) (hn : n ≤ 1073741824) (hm : mayB s n a = false) : Calls Tryz.prog 37 #[.agg #[.bool s, .slice A n c, .int .i64 t]] w (PB w false) := by
  go_enter Tryz.func37, Tryz.ntmps37
  go_upto_region 1 with (fail)
  have X1 := (Bo.newAt w (g := w.heap.size) (by simp) #[.bool s, .slice A n c, .int .i64 t] 36)
  have HB := Lib.hid (bel1 w (.cells #[.bool s, .slice A n c, .int .i64 t] 36))
  replace h := h.below HB.out
  generalize hW1 : (w.alloc (.cells #[.bool s, .slice A n c, .int .i64 t] 36)) = w1 at *
  clear hW1
  have xX10 := X1.a 0 (.bool s) rfl
  have xX11 := X1.a 1 (.slice A n c) rfl
  have xX12 := X1.a 2 (.int .i64 t) rfl
  go_wp2_with fail
  refine (wMay h hm).mono ?_
  rintro ee w2 ⟨rfl, B⟩
  clear xX10 xX11 xX12
  replace X1 := X1.below B
  replace h := h.below B
  replace HB := Lib.hid (bt HB.out B)
  clear B
  go_wp2
  go_ret
  exact ⟨rfl, HB.out⟩

set_option maxHeartbeats 2000000 in
theorem vMayD_zero {w : World} {A : Option Addr} {c a : Nat} {s : Bool} {t : Int} {r : Bool} (h : Rd w A 0 c a) (hm : mayB s 0 a = true) (hr : (t == 0) = r) : Calls Tryz.prog 37 #[.agg #[.bool s, .slice A 0 c, .int .i64 t]] w (PB w r) := by
  have HR := Lib.hid hr
  clear hr
  go_enter Tryz.func37, Tryz.ntmps37
  go_upto_region 1 with (fail)
  have X1 := (Bo.newAt w (g := w.heap.size) (by simp) #[.bool s, .slice A 0 c, .int .i64 t] 36)
  have HB := Lib.hid (bel1 w (.cells #[.bool s, .slice A 0 c, .int .i64 t] 36))
  replace h := h.below HB.out
  generalize hW1 : (w.alloc (.cells #[.bool s, .slice A 0 c, .int .i64 t] 36)) = w1 at *
  clear hW1
  have xX10 := X1.a 0 (.bool s) rfl
  have xX11 := X1.a 1 (.slice A 0 c) rfl
  have xX12 := X1.a 2 (.int .i64 t) rfl
  go_wp2_with fail
  refine (wMay h hm).mono ?_
  rintro ee w2 ⟨rfl, B⟩
  clear xX10 xX11 xX12
  replace X1 := X1.below B
  replace h := h.below B
  replace HB := Lib.hid (bt HB.out B)
  clear B
  have xX10 := X1.a 0 (.bool s) rfl
  have xX11 := X1.a 1 (.slice A 0 c) rfl
  have xX12 := X1.a 2 (.int .i64 t) rfl
  go_wp2
  go_ret
  exact ⟨ret_bool HR.out, HB.out⟩

set_option maxHeartbeats 4000000 in
theorem vMayD_w {w : World} {A : Option Addr} {n c a : Nat} {s : Bool} {t : Int} (h : Rd w A n c a) (hn : n ≤ 1073741824) (hm : mayB s n a = true) (h0 : ((n : Int) == 0) = false) (hw : (decide (-400 ≤ t) && decide (t ≤ 400)) = false) : Calls Tryz.prog 37 #[.agg #[.bool s, .slice A n c, .int .i64 t]] w (PB w false) := by
  have HW := Lib.hid hw
  clear hw
  go_enter Tryz.func37, Tryz.ntmps37
  go_upto_region 1 with (fail)
  have X1 := (Bo.newAt w (g := w.heap.size) (by simp) #[.bool s, .slice A n c, .int .i64 t] 36)
  have HB := Lib.hid (bel1 w (.cells #[.bool s, .slice A n c, .int .i64 t] 36))
  replace h := h.below HB.out
  generalize hW1 : (w.alloc (.cells #[.bool s, .slice A n c, .int .i64 t] 36)) = w1 at *
  clear hW1
  have xX10 := X1.a 0 (.bool s) rfl
  have xX11 := X1.a 1 (.slice A n c) rfl
  have xX12 := X1.a 2 (.int .i64 t) rfl
  go_wp2_with fail
  refine (wMay h hm).mono ?_
  rintro ee w2 ⟨rfl, B⟩
  clear xX10 xX11 xX12
  replace X1 := X1.below B
  replace h := h.below B
  replace HB := Lib.hid (bt HB.out B)
  clear B
  have xX10 := X1.a 0 (.bool s) rfl
  have xX11 := X1.a 1 (.slice A n c) rfl
  have xX12 := X1.a 2 (.int .i64 t) rfl
  go_upto_region 5 with (fail)
  refine Jo.region_joint (T := [0, 1, 2, 3, 4, 5, 6, 7, 8, 9, 10, 11, 12, 13, 14, 15, 16, 17, 18]) (ds := [some 15, some 16, some 17, some 18, some 19, some 20, some 21, some 22, some 23, some 24, some 25, some 26, some 27, some 28, some 29, some 30, some 31, some 32, some 2]) (ls := [[], [0], [1], [2], [3], [3, 4], [3, 5], [3], [3, 6, 7], [3, 8], [3, 9], [10], [11], [11, 12], [11, 13], [11, 14], [11, 15], [11, 16], [17]]) (k := 19) (L := [(some 15, 0), (some 16, 1), (some 17, 2), (some 18, 3), (some 19, 4), (some 20, 5), (some 21, 6), (some 22, 7), (some 23, 8), (some 24, 9), (some 25, 10), (some 26, 11), (some 27, 12), (some 28, 13), (some 29, 14), (some 30, 15), (some 31, 16), (some 32, 17), (some 2, 18)]) (fuel := 0) (J := fun wj => Below (World.heap w2).size w2 wj)
    (F := [Jo.Fact.eq (.pointer (some ⟨w.heap.size, 2, none⟩)), Jo.Fact.eq (.int .i64 t), Jo.Fact.eq (.bool false), Jo.Fact.eq (.bool false), Jo.Fact.eq undef, Jo.Fact.eq undef, Jo.Fact.eq undef, Jo.Fact.eq undef, Jo.Fact.eq undef, Jo.Fact.eq undef, Jo.Fact.eq (.bool false), Jo.Fact.eq (.bool false), Jo.Fact.eq undef, Jo.Fact.eq undef, Jo.Fact.eq undef, Jo.Fact.eq undef, Jo.Fact.eq undef, Jo.Fact.eq (.bool false), Jo.Fact.eq (.bool false)])
    (by kernel_rfl) (by kernel_rfl) (by decide) rfl rfl (fun _ _ h b => bt h b) ((Below.refl _ _).drew) ?_ (fun vs w3 hJ hd => ?_)
  clear xX10 xX11 xX12
  · refine Jo.jd 0 (some 15) [] (Jo.Fact.eq (.pointer (some ⟨w.heap.size, 2, none⟩))) rfl rfl rfl rfl (fun vs wj hJ hd K hK => ?_) ?_
    · simp only [Jo.putl, Jo.ze, Act.put, Jo.za, Jo.zb, Jo.zc] at hK ⊢
      clear hd
      go_simp
      exact hK.out _ _ rfl (Below.refl _ _)
    refine Jo.jd 1 (some 16) [(some 15, 0)] (Jo.Fact.eq (.int .i64 t)) rfl rfl rfl rfl (fun vs wj hJ hd K hK => ?_) ?_
    · simp only [Jo.putl, Jo.zd, Jo.ze, Act.put, Jo.za, Jo.zb, Jo.zc] at hK ⊢
      rw [show vs 0 = _ from hd 0 (by decide)] at hK ⊢
      clear hd
      have xX12 := (X1.below hJ).a 2 (.int .i64 t) rfl
      go_simp
      exact hK.out _ _ rfl (Below.refl _ _)
    refine Jo.jd 2 (some 17) [(some 16, 1)] (Jo.Fact.eq (.bool false)) rfl rfl rfl rfl (fun vs wj hJ hd K hK => ?_) ?_
    · simp only [Jo.putl, Jo.zd, Jo.ze, Act.put, Jo.za, Jo.zb, Jo.zc] at hK ⊢
      rw [show vs 1 = _ from hd 1 (by decide)] at hK ⊢
      clear hd
      go_simp
      refine (vWithinE HW.out _).mono ?_
      rintro ee wk ⟨rfl, B⟩
      exact hK.out _ _ rfl B
    refine Jo.jd 3 (some 18) [(some 17, 2)] (Jo.Fact.eq (.bool false)) rfl rfl rfl rfl (fun vs wj hJ hd K hK => ?_) ?_
    · simp only [Jo.putl, Jo.zd, Jo.ze, Act.put, Jo.za, Jo.zb, Jo.zc] at hK ⊢
      rw [show vs 2 = _ from hd 2 (by decide)] at hK ⊢
      clear hd
      go_simp
      exact hK.out _ _ rfl (Below.refl _ _)
    refine Jo.jd 4 (some 19) [(some 18, 3)] (Jo.Fact.eq undef) rfl rfl rfl rfl (fun vs wj hJ hd K hK => ?_) ?_
    · simp only [Jo.putl, Jo.zd, Jo.ze, Act.put, Jo.za, Jo.zb, Jo.zc] at hK ⊢
      rw [show vs 3 = _ from hd 3 (by decide)] at hK ⊢
      clear hd
      go_simp
      exact hK.out _ _ rfl (Below.refl _ _)
    refine Jo.jd 5 (some 20) [(some 18, 3), (some 19, 4)] (Jo.Fact.eq undef) rfl rfl rfl rfl (fun vs wj hJ hd K hK => ?_) ?_
    · have d4 : (Jo.Fact.eq undef).P (vs 4) wj := hd 4 (by decide)
      simp only [Jo.putl, Jo.zd, Jo.ze, Act.put, Jo.za, Jo.zb, Jo.zc] at hK ⊢
      rw [show vs 3 = _ from hd 3 (by decide)] at hK ⊢
      clear hd
      generalize vs 4 = u4 at hK d4 ⊢
      replace d4 : u4 = _ := d4
      subst d4
      go_simp
      exact hK.out _ _ rfl (Below.refl _ _)
    refine Jo.jd 6 (some 21) [(some 18, 3), (some 20, 5)] (Jo.Fact.eq undef) rfl rfl rfl rfl (fun vs wj hJ hd K hK => ?_) ?_
    · have d5 : (Jo.Fact.eq undef).P (vs 5) wj := hd 5 (by decide)
      simp only [Jo.putl, Jo.zd, Jo.ze, Act.put, Jo.za, Jo.zb, Jo.zc] at hK ⊢
      rw [show vs 3 = _ from hd 3 (by decide)] at hK ⊢
      clear hd
      generalize vs 5 = u5 at hK d5 ⊢
      replace d5 : u5 = _ := d5
      subst d5
      go_simp
      exact hK.out _ _ rfl (Below.refl _ _)
    refine Jo.jd 7 (some 22) [(some 18, 3)] (Jo.Fact.eq undef) rfl rfl rfl rfl (fun vs wj hJ hd K hK => ?_) ?_
    · simp only [Jo.putl, Jo.zd, Jo.ze, Act.put, Jo.za, Jo.zb, Jo.zc] at hK ⊢
      rw [show vs 3 = _ from hd 3 (by decide)] at hK ⊢
      clear hd
      go_simp
      exact hK.out _ _ rfl (Below.refl _ _)
    refine Jo.jd 8 (some 23) [(some 18, 3), (some 21, 6), (some 22, 7)] (Jo.Fact.eq undef) rfl rfl rfl rfl (fun vs wj hJ hd K hK => ?_) ?_
    · have d6 : (Jo.Fact.eq undef).P (vs 6) wj := hd 6 (by decide)
      have d7 : (Jo.Fact.eq undef).P (vs 7) wj := hd 7 (by decide)
      simp only [Jo.putl, Jo.zd, Jo.ze, Act.put, Jo.za, Jo.zb, Jo.zc] at hK ⊢
      rw [show vs 3 = _ from hd 3 (by decide)] at hK ⊢
      clear hd
      generalize vs 6 = u6 at hK d6 ⊢
      generalize vs 7 = u7 at hK d7 ⊢
      replace d6 : u6 = _ := d6
      subst d6
      replace d7 : u7 = _ := d7
      subst d7
      go_simp
      exact hK.out _ _ rfl (Below.refl _ _)
    refine Jo.jd 9 (some 24) [(some 18, 3), (some 23, 8)] (Jo.Fact.eq undef) rfl rfl rfl rfl (fun vs wj hJ hd K hK => ?_) ?_
    · have d8 : (Jo.Fact.eq undef).P (vs 8) wj := hd 8 (by decide)
      simp only [Jo.putl, Jo.zd, Jo.ze, Act.put, Jo.za, Jo.zb, Jo.zc] at hK ⊢
      rw [show vs 3 = _ from hd 3 (by decide)] at hK ⊢
      clear hd
      generalize vs 8 = u8 at hK d8 ⊢
      replace d8 : u8 = _ := d8
      subst d8
      go_simp
      exact hK.out _ _ rfl (Below.refl _ _)
    refine Jo.jd 10 (some 25) [(some 18, 3), (some 24, 9)] (Jo.Fact.eq (.bool false)) rfl rfl rfl rfl (fun vs wj hJ hd K hK => ?_) ?_
    · have d9 : (Jo.Fact.eq undef).P (vs 9) wj := hd 9 (by decide)
      simp only [Jo.putl, Jo.zd, Jo.ze, Act.put, Jo.za, Jo.zb, Jo.zc] at hK ⊢
      rw [show vs 3 = _ from hd 3 (by decide)] at hK ⊢
      clear hd
      generalize vs 9 = u9 at hK d9 ⊢
      replace d9 : u9 = _ := d9
      subst d9
      go_simp
      exact hK.out _ _ rfl (Below.refl _ _)
    refine Jo.jd 11 (some 26) [(some 25, 10)] (Jo.Fact.eq (.bool false)) rfl rfl rfl rfl (fun vs wj hJ hd K hK => ?_) ?_
    · simp only [Jo.putl, Jo.zd, Jo.ze, Act.put, Jo.za, Jo.zb, Jo.zc] at hK ⊢
      rw [show vs 10 = _ from hd 10 (by decide)] at hK ⊢
      clear hd
      go_simp
      exact hK.out _ _ rfl (Below.refl _ _)
    refine Jo.jd 12 (some 27) [(some 26, 11)] (Jo.Fact.eq undef) rfl rfl rfl rfl (fun vs wj hJ hd K hK => ?_) ?_
    · simp only [Jo.putl, Jo.zd, Jo.ze, Act.put, Jo.za, Jo.zb, Jo.zc] at hK ⊢
      rw [show vs 11 = _ from hd 11 (by decide)] at hK ⊢
      clear hd
      go_simp
      exact hK.out _ _ rfl (Below.refl _ _)
    refine Jo.jd 13 (some 28) [(some 26, 11), (some 27, 12)] (Jo.Fact.eq undef) rfl rfl rfl rfl (fun vs wj hJ hd K hK => ?_) ?_
    · have d12 : (Jo.Fact.eq undef).P (vs 12) wj := hd 12 (by decide)
      simp only [Jo.putl, Jo.zd, Jo.ze, Act.put, Jo.za, Jo.zb, Jo.zc] at hK ⊢
      rw [show vs 11 = _ from hd 11 (by decide)] at hK ⊢
      clear hd
      generalize vs 12 = u12 at hK d12 ⊢
      replace d12 : u12 = _ := d12
      subst d12
      go_simp
      exact hK.out _ _ rfl (Below.refl _ _)
    refine Jo.jd 14 (some 29) [(some 26, 11), (some 28, 13)] (Jo.Fact.eq undef) rfl rfl rfl rfl (fun vs wj hJ hd K hK => ?_) ?_
    · have d13 : (Jo.Fact.eq undef).P (vs 13) wj := hd 13 (by decide)
      simp only [Jo.putl, Jo.zd, Jo.ze, Act.put, Jo.za, Jo.zb, Jo.zc] at hK ⊢
      rw [show vs 11 = _ from hd 11 (by decide)] at hK ⊢
      clear hd
      generalize vs 13 = u13 at hK d13 ⊢
      replace d13 : u13 = _ := d13
      subst d13
      go_simp
      exact hK.out _ _ rfl (Below.refl _ _)
    refine Jo.jd 15 (some 30) [(some 26, 11), (some 29, 14)] (Jo.Fact.eq undef) rfl rfl rfl rfl (fun vs wj hJ hd K hK => ?_) ?_
    · have d14 : (Jo.Fact.eq undef).P (vs 14) wj := hd 14 (by decide)
      simp only [Jo.putl, Jo.zd, Jo.ze, Act.put, Jo.za, Jo.zb, Jo.zc] at hK ⊢
      rw [show vs 11 = _ from hd 11 (by decide)] at hK ⊢
      clear hd
      generalize vs 14 = u14 at hK d14 ⊢
      replace d14 : u14 = _ := d14
      subst d14
      go_simp
      exact hK.out _ _ rfl (Below.refl _ _)
    refine Jo.jd 16 (some 31) [(some 26, 11), (some 30, 15)] (Jo.Fact.eq undef) rfl rfl rfl rfl (fun vs wj hJ hd K hK => ?_) ?_
    · have d15 : (Jo.Fact.eq undef).P (vs 15) wj := hd 15 (by decide)
      simp only [Jo.putl, Jo.zd, Jo.ze, Act.put, Jo.za, Jo.zb, Jo.zc] at hK ⊢
      rw [show vs 11 = _ from hd 11 (by decide)] at hK ⊢
      clear hd
      generalize vs 15 = u15 at hK d15 ⊢
      replace d15 : u15 = _ := d15
      subst d15
      go_simp
      exact hK.out _ _ rfl (Below.refl _ _)
    refine Jo.jd 17 (some 32) [(some 26, 11), (some 31, 16)] (Jo.Fact.eq (.bool false)) rfl rfl rfl rfl (fun vs wj hJ hd K hK => ?_) ?_
    · have d16 : (Jo.Fact.eq undef).P (vs 16) wj := hd 16 (by decide)
      simp only [Jo.putl, Jo.zd, Jo.ze, Act.put, Jo.za, Jo.zb, Jo.zc] at hK ⊢
      rw [show vs 11 = _ from hd 11 (by decide)] at hK ⊢
      clear hd
      generalize vs 16 = u16 at hK d16 ⊢
      replace d16 : u16 = _ := d16
      subst d16
      go_simp
      exact hK.out _ _ rfl (Below.refl _ _)
    refine Jo.jd 18 (some 2) [(some 32, 17)] (Jo.Fact.eq (.bool false)) rfl rfl rfl rfl (fun vs wj hJ hd K hK => ?_) ?_
    · simp only [Jo.putl, Jo.zd, Jo.ze, Act.put, Jo.za, Jo.zb, Jo.zc] at hK ⊢
      rw [show vs 17 = _ from hd 17 (by decide)] at hK ⊢
      clear hd
      go_simp
      exact hK.out _ _ rfl (Below.refl _ _)
    exact Jo.Steps.nil
  have d4 : (Jo.Fact.eq undef).P (vs 4) w3 := hd 4 (by decide)
  have d5 : (Jo.Fact.eq undef).P (vs 5) w3 := hd 5 (by decide)
  have d6 : (Jo.Fact.eq undef).P (vs 6) w3 := hd 6 (by decide)
  have d7 : (Jo.Fact.eq undef).P (vs 7) w3 := hd 7 (by decide)
  have d8 : (Jo.Fact.eq undef).P (vs 8) w3 := hd 8 (by decide)
  have d9 : (Jo.Fact.eq undef).P (vs 9) w3 := hd 9 (by decide)
  have d12 : (Jo.Fact.eq undef).P (vs 12) w3 := hd 12 (by decide)
  have d13 : (Jo.Fact.eq undef).P (vs 13) w3 := hd 13 (by decide)
  have d14 : (Jo.Fact.eq undef).P (vs 14) w3 := hd 14 (by decide)
  have d15 : (Jo.Fact.eq undef).P (vs 15) w3 := hd 15 (by decide)
  have d16 : (Jo.Fact.eq undef).P (vs 16) w3 := hd 16 (by decide)
  simp only [Jo.putl, Jo.zd, Jo.ze, Act.put, Jo.za, Jo.zb, Jo.zc]
  rw [show vs 1 = _ from hd 1 (by decide), show vs 2 = _ from hd 2 (by decide), show vs 3 = _ from hd 3 (by decide), show vs 10 = _ from hd 10 (by decide), show vs 11 = _ from hd 11 (by decide), show vs 17 = _ from hd 17 (by decide), show vs 18 = _ from hd 18 (by decide)]
  clear hd
  generalize vs 4 = u4 at d4 ⊢
  generalize vs 5 = u5 at d5 ⊢
  generalize vs 6 = u6 at d6 ⊢
  generalize vs 7 = u7 at d7 ⊢
  generalize vs 8 = u8 at d8 ⊢
  generalize vs 9 = u9 at d9 ⊢
  generalize vs 12 = u12 at d12 ⊢
  generalize vs 13 = u13 at d13 ⊢
  generalize vs 14 = u14 at d14 ⊢
  generalize vs 15 = u15 at d15 ⊢
  generalize vs 16 = u16 at d16 ⊢
  replace d4 : u4 = _ := d4
  subst d4
  replace d5 : u5 = _ := d5
  subst d5
  replace d6 : u6 = _ := d6
  subst d6
  replace d7 : u7 = _ := d7
  subst d7
  replace d8 : u8 = _ := d8
  subst d8
  replace d9 : u9 = _ := d9
  subst d9
  replace d12 : u12 = _ := d12
  subst d12
  replace d13 : u13 = _ := d13
  subst d13
  replace d14 : u14 = _ := d14
  subst d14
  replace d15 : u15 = _ := d15
  subst d15
  replace d16 : u16 = _ := d16
  subst d16
  replace X1 := X1.below hJ
  replace h := h.below hJ
  replace HB := Lib.hid (bt HB.out hJ)
  refine Jo.jdone (by kernel_rfl) ?_
  go_wp2
  go_ret
  exact ⟨rfl, HB.out⟩

set_option maxHeartbeats 4000000 in
theorem vMayD_l {w : World} {A : Option Addr} {n c a : Nat} {s : Bool} {t : Int} {P : Nat} {z : Int} (h : Rd w A n c a) (hn : n ≤ 1073741824) (hm : mayB s n a = true) (h0 : ((n : Int) == 0) = false) (hw : (decide (-400 ≤ t) && decide (t ≤ 400)) = true) (hP : 10 ^ 40 = P) (hz1 : cmpI (a : Int) (P : Int) = z) (hz0 : decide (z < 0) = false) : Calls Tryz.prog 37 #[.agg #[.bool s, .slice A n c, .int .i64 t]] w (PB w false) := by
  have HP := Lib.hid hP
  have H1 := Lib.hid hz1
  clear hP hz1
  have HW := Lib.hid hw
  clear hw
  go_enter Tryz.func37, Tryz.ntmps37
  go_upto_region 1 with (fail)
  have X1 := (Bo.newAt w (g := w.heap.size) (by simp) #[.bool s, .slice A n c, .int .i64 t] 36)
  have HB := Lib.hid (bel1 w (.cells #[.bool s, .slice A n c, .int .i64 t] 36))
  replace h := h.below HB.out
  generalize hW1 : (w.alloc (.cells #[.bool s, .slice A n c, .int .i64 t] 36)) = w1 at *
  clear hW1
  have xX10 := X1.a 0 (.bool s) rfl
  have xX11 := X1.a 1 (.slice A n c) rfl
  have xX12 := X1.a 2 (.int .i64 t) rfl
  go_wp2_with fail
  refine (wMay h hm).mono ?_
  rintro ee w2 ⟨rfl, B⟩
  clear xX10 xX11 xX12
  replace X1 := X1.below B
  replace h := h.below B
  replace HB := Lib.hid (bt HB.out B)
  clear B
  have xX10 := X1.a 0 (.bool s) rfl
  have xX11 := X1.a 1 (.slice A n c) rfl
  have xX12 := X1.a 2 (.int .i64 t) rfl
  go_upto_region 5 with (fail)
  refine Jo.region_joint (T := [0, 1, 2, 3, 4, 5, 6, 7, 8, 9, 10, 11, 12, 13, 14, 15, 16, 17, 18]) (ds := [some 15, some 16, some 17, some 18, some 19, some 20, some 21, some 22, some 23, some 24, some 25, some 26, some 27, some 28, some 29, some 30, some 31, some 32, some 2]) (ls := [[], [0], [1], [2], [3], [3, 4], [3, 5], [3], [3, 6, 7], [3, 8], [3, 9], [10], [11], [11, 12], [11, 13], [11, 14], [11, 15], [11, 16], [17]]) (k := 19) (L := [(some 15, 0), (some 16, 1), (some 17, 2), (some 18, 3), (some 19, 4), (some 20, 5), (some 21, 6), (some 22, 7), (some 23, 8), (some 24, 9), (some 25, 10), (some 26, 11), (some 27, 12), (some 28, 13), (some 29, 14), (some 30, 15), (some 31, 16), (some 32, 17), (some 2, 18)]) (fuel := 0) (J := fun wj => Below (World.heap w2).size w2 wj)
    (F := [Jo.Fact.eq (.pointer (some ⟨w.heap.size, 2, none⟩)), Jo.Fact.eq (.int .i64 t), Jo.Fact.eq (.bool true), Jo.Fact.eq (.bool true), Jo.Fact.eq (.pointer (some ⟨w.heap.size, 0, none⟩)), Jo.Fact.eq (.pointer (some ⟨w.heap.size, 1, none⟩)), Jo.Fact.eq (.slice A n c), Jo.Fact.nm P 41, Jo.Fact.eq (.int .i64 z), Jo.Fact.eq (.bool false), Jo.Fact.eq (.bool false), Jo.Fact.eq (.bool false), Jo.Fact.eq undef, Jo.Fact.eq undef, Jo.Fact.eq undef, Jo.Fact.eq undef, Jo.Fact.eq undef, Jo.Fact.eq (.bool false), Jo.Fact.eq (.bool false)])
    (by kernel_rfl) (by kernel_rfl) (by decide) rfl rfl (fun _ _ h b => bt h b) ((Below.refl _ _).drew) ?_ (fun vs w3 hJ hd => ?_)
  clear xX10 xX11 xX12
  · refine Jo.jd 0 (some 15) [] (Jo.Fact.eq (.pointer (some ⟨w.heap.size, 2, none⟩))) rfl rfl rfl rfl (fun vs wj hJ hd K hK => ?_) ?_
    · simp only [Jo.putl, Jo.ze, Act.put, Jo.za, Jo.zb, Jo.zc] at hK ⊢
      clear hd
      go_simp
      exact hK.out _ _ rfl (Below.refl _ _)
    refine Jo.jd 1 (some 16) [(some 15, 0)] (Jo.Fact.eq (.int .i64 t)) rfl rfl rfl rfl (fun vs wj hJ hd K hK => ?_) ?_
    · simp only [Jo.putl, Jo.zd, Jo.ze, Act.put, Jo.za, Jo.zb, Jo.zc] at hK ⊢
      rw [show vs 0 = _ from hd 0 (by decide)] at hK ⊢
      clear hd
      have xX12 := (X1.below hJ).a 2 (.int .i64 t) rfl
      go_simp
      exact hK.out _ _ rfl (Below.refl _ _)
    refine Jo.jd 2 (some 17) [(some 16, 1)] (Jo.Fact.eq (.bool true)) rfl rfl rfl rfl (fun vs wj hJ hd K hK => ?_) ?_
    · simp only [Jo.putl, Jo.zd, Jo.ze, Act.put, Jo.za, Jo.zb, Jo.zc] at hK ⊢
      rw [show vs 1 = _ from hd 1 (by decide)] at hK ⊢
      clear hd
      go_simp
      refine (vWithinE HW.out _).mono ?_
      rintro ee wk ⟨rfl, B⟩
      exact hK.out _ _ rfl B
    refine Jo.jd 3 (some 18) [(some 17, 2)] (Jo.Fact.eq (.bool true)) rfl rfl rfl rfl (fun vs wj hJ hd K hK => ?_) ?_
    · simp only [Jo.putl, Jo.zd, Jo.ze, Act.put, Jo.za, Jo.zb, Jo.zc] at hK ⊢
      rw [show vs 2 = _ from hd 2 (by decide)] at hK ⊢
      clear hd
      go_simp
      exact hK.out _ _ rfl (Below.refl _ _)
    refine Jo.jd 4 (some 19) [(some 18, 3)] (Jo.Fact.eq (.pointer (some ⟨w.heap.size, 0, none⟩))) rfl rfl rfl rfl (fun vs wj hJ hd K hK => ?_) ?_
    · simp only [Jo.putl, Jo.zd, Jo.ze, Act.put, Jo.za, Jo.zb, Jo.zc] at hK ⊢
      rw [show vs 3 = _ from hd 3 (by decide)] at hK ⊢
      clear hd
      go_simp
      exact hK.out _ _ rfl (Below.refl _ _)
    refine Jo.jd 5 (some 20) [(some 18, 3), (some 19, 4)] (Jo.Fact.eq (.pointer (some ⟨w.heap.size, 1, none⟩))) rfl rfl rfl rfl (fun vs wj hJ hd K hK => ?_) ?_
    · simp only [Jo.putl, Jo.zd, Jo.ze, Act.put, Jo.za, Jo.zb, Jo.zc] at hK ⊢
      rw [show vs 3 = _ from hd 3 (by decide), show vs 4 = _ from hd 4 (by decide)] at hK ⊢
      clear hd
      go_simp
      exact hK.out _ _ rfl (Below.refl _ _)
    refine Jo.jd 6 (some 21) [(some 18, 3), (some 20, 5)] (Jo.Fact.eq (.slice A n c)) rfl rfl rfl rfl (fun vs wj hJ hd K hK => ?_) ?_
    · simp only [Jo.putl, Jo.zd, Jo.ze, Act.put, Jo.za, Jo.zb, Jo.zc] at hK ⊢
      rw [show vs 3 = _ from hd 3 (by decide), show vs 5 = _ from hd 5 (by decide)] at hK ⊢
      clear hd
      have xX11 := (X1.below hJ).a 1 (.slice A n c) rfl
      go_simp
      exact hK.out _ _ rfl (Below.refl _ _)
    refine Jo.jd 7 (some 22) [(some 18, 3)] (Jo.Fact.nm P 41) rfl rfl rfl rfl (fun vs wj hJ hd K hK => ?_) ?_
    · simp only [Jo.putl, Jo.zd, Jo.ze, Act.put, Jo.za, Jo.zb, Jo.zc] at hK ⊢
      rw [show vs 3 = _ from hd 3 (by decide)] at hK ⊢
      clear hd
      go_simp
      refine (vPower40 HP.out _).mono ?_
      rintro ee wk ⟨A3, n3, c3, rfl, h3, k3, B⟩
      exact hK.out _ _ ⟨_, _, _, rfl, h3.nm, k3⟩ B
    refine Jo.jd 8 (some 23) [(some 18, 3), (some 21, 6), (some 22, 7)] (Jo.Fact.eq (.int .i64 z)) rfl rfl rfl rfl (fun vs wj hJ hd K hK => ?_) ?_
    · have d7 : (Jo.Fact.nm P 41).P (vs 7) wj := hd 7 (by decide)
      simp only [Jo.putl, Jo.zd, Jo.ze, Act.put, Jo.za, Jo.zb, Jo.zc] at hK ⊢
      rw [show vs 3 = _ from hd 3 (by decide), show vs 6 = _ from hd 6 (by decide)] at hK ⊢
      clear hd
      generalize vs 7 = u7 at hK d7 ⊢
      obtain ⟨A7, n7, c7, rfl, h7, k7⟩ := d7
      go_simp
      refine (vCmpE (h.below hJ) h7.rd H1.out).mono ?_
      rintro ee wk ⟨rfl, B⟩
      exact hK.out _ _ rfl B
    refine Jo.jd 9 (some 24) [(some 18, 3), (some 23, 8)] (Jo.Fact.eq (.bool false)) rfl rfl rfl rfl (fun vs wj hJ hd K hK => ?_) ?_
    · simp only [Jo.putl, Jo.zd, Jo.ze, Act.put, Jo.za, Jo.zb, Jo.zc] at hK ⊢
      rw [show vs 3 = _ from hd 3 (by decide), show vs 8 = _ from hd 8 (by decide)] at hK ⊢
      clear hd
      go_simp
      exact hK.out _ _ (by first | rfl | simp [hz0] | (rw [hz0]; rfl)) (Below.refl _ _)
    refine Jo.jd 10 (some 25) [(some 18, 3), (some 24, 9)] (Jo.Fact.eq (.bool false)) rfl rfl rfl rfl (fun vs wj hJ hd K hK => ?_) ?_
    · simp only [Jo.putl, Jo.zd, Jo.ze, Act.put, Jo.za, Jo.zb, Jo.zc] at hK ⊢
      rw [show vs 3 = _ from hd 3 (by decide), show vs 9 = _ from hd 9 (by decide)] at hK ⊢
      clear hd
      go_simp
      exact hK.out _ _ rfl (Below.refl _ _)
    refine Jo.jd 11 (some 26) [(some 25, 10)] (Jo.Fact.eq (.bool false)) rfl rfl rfl rfl (fun vs wj hJ hd K hK => ?_) ?_
    · simp only [Jo.putl, Jo.zd, Jo.ze, Act.put, Jo.za, Jo.zb, Jo.zc] at hK ⊢
      rw [show vs 10 = _ from hd 10 (by decide)] at hK ⊢
      clear hd
      go_simp
      exact hK.out _ _ rfl (Below.refl _ _)
    refine Jo.jd 12 (some 27) [(some 26, 11)] (Jo.Fact.eq undef) rfl rfl rfl rfl (fun vs wj hJ hd K hK => ?_) ?_
    · simp only [Jo.putl, Jo.zd, Jo.ze, Act.put, Jo.za, Jo.zb, Jo.zc] at hK ⊢
      rw [show vs 11 = _ from hd 11 (by decide)] at hK ⊢
      clear hd
      go_simp
      exact hK.out _ _ rfl (Below.refl _ _)
    refine Jo.jd 13 (some 28) [(some 26, 11), (some 27, 12)] (Jo.Fact.eq undef) rfl rfl rfl rfl (fun vs wj hJ hd K hK => ?_) ?_
    · have d12 : (Jo.Fact.eq undef).P (vs 12) wj := hd 12 (by decide)
      simp only [Jo.putl, Jo.zd, Jo.ze, Act.put, Jo.za, Jo.zb, Jo.zc] at hK ⊢
      rw [show vs 11 = _ from hd 11 (by decide)] at hK ⊢
      clear hd
      generalize vs 12 = u12 at hK d12 ⊢
      replace d12 : u12 = _ := d12
      subst d12
      go_simp
      exact hK.out _ _ rfl (Below.refl _ _)
    refine Jo.jd 14 (some 29) [(some 26, 11), (some 28, 13)] (Jo.Fact.eq undef) rfl rfl rfl rfl (fun vs wj hJ hd K hK => ?_) ?_
    · have d13 : (Jo.Fact.eq undef).P (vs 13) wj := hd 13 (by decide)
      simp only [Jo.putl, Jo.zd, Jo.ze, Act.put, Jo.za, Jo.zb, Jo.zc] at hK ⊢
      rw [show vs 11 = _ from hd 11 (by decide)] at hK ⊢
      clear hd
      generalize vs 13 = u13 at hK d13 ⊢
      replace d13 : u13 = _ := d13
      subst d13
      go_simp
      exact hK.out _ _ rfl (Below.refl _ _)
    refine Jo.jd 15 (some 30) [(some 26, 11), (some 29, 14)] (Jo.Fact.eq undef) rfl rfl rfl rfl (fun vs wj hJ hd K hK => ?_) ?_
    · have d14 : (Jo.Fact.eq undef).P (vs 14) wj := hd 14 (by decide)
      simp only [Jo.putl, Jo.zd, Jo.ze, Act.put, Jo.za, Jo.zb, Jo.zc] at hK ⊢
      rw [show vs 11 = _ from hd 11 (by decide)] at hK ⊢
      clear hd
      generalize vs 14 = u14 at hK d14 ⊢
      replace d14 : u14 = _ := d14
      subst d14
      go_simp
      exact hK.out _ _ rfl (Below.refl _ _)
    refine Jo.jd 16 (some 31) [(some 26, 11), (some 30, 15)] (Jo.Fact.eq undef) rfl rfl rfl rfl (fun vs wj hJ hd K hK => ?_) ?_
    · have d15 : (Jo.Fact.eq undef).P (vs 15) wj := hd 15 (by decide)
      simp only [Jo.putl, Jo.zd, Jo.ze, Act.put, Jo.za, Jo.zb, Jo.zc] at hK ⊢
      rw [show vs 11 = _ from hd 11 (by decide)] at hK ⊢
      clear hd
      generalize vs 15 = u15 at hK d15 ⊢
      replace d15 : u15 = _ := d15
      subst d15
      go_simp
      exact hK.out _ _ rfl (Below.refl _ _)
    refine Jo.jd 17 (some 32) [(some 26, 11), (some 31, 16)] (Jo.Fact.eq (.bool false)) rfl rfl rfl rfl (fun vs wj hJ hd K hK => ?_) ?_
    · have d16 : (Jo.Fact.eq undef).P (vs 16) wj := hd 16 (by decide)
      simp only [Jo.putl, Jo.zd, Jo.ze, Act.put, Jo.za, Jo.zb, Jo.zc] at hK ⊢
      rw [show vs 11 = _ from hd 11 (by decide)] at hK ⊢
      clear hd
      generalize vs 16 = u16 at hK d16 ⊢
      replace d16 : u16 = _ := d16
      subst d16
      go_simp
      exact hK.out _ _ rfl (Below.refl _ _)
    refine Jo.jd 18 (some 2) [(some 32, 17)] (Jo.Fact.eq (.bool false)) rfl rfl rfl rfl (fun vs wj hJ hd K hK => ?_) ?_
    · simp only [Jo.putl, Jo.zd, Jo.ze, Act.put, Jo.za, Jo.zb, Jo.zc] at hK ⊢
      rw [show vs 17 = _ from hd 17 (by decide)] at hK ⊢
      clear hd
      go_simp
      exact hK.out _ _ rfl (Below.refl _ _)
    exact Jo.Steps.nil
  have d7 : (Jo.Fact.nm P 41).P (vs 7) w3 := hd 7 (by decide)
  have d12 : (Jo.Fact.eq undef).P (vs 12) w3 := hd 12 (by decide)
  have d13 : (Jo.Fact.eq undef).P (vs 13) w3 := hd 13 (by decide)
  have d14 : (Jo.Fact.eq undef).P (vs 14) w3 := hd 14 (by decide)
  have d15 : (Jo.Fact.eq undef).P (vs 15) w3 := hd 15 (by decide)
  have d16 : (Jo.Fact.eq undef).P (vs 16) w3 := hd 16 (by decide)
  simp only [Jo.putl, Jo.zd, Jo.ze, Act.put, Jo.za, Jo.zb, Jo.zc]
  rw [show vs 1 = _ from hd 1 (by decide), show vs 2 = _ from hd 2 (by decide), show vs 3 = _ from hd 3 (by decide), show vs 6 = _ from hd 6 (by decide), show vs 8 = _ from hd 8 (by decide), show vs 9 = _ from hd 9 (by decide), show vs 10 = _ from hd 10 (by decide), show vs 11 = _ from hd 11 (by decide), show vs 17 = _ from hd 17 (by decide), show vs 18 = _ from hd 18 (by decide)]
  clear hd
  generalize vs 7 = u7 at d7 ⊢
  generalize vs 12 = u12 at d12 ⊢
  generalize vs 13 = u13 at d13 ⊢
  generalize vs 14 = u14 at d14 ⊢
  generalize vs 15 = u15 at d15 ⊢
  generalize vs 16 = u16 at d16 ⊢
  obtain ⟨A7, n7, c7, rfl, h7, k7⟩ := d7
  replace d12 : u12 = _ := d12
  subst d12
  replace d13 : u13 = _ := d13
  subst d13
  replace d14 : u14 = _ := d14
  subst d14
  replace d15 : u15 = _ := d15
  subst d15
  replace d16 : u16 = _ := d16
  subst d16
  replace X1 := X1.below hJ
  replace h := h.below hJ
  replace HB := Lib.hid (bt HB.out hJ)
  refine Jo.jdone (by kernel_rfl) ?_
  go_wp2
  go_ret
  exact ⟨rfl, HB.out⟩

set_option maxHeartbeats 4000000 in
theorem vMayD_m {w : World} {A : Option Addr} {n c a : Nat} {s : Bool} {t : Int} {P : Nat} {z : Int} (h : Rd w A n c a) (hn : n ≤ 1073741824) (hm : mayB s n a = true) (h0 : ((n : Int) == 0) = false) (hw : (decide (-400 ≤ t) && decide (t ≤ 400)) = true) (hP : 10 ^ 40 = P) (hz1 : cmpI (a : Int) (P : Int) = z) (hz0 : decide (z < 0) = true) (hz2 : decide (a % 10 = 0) = true) : Calls Tryz.prog 37 #[.agg #[.bool s, .slice A n c, .int .i64 t]] w (PB w false) := by
  have HP := Lib.hid hP
  have H1 := Lib.hid hz1
  clear hP hz1
  have H2 := Lib.hid hz2
  clear hz2
  have HW := Lib.hid hw
  clear hw
  go_enter Tryz.func37, Tryz.ntmps37
  go_upto_region 1 with (fail)
  have X1 := (Bo.newAt w (g := w.heap.size) (by simp) #[.bool s, .slice A n c, .int .i64 t] 36)
  have HB := Lib.hid (bel1 w (.cells #[.bool s, .slice A n c, .int .i64 t] 36))
  replace h := h.below HB.out
  generalize hW1 : (w.alloc (.cells #[.bool s, .slice A n c, .int .i64 t] 36)) = w1 at *
  clear hW1
  have xX10 := X1.a 0 (.bool s) rfl
  have xX11 := X1.a 1 (.slice A n c) rfl
  have xX12 := X1.a 2 (.int .i64 t) rfl
  go_wp2_with fail
  refine (wMay h hm).mono ?_
  rintro ee w2 ⟨rfl, B⟩
  clear xX10 xX11 xX12
  replace X1 := X1.below B
  replace h := h.below B
  replace HB := Lib.hid (bt HB.out B)
  clear B
  have xX10 := X1.a 0 (.bool s) rfl
  have xX11 := X1.a 1 (.slice A n c) rfl
  have xX12 := X1.a 2 (.int .i64 t) rfl
  go_upto_region 5 with (fail)
  refine Jo.region_joint (T := [0, 1, 2, 3, 4, 5, 6, 7, 8, 9, 10, 11, 12, 13, 14, 15, 16, 17, 18]) (ds := [some 15, some 16, some 17, some 18, some 19, some 20, some 21, some 22, some 23, some 24, some 25, some 26, some 27, some 28, some 29, some 30, some 31, some 32, some 2]) (ls := [[], [0], [1], [2], [3], [3, 4], [3, 5], [3], [3, 6, 7], [3, 8], [3, 9], [10], [11], [11, 12], [11, 13], [11, 14], [11, 15], [11, 16], [17]]) (k := 19) (L := [(some 15, 0), (some 16, 1), (some 17, 2), (some 18, 3), (some 19, 4), (some 20, 5), (some 21, 6), (some 22, 7), (some 23, 8), (some 24, 9), (some 25, 10), (some 26, 11), (some 27, 12), (some 28, 13), (some 29, 14), (some 30, 15), (some 31, 16), (some 32, 17), (some 2, 18)]) (fuel := 0) (J := fun wj => Below (World.heap w2).size w2 wj)
    (F := [Jo.Fact.eq (.pointer (some ⟨w.heap.size, 2, none⟩)), Jo.Fact.eq (.int .i64 t), Jo.Fact.eq (.bool true), Jo.Fact.eq (.bool true), Jo.Fact.eq (.pointer (some ⟨w.heap.size, 0, none⟩)), Jo.Fact.eq (.pointer (some ⟨w.heap.size, 1, none⟩)), Jo.Fact.eq (.slice A n c), Jo.Fact.nm P 41, Jo.Fact.eq (.int .i64 z), Jo.Fact.eq (.bool true), Jo.Fact.eq (.bool true), Jo.Fact.eq (.bool true), Jo.Fact.eq (.pointer (some ⟨w.heap.size, 0, none⟩)), Jo.Fact.eq (.pointer (some ⟨w.heap.size, 1, none⟩)), Jo.Fact.eq (.slice A n c), Jo.Fact.eq (.bool true), Jo.Fact.eq (.bool false), Jo.Fact.eq (.bool false), Jo.Fact.eq (.bool false)])
    (by kernel_rfl) (by kernel_rfl) (by decide) rfl rfl (fun _ _ h b => bt h b) ((Below.refl _ _).drew) ?_ (fun vs w3 hJ hd => ?_)
  clear xX10 xX11 xX12
  · refine Jo.jd 0 (some 15) [] (Jo.Fact.eq (.pointer (some ⟨w.heap.size, 2, none⟩))) rfl rfl rfl rfl (fun vs wj hJ hd K hK => ?_) ?_
    · simp only [Jo.putl, Jo.ze, Act.put, Jo.za, Jo.zb, Jo.zc] at hK ⊢
      clear hd
      go_simp
      exact hK.out _ _ rfl (Below.refl _ _)
    refine Jo.jd 1 (some 16) [(some 15, 0)] (Jo.Fact.eq (.int .i64 t)) rfl rfl rfl rfl (fun vs wj hJ hd K hK => ?_) ?_
    · simp only [Jo.putl, Jo.zd, Jo.ze, Act.put, Jo.za, Jo.zb, Jo.zc] at hK ⊢
      rw [show vs 0 = _ from hd 0 (by decide)] at hK ⊢
      clear hd
      have xX12 := (X1.below hJ).a 2 (.int .i64 t) rfl
      go_simp
      exact hK.out _ _ rfl (Below.refl _ _)
    refine Jo.jd 2 (some 17) [(some 16, 1)] (Jo.Fact.eq (.bool true)) rfl rfl rfl rfl (fun vs wj hJ hd K hK => ?_) ?_
    · simp only [Jo.putl, Jo.zd, Jo.ze, Act.put, Jo.za, Jo.zb, Jo.zc] at hK ⊢
      rw [show vs 1 = _ from hd 1 (by decide)] at hK ⊢
      clear hd
      go_simp
      refine (vWithinE HW.out _).mono ?_
      rintro ee wk ⟨rfl, B⟩
      exact hK.out _ _ rfl B
    refine Jo.jd 3 (some 18) [(some 17, 2)] (Jo.Fact.eq (.bool true)) rfl rfl rfl rfl (fun vs wj hJ hd K hK => ?_) ?_
    · simp only [Jo.putl, Jo.zd, Jo.ze, Act.put, Jo.za, Jo.zb, Jo.zc] at hK ⊢
      rw [show vs 2 = _ from hd 2 (by decide)] at hK ⊢
      clear hd
      go_simp
      exact hK.out _ _ rfl (Below.refl _ _)
    refine Jo.jd 4 (some 19) [(some 18, 3)] (Jo.Fact.eq (.pointer (some ⟨w.heap.size, 0, none⟩))) rfl rfl rfl rfl (fun vs wj hJ hd K hK => ?_) ?_
    · simp only [Jo.putl, Jo.zd, Jo.ze, Act.put, Jo.za, Jo.zb, Jo.zc] at hK ⊢
      rw [show vs 3 = _ from hd 3 (by decide)] at hK ⊢
      clear hd
      go_simp
      exact hK.out _ _ rfl (Below.refl _ _)
    refine Jo.jd 5 (some 20) [(some 18, 3), (some 19, 4)] (Jo.Fact.eq (.pointer (some ⟨w.heap.size, 1, none⟩))) rfl rfl rfl rfl (fun vs wj hJ hd K hK => ?_) ?_
    · simp only [Jo.putl, Jo.zd, Jo.ze, Act.put, Jo.za, Jo.zb, Jo.zc] at hK ⊢
      rw [show vs 3 = _ from hd 3 (by decide), show vs 4 = _ from hd 4 (by decide)] at hK ⊢
      clear hd
      go_simp
      exact hK.out _ _ rfl (Below.refl _ _)
    refine Jo.jd 6 (some 21) [(some 18, 3), (some 20, 5)] (Jo.Fact.eq (.slice A n c)) rfl rfl rfl rfl (fun vs wj hJ hd K hK => ?_) ?_
    · simp only [Jo.putl, Jo.zd, Jo.ze, Act.put, Jo.za, Jo.zb, Jo.zc] at hK ⊢
      rw [show vs 3 = _ from hd 3 (by decide), show vs 5 = _ from hd 5 (by decide)] at hK ⊢
      clear hd
      have xX11 := (X1.below hJ).a 1 (.slice A n c) rfl
      go_simp
      exact hK.out _ _ rfl (Below.refl _ _)
    refine Jo.jd 7 (some 22) [(some 18, 3)] (Jo.Fact.nm P 41) rfl rfl rfl rfl (fun vs wj hJ hd K hK => ?_) ?_
    · simp only [Jo.putl, Jo.zd, Jo.ze, Act.put, Jo.za, Jo.zb, Jo.zc] at hK ⊢
      rw [show vs 3 = _ from hd 3 (by decide)] at hK ⊢
      clear hd
      go_simp
      refine (vPower40 HP.out _).mono ?_
      rintro ee wk ⟨A3, n3, c3, rfl, h3, k3, B⟩
      exact hK.out _ _ ⟨_, _, _, rfl, h3.nm, k3⟩ B
    refine Jo.jd 8 (some 23) [(some 18, 3), (some 21, 6), (some 22, 7)] (Jo.Fact.eq (.int .i64 z)) rfl rfl rfl rfl (fun vs wj hJ hd K hK => ?_) ?_
    · have d7 : (Jo.Fact.nm P 41).P (vs 7) wj := hd 7 (by decide)
      simp only [Jo.putl, Jo.zd, Jo.ze, Act.put, Jo.za, Jo.zb, Jo.zc] at hK ⊢
      rw [show vs 3 = _ from hd 3 (by decide), show vs 6 = _ from hd 6 (by decide)] at hK ⊢
      clear hd
      generalize vs 7 = u7 at hK d7 ⊢
      obtain ⟨A7, n7, c7, rfl, h7, k7⟩ := d7
      go_simp
      refine (vCmpE (h.below hJ) h7.rd H1.out).mono ?_
      rintro ee wk ⟨rfl, B⟩
      exact hK.out _ _ rfl B
    refine Jo.jd 9 (some 24) [(some 18, 3), (some 23, 8)] (Jo.Fact.eq (.bool true)) rfl rfl rfl rfl (fun vs wj hJ hd K hK => ?_) ?_
    · simp only [Jo.putl, Jo.zd, Jo.ze, Act.put, Jo.za, Jo.zb, Jo.zc] at hK ⊢
      rw [show vs 3 = _ from hd 3 (by decide), show vs 8 = _ from hd 8 (by decide)] at hK ⊢
      clear hd
      go_simp
      exact hK.out _ _ (by first | rfl | simp [hz0] | (rw [hz0]; rfl)) (Below.refl _ _)
    refine Jo.jd 10 (some 25) [(some 18, 3), (some 24, 9)] (Jo.Fact.eq (.bool true)) rfl rfl rfl rfl (fun vs wj hJ hd K hK => ?_) ?_
    · simp only [Jo.putl, Jo.zd, Jo.ze, Act.put, Jo.za, Jo.zb, Jo.zc] at hK ⊢
      rw [show vs 3 = _ from hd 3 (by decide), show vs 9 = _ from hd 9 (by decide)] at hK ⊢
      clear hd
      go_simp
      exact hK.out _ _ rfl (Below.refl _ _)
    refine Jo.jd 11 (some 26) [(some 25, 10)] (Jo.Fact.eq (.bool true)) rfl rfl rfl rfl (fun vs wj hJ hd K hK => ?_) ?_
    · simp only [Jo.putl, Jo.zd, Jo.ze, Act.put, Jo.za, Jo.zb, Jo.zc] at hK ⊢
      rw [show vs 10 = _ from hd 10 (by decide)] at hK ⊢
      clear hd
      go_simp
      exact hK.out _ _ rfl (Below.refl _ _)
    refine Jo.jd 12 (some 27) [(some 26, 11)] (Jo.Fact.eq (.pointer (some ⟨w.heap.size, 0, none⟩))) rfl rfl rfl rfl (fun vs wj hJ hd K hK => ?_) ?_
    · simp only [Jo.putl, Jo.zd, Jo.ze, Act.put, Jo.za, Jo.zb, Jo.zc] at hK ⊢
      rw [show vs 11 = _ from hd 11 (by decide)] at hK ⊢
      clear hd
      go_simp
      exact hK.out _ _ rfl (Below.refl _ _)
    refine Jo.jd 13 (some 28) [(some 26, 11), (some 27, 12)] (Jo.Fact.eq (.pointer (some ⟨w.heap.size, 1, none⟩))) rfl rfl rfl rfl (fun vs wj hJ hd K hK => ?_) ?_
    · simp only [Jo.putl, Jo.zd, Jo.ze, Act.put, Jo.za, Jo.zb, Jo.zc] at hK ⊢
      rw [show vs 11 = _ from hd 11 (by decide), show vs 12 = _ from hd 12 (by decide)] at hK ⊢
      clear hd
      go_simp
      exact hK.out _ _ rfl (Below.refl _ _)
    refine Jo.jd 14 (some 29) [(some 26, 11), (some 28, 13)] (Jo.Fact.eq (.slice A n c)) rfl rfl rfl rfl (fun vs wj hJ hd K hK => ?_) ?_
    · simp only [Jo.putl, Jo.zd, Jo.ze, Act.put, Jo.za, Jo.zb, Jo.zc] at hK ⊢
      rw [show vs 11 = _ from hd 11 (by decide), show vs 13 = _ from hd 13 (by decide)] at hK ⊢
      clear hd
      have xX11 := (X1.below hJ).a 1 (.slice A n c) rfl
      go_simp
      exact hK.out _ _ rfl (Below.refl _ _)
    refine Jo.jd 15 (some 30) [(some 26, 11), (some 29, 14)] (Jo.Fact.eq (.bool true)) rfl rfl rfl rfl (fun vs wj hJ hd K hK => ?_) ?_
    · simp only [Jo.putl, Jo.zd, Jo.ze, Act.put, Jo.za, Jo.zb, Jo.zc] at hK ⊢
      rw [show vs 11 = _ from hd 11 (by decide), show vs 14 = _ from hd 14 (by decide)] at hK ⊢
      clear hd
      go_simp
      refine (vMultipleE (h.below hJ) hn H2.out).mono ?_
      rintro ee wk ⟨rfl, B⟩
      exact hK.out _ _ rfl B
    refine Jo.jd 16 (some 31) [(some 26, 11), (some 30, 15)] (Jo.Fact.eq (.bool false)) rfl rfl rfl rfl (fun vs wj hJ hd K hK => ?_) ?_
    · simp only [Jo.putl, Jo.zd, Jo.ze, Act.put, Jo.za, Jo.zb, Jo.zc] at hK ⊢
      rw [show vs 11 = _ from hd 11 (by decide), show vs 15 = _ from hd 15 (by decide)] at hK ⊢
      clear hd
      go_simp
      exact hK.out _ _ rfl (Below.refl _ _)
    refine Jo.jd 17 (some 32) [(some 26, 11), (some 31, 16)] (Jo.Fact.eq (.bool false)) rfl rfl rfl rfl (fun vs wj hJ hd K hK => ?_) ?_
    · simp only [Jo.putl, Jo.zd, Jo.ze, Act.put, Jo.za, Jo.zb, Jo.zc] at hK ⊢
      rw [show vs 11 = _ from hd 11 (by decide), show vs 16 = _ from hd 16 (by decide)] at hK ⊢
      clear hd
      go_simp
      exact hK.out _ _ rfl (Below.refl _ _)
    refine Jo.jd 18 (some 2) [(some 32, 17)] (Jo.Fact.eq (.bool false)) rfl rfl rfl rfl (fun vs wj hJ hd K hK => ?_) ?_
    · simp only [Jo.putl, Jo.zd, Jo.ze, Act.put, Jo.za, Jo.zb, Jo.zc] at hK ⊢
      rw [show vs 17 = _ from hd 17 (by decide)] at hK ⊢
      clear hd
      go_simp
      exact hK.out _ _ rfl (Below.refl _ _)
    exact Jo.Steps.nil
  have d7 : (Jo.Fact.nm P 41).P (vs 7) w3 := hd 7 (by decide)
  simp only [Jo.putl, Jo.zd, Jo.ze, Act.put, Jo.za, Jo.zb, Jo.zc]
  rw [show vs 1 = _ from hd 1 (by decide), show vs 2 = _ from hd 2 (by decide), show vs 3 = _ from hd 3 (by decide), show vs 6 = _ from hd 6 (by decide), show vs 8 = _ from hd 8 (by decide), show vs 9 = _ from hd 9 (by decide), show vs 10 = _ from hd 10 (by decide), show vs 11 = _ from hd 11 (by decide), show vs 14 = _ from hd 14 (by decide), show vs 15 = _ from hd 15 (by decide), show vs 16 = _ from hd 16 (by decide), show vs 17 = _ from hd 17 (by decide), show vs 18 = _ from hd 18 (by decide)]
  clear hd
  generalize vs 7 = u7 at d7 ⊢
  obtain ⟨A7, n7, c7, rfl, h7, k7⟩ := d7
  replace X1 := X1.below hJ
  replace h := h.below hJ
  replace HB := Lib.hid (bt HB.out hJ)
  refine Jo.jdone (by kernel_rfl) ?_
  go_wp2
  go_ret
  exact ⟨rfl, HB.out⟩

set_option maxHeartbeats 4000000 in
theorem vMayD_y {w : World} {A : Option Addr} {n c a : Nat} {s : Bool} {t : Int} {P : Nat} {z : Int} (h : Rd w A n c a) (hn : n ≤ 1073741824) (hm : mayB s n a = true) (h0 : ((n : Int) == 0) = false) (hw : (decide (-400 ≤ t) && decide (t ≤ 400)) = true) (hP : 10 ^ 40 = P) (hz1 : cmpI (a : Int) (P : Int) = z) (hz0 : decide (z < 0) = true) (hz2 : decide (a % 10 = 0) = false) : Calls Tryz.prog 37 #[.agg #[.bool s, .slice A n c, .int .i64 t]] w (PB w true) := by
  have HP := Lib.hid hP
  have H1 := Lib.hid hz1
  clear hP hz1
  have H2 := Lib.hid hz2
  clear hz2
  have HW := Lib.hid hw
  clear hw
  go_enter Tryz.func37, Tryz.ntmps37
  go_upto_region 1 with (fail)
  have X1 := (Bo.newAt w (g := w.heap.size) (by simp) #[.bool s, .slice A n c, .int .i64 t] 36)
  have HB := Lib.hid (bel1 w (.cells #[.bool s, .slice A n c, .int .i64 t] 36))
  replace h := h.below HB.out
  generalize hW1 : (w.alloc (.cells #[.bool s, .slice A n c, .int .i64 t] 36)) = w1 at *
  clear hW1
  have xX10 := X1.a 0 (.bool s) rfl
  have xX11 := X1.a 1 (.slice A n c) rfl
  have xX12 := X1.a 2 (.int .i64 t) rfl
  go_wp2_with fail
  refine (wMay h hm).mono ?_
  rintro ee w2 ⟨rfl, B⟩
  clear xX10 xX11 xX12
  replace X1 := X1.below B
  replace h := h.below B
  replace HB := Lib.hid (bt HB.out B)
  clear B
  have xX10 := X1.a 0 (.bool s) rfl
  have xX11 := X1.a 1 (.slice A n c) rfl
  have xX12 := X1.a 2 (.int .i64 t) rfl
  go_upto_region 5 with (fail)
  refine Jo.region_joint (T := [0, 1, 2, 3, 4, 5, 6, 7, 8, 9, 10, 11, 12, 13, 14, 15, 16, 17, 18]) (ds := [some 15, some 16, some 17, some 18, some 19, some 20, some 21, some 22, some 23, some 24, some 25, some 26, some 27, some 28, some 29, some 30, some 31, some 32, some 2]) (ls := [[], [0], [1], [2], [3], [3, 4], [3, 5], [3], [3, 6, 7], [3, 8], [3, 9], [10], [11], [11, 12], [11, 13], [11, 14], [11, 15], [11, 16], [17]]) (k := 19) (L := [(some 15, 0), (some 16, 1), (some 17, 2), (some 18, 3), (some 19, 4), (some 20, 5), (some 21, 6), (some 22, 7), (some 23, 8), (some 24, 9), (some 25, 10), (some 26, 11), (some 27, 12), (some 28, 13), (some 29, 14), (some 30, 15), (some 31, 16), (some 32, 17), (some 2, 18)]) (fuel := 0) (J := fun wj => Below (World.heap w2).size w2 wj)
    (F := [Jo.Fact.eq (.pointer (some ⟨w.heap.size, 2, none⟩)), Jo.Fact.eq (.int .i64 t), Jo.Fact.eq (.bool true), Jo.Fact.eq (.bool true), Jo.Fact.eq (.pointer (some ⟨w.heap.size, 0, none⟩)), Jo.Fact.eq (.pointer (some ⟨w.heap.size, 1, none⟩)), Jo.Fact.eq (.slice A n c), Jo.Fact.nm P 41, Jo.Fact.eq (.int .i64 z), Jo.Fact.eq (.bool true), Jo.Fact.eq (.bool true), Jo.Fact.eq (.bool true), Jo.Fact.eq (.pointer (some ⟨w.heap.size, 0, none⟩)), Jo.Fact.eq (.pointer (some ⟨w.heap.size, 1, none⟩)), Jo.Fact.eq (.slice A n c), Jo.Fact.eq (.bool false), Jo.Fact.eq (.bool true), Jo.Fact.eq (.bool true), Jo.Fact.eq (.bool true)])
    (by kernel_rfl) (by kernel_rfl) (by decide) rfl rfl (fun _ _ h b => bt h b) ((Below.refl _ _).drew) ?_ (fun vs w3 hJ hd => ?_)
  clear xX10 xX11 xX12
  · refine Jo.jd 0 (some 15) [] (Jo.Fact.eq (.pointer (some ⟨w.heap.size, 2, none⟩))) rfl rfl rfl rfl (fun vs wj hJ hd K hK => ?_) ?_
    · simp only [Jo.putl, Jo.ze, Act.put, Jo.za, Jo.zb, Jo.zc] at hK ⊢
      clear hd
      go_simp
      exact hK.out _ _ rfl (Below.refl _ _)
    refine Jo.jd 1 (some 16) [(some 15, 0)] (Jo.Fact.eq (.int .i64 t)) rfl rfl rfl rfl (fun vs wj hJ hd K hK => ?_) ?_
    · simp only [Jo.putl, Jo.zd, Jo.ze, Act.put, Jo.za, Jo.zb, Jo.zc] at hK ⊢
      rw [show vs 0 = _ from hd 0 (by decide)] at hK ⊢
      clear hd
      have xX12 := (X1.below hJ).a 2 (.int .i64 t) rfl
      go_simp
      exact hK.out _ _ rfl (Below.refl _ _)
    refine Jo.jd 2 (some 17) [(some 16, 1)] (Jo.Fact.eq (.bool true)) rfl rfl rfl rfl (fun vs wj hJ hd K hK => ?_) ?_
    · simp only [Jo.putl, Jo.zd, Jo.ze, Act.put, Jo.za, Jo.zb, Jo.zc] at hK ⊢
      rw [show vs 1 = _ from hd 1 (by decide)] at hK ⊢
      clear hd
      go_simp
      refine (vWithinE HW.out _).mono ?_
      rintro ee wk ⟨rfl, B⟩
      exact hK.out _ _ rfl B
    refine Jo.jd 3 (some 18) [(some 17, 2)] (Jo.Fact.eq (.bool true)) rfl rfl rfl rfl (fun vs wj hJ hd K hK => ?_) ?_
    · simp only [Jo.putl, Jo.zd, Jo.ze, Act.put, Jo.za, Jo.zb, Jo.zc] at hK ⊢
      rw [show vs 2 = _ from hd 2 (by decide)] at hK ⊢
      clear hd
      go_simp
      exact hK.out _ _ rfl (Below.refl _ _)
    refine Jo.jd 4 (some 19) [(some 18, 3)] (Jo.Fact.eq (.pointer (some ⟨w.heap.size, 0, none⟩))) rfl rfl rfl rfl (fun vs wj hJ hd K hK => ?_) ?_
    · simp only [Jo.putl, Jo.zd, Jo.ze, Act.put, Jo.za, Jo.zb, Jo.zc] at hK ⊢
      rw [show vs 3 = _ from hd 3 (by decide)] at hK ⊢
      clear hd
      go_simp
      exact hK.out _ _ rfl (Below.refl _ _)
    refine Jo.jd 5 (some 20) [(some 18, 3), (some 19, 4)] (Jo.Fact.eq (.pointer (some ⟨w.heap.size, 1, none⟩))) rfl rfl rfl rfl (fun vs wj hJ hd K hK => ?_) ?_
    · simp only [Jo.putl, Jo.zd, Jo.ze, Act.put, Jo.za, Jo.zb, Jo.zc] at hK ⊢
      rw [show vs 3 = _ from hd 3 (by decide), show vs 4 = _ from hd 4 (by decide)] at hK ⊢
      clear hd
      go_simp
      exact hK.out _ _ rfl (Below.refl _ _)
    refine Jo.jd 6 (some 21) [(some 18, 3), (some 20, 5)] (Jo.Fact.eq (.slice A n c)) rfl rfl rfl rfl (fun vs wj hJ hd K hK => ?_) ?_
    · simp only [Jo.putl, Jo.zd, Jo.ze, Act.put, Jo.za, Jo.zb, Jo.zc] at hK ⊢
      rw [show vs 3 = _ from hd 3 (by decide), show vs 5 = _ from hd 5 (by decide)] at hK ⊢
      clear hd
      have xX11 := (X1.below hJ).a 1 (.slice A n c) rfl
      go_simp
      exact hK.out _ _ rfl (Below.refl _ _)
    refine Jo.jd 7 (some 22) [(some 18, 3)] (Jo.Fact.nm P 41) rfl rfl rfl rfl (fun vs wj hJ hd K hK => ?_) ?_
    · simp only [Jo.putl, Jo.zd, Jo.ze, Act.put, Jo.za, Jo.zb, Jo.zc] at hK ⊢
      rw [show vs 3 = _ from hd 3 (by decide)] at hK ⊢
      clear hd
      go_simp
      refine (vPower40 HP.out _).mono ?_
      rintro ee wk ⟨A3, n3, c3, rfl, h3, k3, B⟩
      exact hK.out _ _ ⟨_, _, _, rfl, h3.nm, k3⟩ B
    refine Jo.jd 8 (some 23) [(some 18, 3), (some 21, 6), (some 22, 7)] (Jo.Fact.eq (.int .i64 z)) rfl rfl rfl rfl (fun vs wj hJ hd K hK => ?_) ?_
    · have d7 : (Jo.Fact.nm P 41).P (vs 7) wj := hd 7 (by decide)
      simp only [Jo.putl, Jo.zd, Jo.ze, Act.put, Jo.za, Jo.zb, Jo.zc] at hK ⊢
      rw [show vs 3 = _ from hd 3 (by decide), show vs 6 = _ from hd 6 (by decide)] at hK ⊢
      clear hd
      generalize vs 7 = u7 at hK d7 ⊢
      obtain ⟨A7, n7, c7, rfl, h7, k7⟩ := d7
      go_simp
      refine (vCmpE (h.below hJ) h7.rd H1.out).mono ?_
      rintro ee wk ⟨rfl, B⟩
      exact hK.out _ _ rfl B
    refine Jo.jd 9 (some 24) [(some 18, 3), (some 23, 8)] (Jo.Fact.eq (.bool true)) rfl rfl rfl rfl (fun vs wj hJ hd K hK => ?_) ?_
    · simp only [Jo.putl, Jo.zd, Jo.ze, Act.put, Jo.za, Jo.zb, Jo.zc] at hK ⊢
      rw [show vs 3 = _ from hd 3 (by decide), show vs 8 = _ from hd 8 (by decide)] at hK ⊢
      clear hd
      go_simp
      exact hK.out _ _ (by first | rfl | simp [hz0] | (rw [hz0]; rfl)) (Below.refl _ _)
    refine Jo.jd 10 (some 25) [(some 18, 3), (some 24, 9)] (Jo.Fact.eq (.bool true)) rfl rfl rfl rfl (fun vs wj hJ hd K hK => ?_) ?_
    · simp only [Jo.putl, Jo.zd, Jo.ze, Act.put, Jo.za, Jo.zb, Jo.zc] at hK ⊢
      rw [show vs 3 = _ from hd 3 (by decide), show vs 9 = _ from hd 9 (by decide)] at hK ⊢
      clear hd
      go_simp
      exact hK.out _ _ rfl (Below.refl _ _)
    refine Jo.jd 11 (some 26) [(some 25, 10)] (Jo.Fact.eq (.bool true)) rfl rfl rfl rfl (fun vs wj hJ hd K hK => ?_) ?_
    · simp only [Jo.putl, Jo.zd, Jo.ze, Act.put, Jo.za, Jo.zb, Jo.zc] at hK ⊢
      rw [show vs 10 = _ from hd 10 (by decide)] at hK ⊢
      clear hd
      go_simp
      exact hK.out _ _ rfl (Below.refl _ _)
    refine Jo.jd 12 (some 27) [(some 26, 11)] (Jo.Fact.eq (.pointer (some ⟨w.heap.size, 0, none⟩))) rfl rfl rfl rfl (fun vs wj hJ hd K hK => ?_) ?_
    · simp only [Jo.putl, Jo.zd, Jo.ze, Act.put, Jo.za, Jo.zb, Jo.zc] at hK ⊢
      rw [show vs 11 = _ from hd 11 (by decide)] at hK ⊢
      clear hd
      go_simp
      exact hK.out _ _ rfl (Below.refl _ _)
    refine Jo.jd 13 (some 28) [(some 26, 11), (some 27, 12)] (Jo.Fact.eq (.pointer (some ⟨w.heap.size, 1, none⟩))) rfl rfl rfl rfl (fun vs wj hJ hd K hK => ?_) ?_
    · simp only [Jo.putl, Jo.zd, Jo.ze, Act.put, Jo.za, Jo.zb, Jo.zc] at hK ⊢
      rw [show vs 11 = _ from hd 11 (by decide), show vs 12 = _ from hd 12 (by decide)] at hK ⊢
      clear hd
      go_simp
      exact hK.out _ _ rfl (Below.refl _ _)
    refine Jo.jd 14 (some 29) [(some 26, 11), (some 28, 13)] (Jo.Fact.eq (.slice A n c)) rfl rfl rfl rfl (fun vs wj hJ hd K hK => ?_) ?_
    · simp only [Jo.putl, Jo.zd, Jo.ze, Act.put, Jo.za, Jo.zb, Jo.zc] at hK ⊢
      rw [show vs 11 = _ from hd 11 (by decide), show vs 13 = _ from hd 13 (by decide)] at hK ⊢
      clear hd
      have xX11 := (X1.below hJ).a 1 (.slice A n c) rfl
      go_simp
      exact hK.out _ _ rfl (Below.refl _ _)
    refine Jo.jd 15 (some 30) [(some 26, 11), (some 29, 14)] (Jo.Fact.eq (.bool false)) rfl rfl rfl rfl (fun vs wj hJ hd K hK => ?_) ?_
    · simp only [Jo.putl, Jo.zd, Jo.ze, Act.put, Jo.za, Jo.zb, Jo.zc] at hK ⊢
      rw [show vs 11 = _ from hd 11 (by decide), show vs 14 = _ from hd 14 (by decide)] at hK ⊢
      clear hd
      go_simp
      refine (vMultipleE (h.below hJ) hn H2.out).mono ?_
      rintro ee wk ⟨rfl, B⟩
      exact hK.out _ _ rfl B
    refine Jo.jd 16 (some 31) [(some 26, 11), (some 30, 15)] (Jo.Fact.eq (.bool true)) rfl rfl rfl rfl (fun vs wj hJ hd K hK => ?_) ?_
    · simp only [Jo.putl, Jo.zd, Jo.ze, Act.put, Jo.za, Jo.zb, Jo.zc] at hK ⊢
      rw [show vs 11 = _ from hd 11 (by decide), show vs 15 = _ from hd 15 (by decide)] at hK ⊢
      clear hd
      go_simp
      exact hK.out _ _ rfl (Below.refl _ _)
    refine Jo.jd 17 (some 32) [(some 26, 11), (some 31, 16)] (Jo.Fact.eq (.bool true)) rfl rfl rfl rfl (fun vs wj hJ hd K hK => ?_) ?_
    · simp only [Jo.putl, Jo.zd, Jo.ze, Act.put, Jo.za, Jo.zb, Jo.zc] at hK ⊢
      rw [show vs 11 = _ from hd 11 (by decide), show vs 16 = _ from hd 16 (by decide)] at hK ⊢
      clear hd
      go_simp
      exact hK.out _ _ rfl (Below.refl _ _)
    refine Jo.jd 18 (some 2) [(some 32, 17)] (Jo.Fact.eq (.bool true)) rfl rfl rfl rfl (fun vs wj hJ hd K hK => ?_) ?_
    · simp only [Jo.putl, Jo.zd, Jo.ze, Act.put, Jo.za, Jo.zb, Jo.zc] at hK ⊢
      rw [show vs 17 = _ from hd 17 (by decide)] at hK ⊢
      clear hd
      go_simp
      exact hK.out _ _ rfl (Below.refl _ _)
    exact Jo.Steps.nil
  have d7 : (Jo.Fact.nm P 41).P (vs 7) w3 := hd 7 (by decide)
  simp only [Jo.putl, Jo.zd, Jo.ze, Act.put, Jo.za, Jo.zb, Jo.zc]
  rw [show vs 1 = _ from hd 1 (by decide), show vs 2 = _ from hd 2 (by decide), show vs 3 = _ from hd 3 (by decide), show vs 6 = _ from hd 6 (by decide), show vs 8 = _ from hd 8 (by decide), show vs 9 = _ from hd 9 (by decide), show vs 10 = _ from hd 10 (by decide), show vs 11 = _ from hd 11 (by decide), show vs 14 = _ from hd 14 (by decide), show vs 15 = _ from hd 15 (by decide), show vs 16 = _ from hd 16 (by decide), show vs 17 = _ from hd 17 (by decide), show vs 18 = _ from hd 18 (by decide)]
  clear hd
  generalize vs 7 = u7 at d7 ⊢
  obtain ⟨A7, n7, c7, rfl, h7, k7⟩ := d7
  replace X1 := X1.below hJ
  replace h := h.below hJ
  replace HB := Lib.hid (bt HB.out hJ)
  refine Jo.jdone (by kernel_rfl) ?_
  go_wp2
  go_ret
  exact ⟨rfl, HB.out⟩

theorem vMayD {w : World} {A : Option Addr} {n c a : Nat} {s : Bool} {t : Int} {r : Bool} (h : Rd w A n c a) (hn : n ≤ 1073741824) (hr : mayC s n a t = r) :
    Calls Tryz.prog 37 #[.agg #[.bool s, .slice A n c, .int .i64 t]] w (PB w r) := by
  subst hr
  unfold mayC
  cases hm : mayB s n a
  · rw [Bool.false_and]
    exact vMayD_no h hn hm
  · rw [Bool.true_and]
    by_cases h0 : n = 0
    · subst h0
      rw [if_pos rfl]
      exact vMayD_zero h hm (by rw [Bool.eq_iff_iff]; simp)
    · rw [if_neg h0]
      have hz : ((n : Int) == 0) = false := by simp; omega
      cases hw : (decide (-400 ≤ t) && decide (t ≤ 400))
      · exact vMayD_w h hn hm hz hw
      · rw [Bool.true_and]
        obtain ⟨P, hP⟩ : ∃ P : Nat, 10 ^ 40 = P := ⟨_, rfl⟩
        rw [hP]
        by_cases hlt : a < P
        · have hz1 : cmpI (a : Int) (P : Int) = -1 := cmpI_lt (by omega)
          rw [show decide (a < P) = true by simpa using hlt, Bool.true_and]
          cases hz2 : decide (a % 10 = 0)
          · exact vMayD_y h hn hm hz hw hP hz1 (by decide) hz2
          · exact vMayD_m h hn hm hz hw hP hz1 (by decide) hz2
        · obtain ⟨z, hz1, hz0⟩ : ∃ z, cmpI (a : Int) (P : Int) = z ∧ 0 ≤ z := by
            rcases Nat.lt_or_ge P a with hh | hh
            · exact ⟨1, cmpI_gt (by omega), by decide⟩
            · exact ⟨0, cmpI_eq (by omega), by decide⟩
          rw [show decide (a < P) = false by simpa using hlt, Bool.false_and]
          exact vMayD_l h hn hm hz hw hP hz1 (by simp; omega)
end Go.Proofs.YtpmakljahhhnfaaGreatDoor

/-
  What decimal.Make does.
-/
namespace Go.Proofs.YtpmakljahhhnfaaGreatDoor
open Go.RowKit
set_option linter.unusedVariables false
set_option maxRecDepth 100000

theorem zs_sg (s : Bool) (a : Nat) : zs s a = sg s a := rfl
/-- What Make answers: the number, the power of ten, the error. -/
def mkA (z t : Int) : (Int × Int) × Int := match mkd z t with
  | none => ((0, 0), 1)
  | some d => (d, 0)
/-- A number and an error are answered. -/
def PD (w : World) (r : (Int × Int) × Int) (e : Ending) (w' : World) : Prop := ∃ s A n c, e = .returned (.tuple #[.agg #[.bool s, .slice A n c, .int .i64 r.1.2], .int .i64 r.2]) ∧ Wn w' s A n c r.1.1 ∧ n ≤ 5 ∧ Below w.heap.size w w'
theorem mkA_of {s : Bool} {a q k : Nat} {t : Int} (h : a = q * 10 ^ k) (hq : q % 10 ≠ 0) :
    mkA (sg s a) t = if q < 10 ^ 40 ∧ -400 ≤ t + k ∧ t + k ≤ 400 then ((sg s q, t + k), 0) else ((0, 0), 1) := by
  have ha : a ≠ 0 := by
    rw [h]
    exact Nat.mul_ne_zero (by omega) (by simp)
  have hz : ¬ sg s a = 0 := by rw [← zs_sg, zs_zero]; exact ha
  unfold mkA mkd
  rw [if_neg hz, sg_natAbs, sg_lt]
  have e1 : u10 a = q := by rw [h]; exact u10_of hq k
  have e2 : v10 a = k := by rw [h]; exact v10_of hq k
  rw [e1, e2]
  have e3 : (s && decide (0 < a)) = s := by simp; omega
  rw [e3, zs_sg]
  by_cases hc : q < 10 ^ 40 ∧ -400 ≤ t + k ∧ t + k ≤ 400
  · rw [if_pos hc, if_pos hc]
  · rw [if_neg hc, if_neg hc]
theorem ten40 : 10 ^ 40 < 4294967296 ^ 5 := by decide

theorem wrap_in {x : Int} (h1 : -9223372036854775808 ≤ x) (h2 : x ≤ 9223372036854775807) : IntKind.i64.wrap x = x := by rw [IntKind.wrap_i64]; omega
end Go.Proofs.YtpmakljahhhnfaaGreatDoor

/-
  Contracts and words that the statement's proof rests on, several texts in one: Tc, Tq.
-/
import Derived.Below
import Derived.BigCall
import Derived.BigGuard
import Derived.BigQuiet
import Derived.Carry
import Derived.Deep.DeepCutAuto
import Derived.Deep.Draws
import Derived.Deep.MidRow
import Derived.Deep.QuietTactic
import Derived.Deep.RegionHeld3
import Derived.Deep.RegionWith
import Derived.IntWalk
import Derived.Laws.CopyOwn
import Derived.Laws.MakeOwn
import Derived.Laws.OwnMore
import Derived.Laws.Rows
import Derived.Lib.AppendIntMem
import Derived.Lib.Atoi
import Derived.Lib.AtoiErrMem
import Derived.Lib.BitFns
import Derived.Lib.FrozenHead2
import Derived.Lib.Hide
import Derived.Lib.ItoaMem
import Derived.Lib.ItoaNum
import Derived.Lib.OthersKept
import Derived.Lib.Repeat
import Derived.Lib.Strings
import Derived.Lib.TrimByte
import Derived.Lib.UnsafeStr
import Derived.Maps.AppendAt
import Derived.RegionTactic
import Derived.StillTailTactics
import Derived.Test.YtpmakljahhhnfaaDoorRows
import Derived.WalkKit
import Derived.WalkLawsBesides
import Derived.WalkSpells
import Derived.Test.YtpmakljahhhnfaaDoorYBaj
import Derived.Test.YtpmakljahhhnfaaDoorYBal
import Derived.Test.YtpmakljahhhnfaaDoorYBao
import Derived.Test.YtpmakljahhhnfaaDoorYBax
/-
  What decimal.May does.
-/
namespace Go.Proofs.YtpmakljahhhnfaaDoor
open Go.RowKit
set_option linter.unusedVariables false
set_option maxRecDepth 100000

/-- May it be, told of a sign, the count of limbs, the number and the power of ten? -/
def mayC (s : Bool) (n a : Nat) (t : Int) : Bool := mayB s n a && (if n = 0 then decide (t = 0) else (decide (-400 ≤ t) && decide (t ≤ 400)) && (decide (a < 10 ^ 40) && !decide (a % 10 = 0)))
theorem vPower40 {P : Nat} (hP : 10 ^ 40 = P) (w : World) : Calls Tryd.prog 47 #[.int .i64 40] w (P1N w 41 P) := hP ▸ vPower 40 w (by decide)
theorem vWithinE {t : Int} {p : Bool} (h : (decide (-400 ≤ t) && decide (t ≤ 400)) = p) (w : World) : Calls Tryd.prog 45 #[.int .i64 t] w (PB w p) := h ▸ (vWithin t w).mono fun e w' x => ⟨x.1, x.2 ▸ Below.refl _ _⟩
theorem vMultipleE {w : World} {A : Option Addr} {n c a : Nat} {p : Bool} (h : Rd w A n c a) (hn : n ≤ 1073741824) (hp : decide (a % 10 = 0) = p) : Calls Tryd.prog 48 #[.slice A n c] w (PB w p) := hp ▸ vMultiple h hn

set_option maxHeartbeats 2000000 in
theorem vMayD_no {w : World} {A : Option Addr} {n c a : Nat} {s : Bool} {t : Int} (h : Rd w A n c a) (hn : n ≤ 1073741824) (hm : mayB s n a = false) : Calls Tryd.prog 16 #[.agg #[.bool s, .slice A n c, .int .i64 t]] w (PB w false) := by
  go_enter Tryd.func16, Tryd.ntmps16
  go_upto_region 1 with (fail)
  have X1 := (Bo.newAt w (g := w.heap.size) (by simp) #[.bool s, .slice A n c, .int .i64 t] 43)
  have HB := Lib.hid (bel1 w (.cells #[.bool s, .slice A n c, .int .i64 t] 43))
  replace h := h.below HB.out
  generalize hW1 : (w.alloc (.cells #[.bool s, .slice A n c, .int .i64 t] 43)) = w1 at *
  clear hW1
  have xX10 := X1.a 0 (.bool s) rfl
  have xX11 := X1.a 1 (.slice A n c) rfl
  have xX12 := X1.a 2 (.int .i64 t) rfl
  go_wp2_with fail
  refine (wMay h hm).mono ?_
  rintro ee w2 ⟨rfl, B⟩
  clear xX10 xX11 xX12
  replace X1 := X1.below B
  replace h := h.below B
  replace HB := Lib.hid (bt HB.out B)
  clear B
  go_wp2
  go_ret
  exact ⟨rfl, HB.out⟩

set_option maxHeartbeats 2000000 in
theorem vMayD_zero {w : World} {A : Option Addr} {c a : Nat} {s : Bool} {t : Int} {r : Bool} (h : Rd w A 0 c a) (hm : mayB s 0 a = true) (hr : (t == 0) = r) : Calls Tryd.prog 16 #[.agg #[.bool s, .slice A 0 c, .int .i64 t]] w (PB w r) := by
  have HR := Lib.hid hr
  clear hr
  go_enter Tryd.func16, Tryd.ntmps16
  go_upto_region 1 with (fail)
  have X1 := (Bo.newAt w (g := w.heap.size) (by simp) #[.bool s, .slice A 0 c, .int .i64 t] 43)
  have HB := Lib.hid (bel1 w (.cells #[.bool s, .slice A 0 c, .int .i64 t] 43))
  replace h := h.below HB.out
  generalize hW1 : (w.alloc (.cells #[.bool s, .slice A 0 c, .int .i64 t] 43)) = w1 at *
  clear hW1
  have xX10 := X1.a 0 (.bool s) rfl
  have xX11 := X1.a 1 (.slice A 0 c) rfl
  have xX12 := X1.a 2 (.int .i64 t) rfl
  go_wp2_with fail
  refine (wMay h hm).mono ?_
  rintro ee w2 ⟨rfl, B⟩
  clear xX10 xX11 xX12
  replace X1 := X1.below B
  replace h := h.below B
  replace HB := Lib.hid (bt HB.out B)
  clear B
  have xX10 := X1.a 0 (.bool s) rfl
  have xX11 := X1.a 1 (.slice A 0 c) rfl
  have xX12 := X1.a 2 (.int .i64 t) rfl
  go_wp2
  go_ret
  exact ⟨ret_bool HR.out, HB.out⟩

set_option maxHeartbeats 4000000 in
theorem vMayD_w {w : World} {A : Option Addr} {n c a : Nat} {s : Bool} {t : Int} (h : Rd w A n c a) (hn : n ≤ 1073741824) (hm : mayB s n a = true) (h0 : ((n : Int) == 0) = false) (hw : (decide (-400 ≤ t) && decide (t ≤ 400)) = false) : Calls Tryd.prog 16 #[.agg #[.bool s, .slice A n c, .int .i64 t]] w (PB w false) := by
  have HW := Lib.hid hw
  clear hw
  go_enter Tryd.func16, Tryd.ntmps16
  go_upto_region 1 with (fail)
  have X1 := (Bo.newAt w (g := w.heap.size) (by simp) #[.bool s, .slice A n c, .int .i64 t] 43)
  have HB := Lib.hid (bel1 w (.cells #[.bool s, .slice A n c, .int .i64 t] 43))
  replace h := h.below HB.out
  generalize hW1 : (w.alloc (.cells #[.bool s, .slice A n c, .int .i64 t] 43)) = w1 at *
  clear hW1
  have xX10 := X1.a 0 (.bool s) rfl
  have xX11 := X1.a 1 (.slice A n c) rfl
  have xX12 := X1.a 2 (.int .i64 t) rfl
  go_wp2_with fail
  refine (wMay h hm).mono ?_
  rintro ee w2 ⟨rfl, B⟩
  clear xX10 xX11 xX12
  replace X1 := X1.below B
  replace h := h.below B
  replace HB := Lib.hid (bt HB.out B)
  clear B
  have xX10 := X1.a 0 (.bool s) rfl
  have xX11 := X1.a 1 (.slice A n c) rfl
  have xX12 := X1.a 2 (.int .i64 t) rfl
  go_upto_region 5 with (fail)
  refine Jo.region_joint (T := [0, 1, 2, 3, 4, 5, 6, 7, 8, 9, 10, 11, 12, 13, 14, 15, 16, 17, 18]) (ds := [some 15, some 16, some 17, some 18, some 19, some 20, some 21, some 22, some 23, some 24, some 25, some 26, some 27, some 28, some 29, some 30, some 31, some 32, some 2]) (ls := [[], [0], [1], [2], [3], [3, 4], [3, 5], [3], [3, 6, 7], [3, 8], [3, 9], [10], [11], [11, 12], [11, 13], [11, 14], [11, 15], [11, 16], [17]]) (k := 19) (L := [(some 15, 0), (some 16, 1), (some 17, 2), (some 18, 3), (some 19, 4), (some 20, 5), (some 21, 6), (some 22, 7), (some 23, 8), (some 24, 9), (some 25, 10), (some 26, 11), (some 27, 12), (some 28, 13), (some 29, 14), (some 30, 15), (some 31, 16), (some 32, 17), (some 2, 18)]) (fuel := 0) (J := fun wj => Below (World.heap w2).size w2 wj)
    (F := [Jo.Fact.eq (.pointer (some ⟨w.heap.size, 2, none⟩)), Jo.Fact.eq (.int .i64 t), Jo.Fact.eq (.bool false), Jo.Fact.eq (.bool false), Jo.Fact.eq undef, Jo.Fact.eq undef, Jo.Fact.eq undef, Jo.Fact.eq undef, Jo.Fact.eq undef, Jo.Fact.eq undef, Jo.Fact.eq (.bool false), Jo.Fact.eq (.bool false), Jo.Fact.eq undef, Jo.Fact.eq undef, Jo.Fact.eq undef, Jo.Fact.eq undef, Jo.Fact.eq undef, Jo.Fact.eq (.bool false), Jo.Fact.eq (.bool false)])
    (by kernel_rfl) (by kernel_rfl) (by decide) rfl rfl (fun _ _ h b => bt h b) ((Below.refl _ _).drew) ?_ (fun vs w3 hJ hd => ?_)
  clear xX10 xX11 xX12
  · refine Jo.jd 0 (some 15) [] (Jo.Fact.eq (.pointer (some ⟨w.heap.size, 2, none⟩))) rfl rfl rfl rfl (fun vs wj hJ hd K hK => ?_) ?_
    · simp only [Jo.putl, Jo.ze, Act.put, Jo.za, Jo.zb, Jo.zc] at hK ⊢
      clear hd
      go_simp
      exact hK.out _ _ rfl (Below.refl _ _)
    refine Jo.jd 1 (some 16) [(some 15, 0)] (Jo.Fact.eq (.int .i64 t)) rfl rfl rfl rfl (fun vs wj hJ hd K hK => ?_) ?_
    · simp only [Jo.putl, Jo.zd, Jo.ze, Act.put, Jo.za, Jo.zb, Jo.zc] at hK ⊢
      rw [show vs 0 = _ from hd 0 (by decide)] at hK ⊢
      clear hd
      have xX12 := (X1.below hJ).a 2 (.int .i64 t) rfl
      go_simp
      exact hK.out _ _ rfl (Below.refl _ _)
    refine Jo.jd 2 (some 17) [(some 16, 1)] (Jo.Fact.eq (.bool false)) rfl rfl rfl rfl (fun vs wj hJ hd K hK => ?_) ?_
    · simp only [Jo.putl, Jo.zd, Jo.ze, Act.put, Jo.za, Jo.zb, Jo.zc] at hK ⊢
      rw [show vs 1 = _ from hd 1 (by decide)] at hK ⊢
      clear hd
      go_simp
      refine (vWithinE HW.out _).mono ?_
      rintro ee wk ⟨rfl, B⟩
      exact hK.out _ _ rfl B
    refine Jo.jd 3 (some 18) [(some 17, 2)] (Jo.Fact.eq (.bool false)) rfl rfl rfl rfl (fun vs wj hJ hd K hK => ?_) ?_
    · simp only [Jo.putl, Jo.zd, Jo.ze, Act.put, Jo.za, Jo.zb, Jo.zc] at hK ⊢
      rw [show vs 2 = _ from hd 2 (by decide)] at hK ⊢
      clear hd
      go_simp
      exact hK.out _ _ rfl (Below.refl _ _)
    refine Jo.jd 4 (some 19) [(some 18, 3)] (Jo.Fact.eq undef) rfl rfl rfl rfl (fun vs wj hJ hd K hK => ?_) ?_
    · simp only [Jo.putl, Jo.zd, Jo.ze, Act.put, Jo.za, Jo.zb, Jo.zc] at hK ⊢
      rw [show vs 3 = _ from hd 3 (by decide)] at hK ⊢
      clear hd
      go_simp
      exact hK.out _ _ rfl (Below.refl _ _)
    refine Jo.jd 5 (some 20) [(some 18, 3), (some 19, 4)] (Jo.Fact.eq undef) rfl rfl rfl rfl (fun vs wj hJ hd K hK => ?_) ?_
    · have d4 : (Jo.Fact.eq undef).P (vs 4) wj := hd 4 (by decide)
      simp only [Jo.putl, Jo.zd, Jo.ze, Act.put, Jo.za, Jo.zb, Jo.zc] at hK ⊢
      rw [show vs 3 = _ from hd 3 (by decide)] at hK ⊢
      clear hd
      generalize vs 4 = u4 at hK d4 ⊢
      replace d4 : u4 = _ := d4
      subst d4
      go_simp
      exact hK.out _ _ rfl (Below.refl _ _)
    refine Jo.jd 6 (some 21) [(some 18, 3), (some 20, 5)] (Jo.Fact.eq undef) rfl rfl rfl rfl (fun vs wj hJ hd K hK => ?_) ?_
    · have d5 : (Jo.Fact.eq undef).P (vs 5) wj := hd 5 (by decide)
      simp only [Jo.putl, Jo.zd, Jo.ze, Act.put, Jo.za, Jo.zb, Jo.zc] at hK ⊢
      rw [show vs 3 = _ from hd 3 (by decide)] at hK ⊢
      clear hd
      generalize vs 5 = u5 at hK d5 ⊢
      replace d5 : u5 = _ := d5
      subst d5
      go_simp
      exact hK.out _ _ rfl (Below.refl _ _)
    refine Jo.jd 7 (some 22) [(some 18, 3)] (Jo.Fact.eq undef) rfl rfl rfl rfl (fun vs wj hJ hd K hK => ?_) ?_
    · simp only [Jo.putl, Jo.zd, Jo.ze, Act.put, Jo.za, Jo.zb, Jo.zc] at hK ⊢
      rw [show vs 3 = _ from hd 3 (by decide)] at hK ⊢
      clear hd
      go_simp
      exact hK.out _ _ rfl (Below.refl _ _)
    refine Jo.jd 8 (some 23) [(some 18, 3), (some 21, 6), (some 22, 7)] (Jo.Fact.eq undef) rfl rfl rfl rfl (fun vs wj hJ hd K hK => ?_) ?_
    · have d6 : (Jo.Fact.eq undef).P (vs 6) wj := hd 6 (by decide)
      have d7 : (Jo.Fact.eq undef).P (vs 7) wj := hd 7 (by decide)
      simp only [Jo.putl, Jo.zd, Jo.ze, Act.put, Jo.za, Jo.zb, Jo.zc] at hK ⊢
      rw [show vs 3 = _ from hd 3 (by decide)] at hK ⊢
      clear hd
      generalize vs 6 = u6 at hK d6 ⊢
      generalize vs 7 = u7 at hK d7 ⊢
      replace d6 : u6 = _ := d6
      subst d6
      replace d7 : u7 = _ := d7
      subst d7
      go_simp
      exact hK.out _ _ rfl (Below.refl _ _)
    refine Jo.jd 9 (some 24) [(some 18, 3), (some 23, 8)] (Jo.Fact.eq undef) rfl rfl rfl rfl (fun vs wj hJ hd K hK => ?_) ?_
    · have d8 : (Jo.Fact.eq undef).P (vs 8) wj := hd 8 (by decide)
      simp only [Jo.putl, Jo.zd, Jo.ze, Act.put, Jo.za, Jo.zb, Jo.zc] at hK ⊢
      rw [show vs 3 = _ from hd 3 (by decide)] at hK ⊢
      clear hd
      generalize vs 8 = u8 at hK d8 ⊢
      replace d8 : u8 = _ := d8
      subst d8
      go_simp
      exact hK.out _ _ rfl (Below.refl _ _)
    refine Jo.jd 10 (some 25) [(some 18, 3), (some 24, 9)] (Jo.Fact.eq (.bool false)) rfl rfl rfl rfl (fun vs wj hJ hd K hK => ?_) ?_
    · have d9 : (Jo.Fact.eq undef).P (vs 9) wj := hd 9 (by decide)
      simp only [Jo.putl, Jo.zd, Jo.ze, Act.put, Jo.za, Jo.zb, Jo.zc] at hK ⊢
      rw [show vs 3 = _ from hd 3 (by decide)] at hK ⊢
      clear hd
      generalize vs 9 = u9 at hK d9 ⊢
      replace d9 : u9 = _ := d9
      subst d9
      go_simp
      exact hK.out _ _ rfl (Below.refl _ _)
    refine Jo.jd 11 (some 26) [(some 25, 10)] (Jo.Fact.eq (.bool false)) rfl rfl rfl rfl (fun vs wj hJ hd K hK => ?_) ?_
    · simp only [Jo.putl, Jo.zd, Jo.ze, Act.put, Jo.za, Jo.zb, Jo.zc] at hK ⊢
      rw [show vs 10 = _ from hd 10 (by decide)] at hK ⊢
      clear hd
      go_simp
      exact hK.out _ _ rfl (Below.refl _ _)
    refine Jo.jd 12 (some 27) [(some 26, 11)] (Jo.Fact.eq undef) rfl rfl rfl rfl (fun vs wj hJ hd K hK => ?_) ?_
    · simp only [Jo.putl, Jo.zd, Jo.ze, Act.put, Jo.za, Jo.zb, Jo.zc] at hK ⊢
      rw [show vs 11 = _ from hd 11 (by decide)] at hK ⊢
      clear hd
      go_simp
      exact hK.out _ _ rfl (Below.refl _ _)
    refine Jo.jd 13 (some 28) [(some 26, 11), (some 27, 12)] (Jo.Fact.eq undef) rfl rfl rfl rfl (fun vs wj hJ hd K hK => ?_) ?_
    · have d12 : (Jo.Fact.eq undef).P (vs 12) wj := hd 12 (by decide)
      simp only [Jo.putl, Jo.zd, Jo.ze, Act.put, Jo.za, Jo.zb, Jo.zc] at hK ⊢
      rw [show vs 11 = _ from hd 11 (by decide)] at hK ⊢
      clear hd
      generalize vs 12 = u12 at hK d12 ⊢
      replace d12 : u12 = _ := d12
      subst d12
      go_simp
      exact hK.out _ _ rfl (Below.refl _ _)
    refine Jo.jd 14 (some 29) [(some 26, 11), (some 28, 13)] (Jo.Fact.eq undef) rfl rfl rfl rfl (fun vs wj hJ hd K hK => ?_) ?_
    · have d13 : (Jo.Fact.eq undef).P (vs 13) wj := hd 13 (by decide)
      simp only [Jo.putl, Jo.zd, Jo.ze, Act.put, Jo.za, Jo.zb, Jo.zc] at hK ⊢
      rw [show vs 11 = _ from hd 11 (by decide)] at hK ⊢
      clear hd
      generalize vs 13 = u13 at hK d13 ⊢
      replace d13 : u13 = _ := d13
      subst d13
      go_simp
      exact hK.out _ _ rfl (Below.refl _ _)
    refine Jo.jd 15 (some 30) [(some 26, 11), (some 29, 14)] (Jo.Fact.eq undef) rfl rfl rfl rfl (fun vs wj hJ hd K hK => ?_) ?_
    · have d14 : (Jo.Fact.eq undef).P (vs 14) wj := hd 14 (by decide)
      simp only [Jo.putl, Jo.zd, Jo.ze, Act.put, Jo.za, Jo.zb, Jo.zc] at hK ⊢
      rw [show vs 11 = _ from hd 11 (by decide)] at hK ⊢
      clear hd
      generalize vs 14 = u14 at hK d14 ⊢
      replace d14 : u14 = _ := d14
      subst d14
      go_simp
      exact hK.out _ _ rfl (Below.refl _ _)
    refine Jo.jd 16 (some 31) [(some 26, 11), (some 30, 15)] (Jo.Fact.eq undef) rfl rfl rfl rfl (fun vs wj hJ hd K hK => ?_) ?_
    · have d15 : (Jo.Fact.eq undef).P (vs 15) wj := hd 15 (by decide)
      simp only [Jo.putl, Jo.zd, Jo.ze, Act.put, Jo.za, Jo.zb, Jo.zc] at hK ⊢
      rw [show vs 11 = _ from hd 11 (by decide)] at hK ⊢
      clear hd
      generalize vs 15 = u15 at hK d15 ⊢
      replace d15 : u15 = _ := d15
      subst d15
      go_simp
      exact hK.out _ _ rfl (Below.refl _ _)
    refine Jo.jd 17 (some 32) [(some 26, 11), (some 31, 16)] (Jo.Fact.eq (.bool false)) rfl rfl rfl rfl (fun vs wj hJ hd K hK => ?_) ?_
    · have d16 : (Jo.Fact.eq undef).P (vs 16) wj := hd 16 (by decide)
      simp only [Jo.putl, Jo.zd, Jo.ze, Act.put, Jo.za, Jo.zb, Jo.zc] at hK ⊢
      rw [show vs 11 = _ from hd 11 (by decide)] at hK ⊢
      clear hd
      generalize vs 16 = u16 at hK d16 ⊢
      replace d16 : u16 = _ := d16
      subst d16
      go_simp
      exact hK.out _ _ rfl (Below.refl _ _)
    refine Jo.jd 18 (some 2) [(some 32, 17)] (Jo.Fact.eq (.bool false)) rfl rfl rfl rfl (fun vs wj hJ hd K hK => ?_) ?_
    · simp only [Jo.putl, Jo.zd, Jo.ze, Act.put, Jo.za, Jo.zb, Jo.zc] at hK ⊢
      rw [show vs 17 = _ from hd 17 (by decide)] at hK ⊢
      clear hd
      go_simp
      exact hK.out _ _ rfl (Below.refl _ _)
    exact Jo.Steps.nil
  have d4 : (Jo.Fact.eq undef).P (vs 4) w3 := hd 4 (by decide)
  have d5 : (Jo.Fact.eq undef).P (vs 5) w3 := hd 5 (by decide)
  have d6 : (Jo.Fact.eq undef).P (vs 6) w3 := hd 6 (by decide)
  have d7 : (Jo.Fact.eq undef).P (vs 7) w3 := hd 7 (by decide)
  have d8 : (Jo.Fact.eq undef).P (vs 8) w3 := hd 8 (by decide)
  have d9 : (Jo.Fact.eq undef).P (vs 9) w3 := hd 9 (by decide)
  have d12 : (Jo.Fact.eq undef).P (vs 12) w3 := hd 12 (by decide)
  have d13 : (Jo.Fact.eq undef).P (vs 13) w3 := hd 13 (by decide)
  have d14 : (Jo.Fact.eq undef).P (vs 14) w3 := hd 14 (by decide)
  have d15 : (Jo.Fact.eq undef).P (vs 15) w3 := hd 15 (by decide)
  have d16 : (Jo.Fact.eq undef).P (vs 16) w3 := hd 16 (by decide)
  simp only [Jo.putl, Jo.zd, Jo.ze, Act.put, Jo.za, Jo.zb, Jo.zc]
  rw [show vs 1 = _ from hd 1 (by decide), show vs 2 = _ from hd 2 (by decide), show vs 3 = _ from hd 3 (by decide), show vs 10 = _ from hd 10 (by decide), show vs 11 = _ from hd 11 (by decide), show vs 17 = _ from hd 17 (by decide), show vs 18 = _ from hd 18 (by decide)]
  clear hd
  generalize vs 4 = u4 at d4 ⊢
  generalize vs 5 = u5 at d5 ⊢
  generalize vs 6 = u6 at d6 ⊢
  generalize vs 7 = u7 at d7 ⊢
  generalize vs 8 = u8 at d8 ⊢
  generalize vs 9 = u9 at d9 ⊢
  generalize vs 12 = u12 at d12 ⊢
  generalize vs 13 = u13 at d13 ⊢
  generalize vs 14 = u14 at d14 ⊢
  generalize vs 15 = u15 at d15 ⊢
  generalize vs 16 = u16 at d16 ⊢
  replace d4 : u4 = _ := d4
  subst d4
  replace d5 : u5 = _ := d5
  subst d5
  replace d6 : u6 = _ := d6
  subst d6
  replace d7 : u7 = _ := d7
  subst d7
  replace d8 : u8 = _ := d8
  subst d8
  replace d9 : u9 = _ := d9
  subst d9
  replace d12 : u12 = _ := d12
  subst d12
  replace d13 : u13 = _ := d13
  subst d13
  replace d14 : u14 = _ := d14
  subst d14
  replace d15 : u15 = _ := d15
  subst d15
  replace d16 : u16 = _ := d16
  subst d16
  replace X1 := X1.below hJ
  replace h := h.below hJ
  replace HB := Lib.hid (bt HB.out hJ)
  refine Jo.jdone (by kernel_rfl) ?_
  go_wp2
  go_ret
  exact ⟨rfl, HB.out⟩

set_option maxHeartbeats 4000000 in
theorem vMayD_l {w : World} {A : Option Addr} {n c a : Nat} {s : Bool} {t : Int} {P : Nat} {z : Int} (h : Rd w A n c a) (hn : n ≤ 1073741824) (hm : mayB s n a = true) (h0 : ((n : Int) == 0) = false) (hw : (decide (-400 ≤ t) && decide (t ≤ 400)) = true) (hP : 10 ^ 40 = P) (hz1 : cmpI (a : Int) (P : Int) = z) (hz0 : decide (z < 0) = false) : Calls Tryd.prog 16 #[.agg #[.bool s, .slice A n c, .int .i64 t]] w (PB w false) := by
  have HP := Lib.hid hP
  have H1 := Lib.hid hz1
  clear hP hz1
  have HW := Lib.hid hw
  clear hw
  go_enter Tryd.func16, Tryd.ntmps16
  go_upto_region 1 with (fail)
  have X1 := (Bo.newAt w (g := w.heap.size) (by simp) #[.bool s, .slice A n c, .int .i64 t] 43)
  have HB := Lib.hid (bel1 w (.cells #[.bool s, .slice A n c, .int .i64 t] 43))
  replace h := h.below HB.out
  generalize hW1 : (w.alloc (.cells #[.bool s, .slice A n c, .int .i64 t] 43)) = w1 at *
  clear hW1
  have xX10 := X1.a 0 (.bool s) rfl
  have xX11 := X1.a 1 (.slice A n c) rfl
  have xX12 := X1.a 2 (.int .i64 t) rfl
  go_wp2_with fail
  refine (wMay h hm).mono ?_
  rintro ee w2 ⟨rfl, B⟩
  clear xX10 xX11 xX12
  replace X1 := X1.below B
  replace h := h.below B
  replace HB := Lib.hid (bt HB.out B)
  clear B
  have xX10 := X1.a 0 (.bool s) rfl
  have xX11 := X1.a 1 (.slice A n c) rfl
  have xX12 := X1.a 2 (.int .i64 t) rfl
  go_upto_region 5 with (fail)
  refine Jo.region_joint (T := [0, 1, 2, 3, 4, 5, 6, 7, 8, 9, 10, 11, 12, 13, 14, 15, 16, 17, 18]) (ds := [some 15, some 16, some 17, some 18, some 19, some 20, some 21, some 22, some 23, some 24, some 25, some 26, some 27, some 28, some 29, some 30, some 31, some 32, some 2]) (ls := [[], [0], [1], [2], [3], [3, 4], [3, 5], [3], [3, 6, 7], [3, 8], [3, 9], [10], [11], [11, 12], [11, 13], [11, 14], [11, 15], [11, 16], [17]]) (k := 19) (L := [(some 15, 0), (some 16, 1), (some 17, 2), (some 18, 3), (some 19, 4), (some 20, 5), (some 21, 6), (some 22, 7), (some 23, 8), (some 24, 9), (some 25, 10), (some 26, 11), (some 27, 12), (some 28, 13), (some 29, 14), (some 30, 15), (some 31, 16), (some 32, 17), (some 2, 18)]) (fuel := 0) (J := fun wj => Below (World.heap w2).size w2 wj)
    (F := [Jo.Fact.eq (.pointer (some ⟨w.heap.size, 2, none⟩)), Jo.Fact.eq (.int .i64 t), Jo.Fact.eq (.bool true), Jo.Fact.eq (.bool true), Jo.Fact.eq (.pointer (some ⟨w.heap.size, 0, none⟩)), Jo.Fact.eq (.pointer (some ⟨w.heap.size, 1, none⟩)), Jo.Fact.eq (.slice A n c), Jo.Fact.nm P 41, Jo.Fact.eq (.int .i64 z), Jo.Fact.eq (.bool false), Jo.Fact.eq (.bool false), Jo.Fact.eq (.bool false), Jo.Fact.eq undef, Jo.Fact.eq undef, Jo.Fact.eq undef, Jo.Fact.eq undef, Jo.Fact.eq undef, Jo.Fact.eq (.bool false), Jo.Fact.eq (.bool false)])
    (by kernel_rfl) (by kernel_rfl) (by decide) rfl rfl (fun _ _ h b => bt h b) ((Below.refl _ _).drew) ?_ (fun vs w3 hJ hd => ?_)
  clear xX10 xX11 xX12
  · refine Jo.jd 0 (some 15) [] (Jo.Fact.eq (.pointer (some ⟨w.heap.size, 2, none⟩))) rfl rfl rfl rfl (fun vs wj hJ hd K hK => ?_) ?_
    · simp only [Jo.putl, Jo.ze, Act.put, Jo.za, Jo.zb, Jo.zc] at hK ⊢
      clear hd
      go_simp
      exact hK.out _ _ rfl (Below.refl _ _)
    refine Jo.jd 1 (some 16) [(some 15, 0)] (Jo.Fact.eq (.int .i64 t)) rfl rfl rfl rfl (fun vs wj hJ hd K hK => ?_) ?_
    · simp only [Jo.putl, Jo.zd, Jo.ze, Act.put, Jo.za, Jo.zb, Jo.zc] at hK ⊢
      rw [show vs 0 = _ from hd 0 (by decide)] at hK ⊢
      clear hd
      have xX12 := (X1.below hJ).a 2 (.int .i64 t) rfl
      go_simp
      exact hK.out _ _ rfl (Below.refl _ _)
    refine Jo.jd 2 (some 17) [(some 16, 1)] (Jo.Fact.eq (.bool true)) rfl rfl rfl rfl (fun vs wj hJ hd K hK => ?_) ?_
    · simp only [Jo.putl, Jo.zd, Jo.ze, Act.put, Jo.za, Jo.zb, Jo.zc] at hK ⊢
      rw [show vs 1 = _ from hd 1 (by decide)] at hK ⊢
      clear hd
      go_simp
      refine (vWithinE HW.out _).mono ?_
      rintro ee wk ⟨rfl, B⟩
      exact hK.out _ _ rfl B
    refine Jo.jd 3 (some 18) [(some 17, 2)] (Jo.Fact.eq (.bool true)) rfl rfl rfl rfl (fun vs wj hJ hd K hK => ?_) ?_
    · simp only [Jo.putl, Jo.zd, Jo.ze, Act.put, Jo.za, Jo.zb, Jo.zc] at hK ⊢
      rw [show vs 2 = _ from hd 2 (by decide)] at hK ⊢
      clear hd
      go_simp
      exact hK.out _ _ rfl (Below.refl _ _)
    refine Jo.jd 4 (some 19) [(some 18, 3)] (Jo.Fact.eq (.pointer (some ⟨w.heap.size, 0, none⟩))) rfl rfl rfl rfl (fun vs wj hJ hd K hK => ?_) ?_
    · simp only [Jo.putl, Jo.zd, Jo.ze, Act.put, Jo.za, Jo.zb, Jo.zc] at hK ⊢
      rw [show vs 3 = _ from hd 3 (by decide)] at hK ⊢
      clear hd
      go_simp
      exact hK.out _ _ rfl (Below.refl _ _)
    refine Jo.jd 5 (some 20) [(some 18, 3), (some 19, 4)] (Jo.Fact.eq (.pointer (some ⟨w.heap.size, 1, none⟩))) rfl rfl rfl rfl (fun vs wj hJ hd K hK => ?_) ?_
    · simp only [Jo.putl, Jo.zd, Jo.ze, Act.put, Jo.za, Jo.zb, Jo.zc] at hK ⊢
      rw [show vs 3 = _ from hd 3 (by decide), show vs 4 = _ from hd 4 (by decide)] at hK ⊢
      clear hd
      go_simp
      exact hK.out _ _ rfl (Below.refl _ _)
    refine Jo.jd 6 (some 21) [(some 18, 3), (some 20, 5)] (Jo.Fact.eq (.slice A n c)) rfl rfl rfl rfl (fun vs wj hJ hd K hK => ?_) ?_
    · simp only [Jo.putl, Jo.zd, Jo.ze, Act.put, Jo.za, Jo.zb, Jo.zc] at hK ⊢
      rw [show vs 3 = _ from hd 3 (by decide), show vs 5 = _ from hd 5 (by decide)] at hK ⊢
      clear hd
      have xX11 := (X1.below hJ).a 1 (.slice A n c) rfl
      go_simp
      exact hK.out _ _ rfl (Below.refl _ _)
    refine Jo.jd 7 (some 22) [(some 18, 3)] (Jo.Fact.nm P 41) rfl rfl rfl rfl (fun vs wj hJ hd K hK => ?_) ?_
    · simp only [Jo.putl, Jo.zd, Jo.ze, Act.put, Jo.za, Jo.zb, Jo.zc] at hK ⊢
      rw [show vs 3 = _ from hd 3 (by decide)] at hK ⊢
      clear hd
      go_simp
      refine (vPower40 HP.out _).mono ?_
      rintro ee wk ⟨A3, n3, c3, rfl, h3, k3, B⟩
      exact hK.out _ _ ⟨_, _, _, rfl, h3.nm, k3⟩ B
    refine Jo.jd 8 (some 23) [(some 18, 3), (some 21, 6), (some 22, 7)] (Jo.Fact.eq (.int .i64 z)) rfl rfl rfl rfl (fun vs wj hJ hd K hK => ?_) ?_
    · have d7 : (Jo.Fact.nm P 41).P (vs 7) wj := hd 7 (by decide)
      simp only [Jo.putl, Jo.zd, Jo.ze, Act.put, Jo.za, Jo.zb, Jo.zc] at hK ⊢
      rw [show vs 3 = _ from hd 3 (by decide), show vs 6 = _ from hd 6 (by decide)] at hK ⊢
      clear hd
      generalize vs 7 = u7 at hK d7 ⊢
      obtain ⟨A7, n7, c7, rfl, h7, k7⟩ := d7
      go_simp
      refine (vCmpE (h.below hJ) h7.rd H1.out).mono ?_
      rintro ee wk ⟨rfl, B⟩
      exact hK.out _ _ rfl B
    refine Jo.jd 9 (some 24) [(some 18, 3), (some 23, 8)] (Jo.Fact.eq (.bool false)) rfl rfl rfl rfl (fun vs wj hJ hd K hK => ?_) ?_
    · simp only [Jo.putl, Jo.zd, Jo.ze, Act.put, Jo.za, Jo.zb, Jo.zc] at hK ⊢
      rw [show vs 3 = _ from hd 3 (by decide), show vs 8 = _ from hd 8 (by decide)] at hK ⊢
      clear hd
      go_simp
      exact hK.out _ _ (by first | rfl | simp [hz0] | (rw [hz0]; rfl)) (Below.refl _ _)
    refine Jo.jd 10 (some 25) [(some 18, 3), (some 24, 9)] (Jo.Fact.eq (.bool false)) rfl rfl rfl rfl (fun vs wj hJ hd K hK => ?_) ?_
    · simp only [Jo.putl, Jo.zd, Jo.ze, Act.put, Jo.za, Jo.zb, Jo.zc] at hK ⊢
      rw [show vs 3 = _ from hd 3 (by decide), show vs 9 = _ from hd 9 (by decide)] at hK ⊢
      clear hd
      go_simp
      exact hK.out _ _ rfl (Below.refl _ _)
    refine Jo.jd 11 (some 26) [(some 25, 10)] (Jo.Fact.eq (.bool false)) rfl rfl rfl rfl (fun vs wj hJ hd K hK => ?_) ?_
    · simp only [Jo.putl, Jo.zd, Jo.ze, Act.put, Jo.za, Jo.zb, Jo.zc] at hK ⊢
      rw [show vs 10 = _ from hd 10 (by decide)] at hK ⊢
      clear hd
      go_simp
      exact hK.out _ _ rfl (Below.refl _ _)
    refine Jo.jd 12 (some 27) [(some 26, 11)] (Jo.Fact.eq undef) rfl rfl rfl rfl (fun vs wj hJ hd K hK => ?_) ?_
    · simp only [Jo.putl, Jo.zd, Jo.ze, Act.put, Jo.za, Jo.zb, Jo.zc] at hK ⊢
      rw [show vs 11 = _ from hd 11 (by decide)] at hK ⊢
      clear hd
      go_simp
      exact hK.out _ _ rfl (Below.refl _ _)
    refine Jo.jd 13 (some 28) [(some 26, 11), (some 27, 12)] (Jo.Fact.eq undef) rfl rfl rfl rfl (fun vs wj hJ hd K hK => ?_) ?_
    · have d12 : (Jo.Fact.eq undef).P (vs 12) wj := hd 12 (by decide)
      simp only [Jo.putl, Jo.zd, Jo.ze, Act.put, Jo.za, Jo.zb, Jo.zc] at hK ⊢
      rw [show vs 11 = _ from hd 11 (by decide)] at hK ⊢
      clear hd
      generalize vs 12 = u12 at hK d12 ⊢
      replace d12 : u12 = _ := d12
      subst d12
      go_simp
      exact hK.out _ _ rfl (Below.refl _ _)
    refine Jo.jd 14 (some 29) [(some 26, 11), (some 28, 13)] (Jo.Fact.eq undef) rfl rfl rfl rfl (fun vs wj hJ hd K hK => ?_) ?_
    · have d13 : (Jo.Fact.eq undef).P (vs 13) wj := hd 13 (by decide)
      simp only [Jo.putl, Jo.zd, Jo.ze, Act.put, Jo.za, Jo.zb, Jo.zc] at hK ⊢
      rw [show vs 11 = _ from hd 11 (by decide)] at hK ⊢
      clear hd
      generalize vs 13 = u13 at hK d13 ⊢
      replace d13 : u13 = _ := d13
      subst d13
      go_simp
      exact hK.out _ _ rfl (Below.refl _ _)
    refine Jo.jd 15 (some 30) [(some 26, 11), (some 29, 14)] (Jo.Fact.eq undef) rfl rfl rfl rfl (fun vs wj hJ hd K hK => ?_) ?_
    · have d14 : (Jo.Fact.eq undef).P (vs 14) wj := hd 14 (by decide)
      simp only [Jo.putl, Jo.zd, Jo.ze, Act.put, Jo.za, Jo.zb, Jo.zc] at hK ⊢
      rw [show vs 11 = _ from hd 11 (by decide)] at hK ⊢
      clear hd
      generalize vs 14 = u14 at hK d14 ⊢
      replace d14 : u14 = _ := d14
      subst d14
      go_simp
      exact hK.out _ _ rfl (Below.refl _ _)
    refine Jo.jd 16 (some 31) [(some 26, 11), (some 30, 15)] (Jo.Fact.eq undef) rfl rfl rfl rfl (fun vs wj hJ hd K hK => ?_) ?_
    · have d15 : (Jo.Fact.eq undef).P (vs 15) wj := hd 15 (by decide)
      simp only [Jo.putl, Jo.zd, Jo.ze, Act.put, Jo.za, Jo.zb, Jo.zc] at hK ⊢
      rw [show vs 11 = _ from hd 11 (by decide)] at hK ⊢
      clear hd
      generalize vs 15 = u15 at hK d15 ⊢
      replace d15 : u15 = _ := d15
      subst d15
      go_simp
      exact hK.out _ _ rfl (Below.refl _ _)
    refine Jo.jd 17 (some 32) [(some 26, 11), (some 31, 16)] (Jo.Fact.eq (.bool false)) rfl rfl rfl rfl (fun vs wj hJ hd K hK => ?_) ?_
    · have d16 : (Jo.Fact.eq undef).P (vs 16) wj := hd 16 (by decide)
      simp only [Jo.putl, Jo.zd, Jo.ze, Act.put, Jo.za, Jo.zb, Jo.zc] at hK ⊢
      rw [show vs 11 = _ from hd 11 (by decide)] at hK ⊢
      clear hd
      generalize vs 16 = u16 at hK d16 ⊢
      replace d16 : u16 = _ := d16
      subst d16
      go_simp
      exact hK.out _ _ rfl (Below.refl _ _)
    refine Jo.jd 18 (some 2) [(some 32, 17)] (Jo.Fact.eq (.bool false)) rfl rfl rfl rfl (fun vs wj hJ hd K hK => ?_) ?_
    · simp only [Jo.putl, Jo.zd, Jo.ze, Act.put, Jo.za, Jo.zb, Jo.zc] at hK ⊢
      rw [show vs 17 = _ from hd 17 (by decide)] at hK ⊢
      clear hd
      go_simp
      exact hK.out _ _ rfl (Below.refl _ _)
    exact Jo.Steps.nil
  have d7 : (Jo.Fact.nm P 41).P (vs 7) w3 := hd 7 (by decide)
  have d12 : (Jo.Fact.eq undef).P (vs 12) w3 := hd 12 (by decide)
  have d13 : (Jo.Fact.eq undef).P (vs 13) w3 := hd 13 (by decide)
  have d14 : (Jo.Fact.eq undef).P (vs 14) w3 := hd 14 (by decide)
  have d15 : (Jo.Fact.eq undef).P (vs 15) w3 := hd 15 (by decide)
  have d16 : (Jo.Fact.eq undef).P (vs 16) w3 := hd 16 (by decide)
  simp only [Jo.putl, Jo.zd, Jo.ze, Act.put, Jo.za, Jo.zb, Jo.zc]
  rw [show vs 1 = _ from hd 1 (by decide), show vs 2 = _ from hd 2 (by decide), show vs 3 = _ from hd 3 (by decide), show vs 6 = _ from hd 6 (by decide), show vs 8 = _ from hd 8 (by decide), show vs 9 = _ from hd 9 (by decide), show vs 10 = _ from hd 10 (by decide), show vs 11 = _ from hd 11 (by decide), show vs 17 = _ from hd 17 (by decide), show vs 18 = _ from hd 18 (by decide)]
  clear hd
  generalize vs 7 = u7 at d7 ⊢
  generalize vs 12 = u12 at d12 ⊢
  generalize vs 13 = u13 at d13 ⊢
  generalize vs 14 = u14 at d14 ⊢
  generalize vs 15 = u15 at d15 ⊢
  generalize vs 16 = u16 at d16 ⊢
  obtain ⟨A7, n7, c7, rfl, h7, k7⟩ := d7
  replace d12 : u12 = _ := d12
  subst d12
  replace d13 : u13 = _ := d13
  subst d13
  replace d14 : u14 = _ := d14
  subst d14
  replace d15 : u15 = _ := d15
  subst d15
  replace d16 : u16 = _ := d16
  subst d16
  replace X1 := X1.below hJ
  replace h := h.below hJ
  replace HB := Lib.hid (bt HB.out hJ)
  refine Jo.jdone (by kernel_rfl) ?_
  go_wp2
  go_ret
  exact ⟨rfl, HB.out⟩

set_option maxHeartbeats 4000000 in
theorem vMayD_m {w : World} {A : Option Addr} {n c a : Nat} {s : Bool} {t : Int} {P : Nat} {z : Int} (h : Rd w A n c a) (hn : n ≤ 1073741824) (hm : mayB s n a = true) (h0 : ((n : Int) == 0) = false) (hw : (decide (-400 ≤ t) && decide (t ≤ 400)) = true) (hP : 10 ^ 40 = P) (hz1 : cmpI (a : Int) (P : Int) = z) (hz0 : decide (z < 0) = true) (hz2 : decide (a % 10 = 0) = true) : Calls Tryd.prog 16 #[.agg #[.bool s, .slice A n c, .int .i64 t]] w (PB w false) := by
  have HP := Lib.hid hP
  have H1 := Lib.hid hz1
  clear hP hz1
  have H2 := Lib.hid hz2
  clear hz2
  have HW := Lib.hid hw
  clear hw
  go_enter Tryd.func16, Tryd.ntmps16
  go_upto_region 1 with (fail)
  have X1 := (Bo.newAt w (g := w.heap.size) (by simp) #[.bool s, .slice A n c, .int .i64 t] 43)
  have HB := Lib.hid (bel1 w (.cells #[.bool s, .slice A n c, .int .i64 t] 43))
  replace h := h.below HB.out
  generalize hW1 : (w.alloc (.cells #[.bool s, .slice A n c, .int .i64 t] 43)) = w1 at *
  clear hW1
  have xX10 := X1.a 0 (.bool s) rfl
  have xX11 := X1.a 1 (.slice A n c) rfl
  have xX12 := X1.a 2 (.int .i64 t) rfl
  go_wp2_with fail
  refine (wMay h hm).mono ?_
  rintro ee w2 ⟨rfl, B⟩
  clear xX10 xX11 xX12
  replace X1 := X1.below B
  replace h := h.below B
  replace HB := Lib.hid (bt HB.out B)
  clear B
  have xX10 := X1.a 0 (.bool s) rfl
  have xX11 := X1.a 1 (.slice A n c) rfl
  have xX12 := X1.a 2 (.int .i64 t) rfl
  go_upto_region 5 with (fail)
  refine Jo.region_joint (T := [0, 1, 2, 3, 4, 5, 6, 7, 8, 9, 10, 11, 12, 13, 14, 15, 16, 17, 18]) (ds := [some 15, some 16, some 17, some 18, some 19, some 20, some 21, some 22, some 23, some 24, some 25, some 26, some 27, some 28, some 29, some 30, some 31, some 32, some 2]) (ls := [[], [0], [1], [2], [3], [3, 4], [3, 5], [3], [3, 6, 7], [3, 8], [3, 9], [10], [11], [11, 12], [11, 13], [11, 14], [11, 15], [11, 16], [17]]) (k := 19) (L := [(some 15, 0), (some 16, 1), (some 17, 2), (some 18, 3), (some 19, 4), (some 20, 5), (some 21, 6), (some 22, 7), (some 23, 8), (some 24, 9), (some 25, 10), (some 26, 11), (some 27, 12), (some 28, 13), (some 29, 14), (some 30, 15), (some 31, 16), (some 32, 17), (some 2, 18)]) (fuel := 0) (J := fun wj => Below (World.heap w2).size w2 wj)
    (F := [Jo.Fact.eq (.pointer (some ⟨w.heap.size, 2, none⟩)), Jo.Fact.eq (.int .i64 t), Jo.Fact.eq (.bool true), Jo.Fact.eq (.bool true), Jo.Fact.eq (.pointer (some ⟨w.heap.size, 0, none⟩)), Jo.Fact.eq (.pointer (some ⟨w.heap.size, 1, none⟩)), Jo.Fact.eq (.slice A n c), Jo.Fact.nm P 41, Jo.Fact.eq (.int .i64 z), Jo.Fact.eq (.bool true), Jo.Fact.eq (.bool true), Jo.Fact.eq (.bool true), Jo.Fact.eq (.pointer (some ⟨w.heap.size, 0, none⟩)), Jo.Fact.eq (.pointer (some ⟨w.heap.size, 1, none⟩)), Jo.Fact.eq (.slice A n c), Jo.Fact.eq (.bool true), Jo.Fact.eq (.bool false), Jo.Fact.eq (.bool false), Jo.Fact.eq (.bool false)])
    (by kernel_rfl) (by kernel_rfl) (by decide) rfl rfl (fun _ _ h b => bt h b) ((Below.refl _ _).drew) ?_ (fun vs w3 hJ hd => ?_)
  clear xX10 xX11 xX12
  · refine Jo.jd 0 (some 15) [] (Jo.Fact.eq (.pointer (some ⟨w.heap.size, 2, none⟩))) rfl rfl rfl rfl (fun vs wj hJ hd K hK => ?_) ?_
    · simp only [Jo.putl, Jo.ze, Act.put, Jo.za, Jo.zb, Jo.zc] at hK ⊢
      clear hd
      go_simp
      exact hK.out _ _ rfl (Below.refl _ _)
    refine Jo.jd 1 (some 16) [(some 15, 0)] (Jo.Fact.eq (.int .i64 t)) rfl rfl rfl rfl (fun vs wj hJ hd K hK => ?_) ?_
    · simp only [Jo.putl, Jo.zd, Jo.ze, Act.put, Jo.za, Jo.zb, Jo.zc] at hK ⊢
      rw [show vs 0 = _ from hd 0 (by decide)] at hK ⊢
      clear hd
      have xX12 := (X1.below hJ).a 2 (.int .i64 t) rfl
      go_simp
      exact hK.out _ _ rfl (Below.refl _ _)
    refine Jo.jd 2 (some 17) [(some 16, 1)] (Jo.Fact.eq (.bool true)) rfl rfl rfl rfl (fun vs wj hJ hd K hK => ?_) ?_
    · simp only [Jo.putl, Jo.zd, Jo.ze, Act.put, Jo.za, Jo.zb, Jo.zc] at hK ⊢
      rw [show vs 1 = _ from hd 1 (by decide)] at hK ⊢
      clear hd
      go_simp
      refine (vWithinE HW.out _).mono ?_
      rintro ee wk ⟨rfl, B⟩
      exact hK.out _ _ rfl B
    refine Jo.jd 3 (some 18) [(some 17, 2)] (Jo.Fact.eq (.bool true)) rfl rfl rfl rfl (fun vs wj hJ hd K hK => ?_) ?_
    · simp only [Jo.putl, Jo.zd, Jo.ze, Act.put, Jo.za, Jo.zb, Jo.zc] at hK ⊢
      rw [show vs 2 = _ from hd 2 (by decide)] at hK ⊢
      clear hd
      go_simp
      exact hK.out _ _ rfl (Below.refl _ _)
    refine Jo.jd 4 (some 19) [(some 18, 3)] (Jo.Fact.eq (.pointer (some ⟨w.heap.size, 0, none⟩))) rfl rfl rfl rfl (fun vs wj hJ hd K hK => ?_) ?_
    · simp only [Jo.putl, Jo.zd, Jo.ze, Act.put, Jo.za, Jo.zb, Jo.zc] at hK ⊢
      rw [show vs 3 = _ from hd 3 (by decide)] at hK ⊢
      clear hd
      go_simp
      exact hK.out _ _ rfl (Below.refl _ _)
    refine Jo.jd 5 (some 20) [(some 18, 3), (some 19, 4)] (Jo.Fact.eq (.pointer (some ⟨w.heap.size, 1, none⟩))) rfl rfl rfl rfl (fun vs wj hJ hd K hK => ?_) ?_
    · simp only [Jo.putl, Jo.zd, Jo.ze, Act.put, Jo.za, Jo.zb, Jo.zc] at hK ⊢
      rw [show vs 3 = _ from hd 3 (by decide), show vs 4 = _ from hd 4 (by decide)] at hK ⊢
      clear hd
      go_simp
      exact hK.out _ _ rfl (Below.refl _ _)
    refine Jo.jd 6 (some 21) [(some 18, 3), (some 20, 5)] (Jo.Fact.eq (.slice A n c)) rfl rfl rfl rfl (fun vs wj hJ hd K hK => ?_) ?_
    · simp only [Jo.putl, Jo.zd, Jo.ze, Act.put, Jo.za, Jo.zb, Jo.zc] at hK ⊢
      rw [show vs 3 = _ from hd 3 (by decide), show vs 5 = _ from hd 5 (by decide)] at hK ⊢
      clear hd
      have xX11 := (X1.below hJ).a 1 (.slice A n c) rfl
      go_simp
      exact hK.out _ _ rfl (Below.refl _ _)
    refine Jo.jd 7 (some 22) [(some 18, 3)] (Jo.Fact.nm P 41) rfl rfl rfl rfl (fun vs wj hJ hd K hK => ?_) ?_
    · simp only [Jo.putl, Jo.zd, Jo.ze, Act.put, Jo.za, Jo.zb, Jo.zc] at hK ⊢
      rw [show vs 3 = _ from hd 3 (by decide)] at hK ⊢
      clear hd
      go_simp
      refine (vPower40 HP.out _).mono ?_
      rintro ee wk ⟨A3, n3, c3, rfl, h3, k3, B⟩
      exact hK.out _ _ ⟨_, _, _, rfl, h3.nm, k3⟩ B
    refine Jo.jd 8 (some 23) [(some 18, 3), (some 21, 6), (some 22, 7)] (Jo.Fact.eq (.int .i64 z)) rfl rfl rfl rfl (fun vs wj hJ hd K hK => ?_) ?_
    · have d7 : (Jo.Fact.nm P 41).P (vs 7) wj := hd 7 (by decide)
      simp only [Jo.putl, Jo.zd, Jo.ze, Act.put, Jo.za, Jo.zb, Jo.zc] at hK ⊢
      rw [show vs 3 = _ from hd 3 (by decide), show vs 6 = _ from hd 6 (by decide)] at hK ⊢
      clear hd
      generalize vs 7 = u7 at hK d7 ⊢
      obtain ⟨A7, n7, c7, rfl, h7, k7⟩ := d7
      go_simp
      refine (vCmpE (h.below hJ) h7.rd H1.out).mono ?_
      rintro ee wk ⟨rfl, B⟩
      exact hK.out _ _ rfl B
    refine Jo.jd 9 (some 24) [(some 18, 3), (some 23, 8)] (Jo.Fact.eq (.bool true)) rfl rfl rfl rfl (fun vs wj hJ hd K hK => ?_) ?_
    · simp only [Jo.putl, Jo.zd, Jo.ze, Act.put, Jo.za, Jo.zb, Jo.zc] at hK ⊢
      rw [show vs 3 = _ from hd 3 (by decide), show vs 8 = _ from hd 8 (by decide)] at hK ⊢
      clear hd
      go_simp
      exact hK.out _ _ (by first | rfl | simp [hz0] | (rw [hz0]; rfl)) (Below.refl _ _)
    refine Jo.jd 10 (some 25) [(some 18, 3), (some 24, 9)] (Jo.Fact.eq (.bool true)) rfl rfl rfl rfl (fun vs wj hJ hd K hK => ?_) ?_
    · simp only [Jo.putl, Jo.zd, Jo.ze, Act.put, Jo.za, Jo.zb, Jo.zc] at hK ⊢
      rw [show vs 3 = _ from hd 3 (by decide), show vs 9 = _ from hd 9 (by decide)] at hK ⊢
      clear hd
      go_simp
      exact hK.out _ _ rfl (Below.refl _ _)
    refine Jo.jd 11 (some 26) [(some 25, 10)] (Jo.Fact.eq (.bool true)) rfl rfl rfl rfl (fun vs wj hJ hd K hK => ?_) ?_
    · simp only [Jo.putl, Jo.zd, Jo.ze, Act.put, Jo.za, Jo.zb, Jo.zc] at hK ⊢
      rw [show vs 10 = _ from hd 10 (by decide)] at hK ⊢
      clear hd
      go_simp
      exact hK.out _ _ rfl (Below.refl _ _)
    refine Jo.jd 12 (some 27) [(some 26, 11)] (Jo.Fact.eq (.pointer (some ⟨w.heap.size, 0, none⟩))) rfl rfl rfl rfl (fun vs wj hJ hd K hK => ?_) ?_
    · simp only [Jo.putl, Jo.zd, Jo.ze, Act.put, Jo.za, Jo.zb, Jo.zc] at hK ⊢
      rw [show vs 11 = _ from hd 11 (by decide)] at hK ⊢
      clear hd
      go_simp
      exact hK.out _ _ rfl (Below.refl _ _)
    refine Jo.jd 13 (some 28) [(some 26, 11), (some 27, 12)] (Jo.Fact.eq (.pointer (some ⟨w.heap.size, 1, none⟩))) rfl rfl rfl rfl (fun vs wj hJ hd K hK => ?_) ?_
    · simp only [Jo.putl, Jo.zd, Jo.ze, Act.put, Jo.za, Jo.zb, Jo.zc] at hK ⊢
      rw [show vs 11 = _ from hd 11 (by decide), show vs 12 = _ from hd 12 (by decide)] at hK ⊢
      clear hd
      go_simp
      exact hK.out _ _ rfl (Below.refl _ _)
    refine Jo.jd 14 (some 29) [(some 26, 11), (some 28, 13)] (Jo.Fact.eq (.slice A n c)) rfl rfl rfl rfl (fun vs wj hJ hd K hK => ?_) ?_
    · simp only [Jo.putl, Jo.zd, Jo.ze, Act.put, Jo.za, Jo.zb, Jo.zc] at hK ⊢
      rw [show vs 11 = _ from hd 11 (by decide), show vs 13 = _ from hd 13 (by decide)] at hK ⊢
      clear hd
      have xX11 := (X1.below hJ).a 1 (.slice A n c) rfl
      go_simp
      exact hK.out _ _ rfl (Below.refl _ _)
    refine Jo.jd 15 (some 30) [(some 26, 11), (some 29, 14)] (Jo.Fact.eq (.bool true)) rfl rfl rfl rfl (fun vs wj hJ hd K hK => ?_) ?_
    · simp only [Jo.putl, Jo.zd, Jo.ze, Act.put, Jo.za, Jo.zb, Jo.zc] at hK ⊢
      rw [show vs 11 = _ from hd 11 (by decide), show vs 14 = _ from hd 14 (by decide)] at hK ⊢
      clear hd
      go_simp
      refine (vMultipleE (h.below hJ) hn H2.out).mono ?_
      rintro ee wk ⟨rfl, B⟩
      exact hK.out _ _ rfl B
    refine Jo.jd 16 (some 31) [(some 26, 11), (some 30, 15)] (Jo.Fact.eq (.bool false)) rfl rfl rfl rfl (fun vs wj hJ hd K hK => ?_) ?_
    · simp only [Jo.putl, Jo.zd, Jo.ze, Act.put, Jo.za, Jo.zb, Jo.zc] at hK ⊢
      rw [show vs 11 = _ from hd 11 (by decide), show vs 15 = _ from hd 15 (by decide)] at hK ⊢
      clear hd
      go_simp
      exact hK.out _ _ rfl (Below.refl _ _)
    refine Jo.jd 17 (some 32) [(some 26, 11), (some 31, 16)] (Jo.Fact.eq (.bool false)) rfl rfl rfl rfl (fun vs wj hJ hd K hK => ?_) ?_
    · simp only [Jo.putl, Jo.zd, Jo.ze, Act.put, Jo.za, Jo.zb, Jo.zc] at hK ⊢
      rw [show vs 11 = _ from hd 11 (by decide), show vs 16 = _ from hd 16 (by decide)] at hK ⊢
      clear hd
      go_simp
      exact hK.out _ _ rfl (Below.refl _ _)
    refine Jo.jd 18 (some 2) [(some 32, 17)] (Jo.Fact.eq (.bool false)) rfl rfl rfl rfl (fun vs wj hJ hd K hK => ?_) ?_
    · simp only [Jo.putl, Jo.zd, Jo.ze, Act.put, Jo.za, Jo.zb, Jo.zc] at hK ⊢
      rw [show vs 17 = _ from hd 17 (by decide)] at hK ⊢
      clear hd
      go_simp
      exact hK.out _ _ rfl (Below.refl _ _)
    exact Jo.Steps.nil
  have d7 : (Jo.Fact.nm P 41).P (vs 7) w3 := hd 7 (by decide)
  simp only [Jo.putl, Jo.zd, Jo.ze, Act.put, Jo.za, Jo.zb, Jo.zc]
  rw [show vs 1 = _ from hd 1 (by decide), show vs 2 = _ from hd 2 (by decide), show vs 3 = _ from hd 3 (by decide), show vs 6 = _ from hd 6 (by decide), show vs 8 = _ from hd 8 (by decide), show vs 9 = _ from hd 9 (by decide), show vs 10 = _ from hd 10 (by decide), show vs 11 = _ from hd 11 (by decide), show vs 14 = _ from hd 14 (by decide), show vs 15 = _ from hd 15 (by decide), show vs 16 = _ from hd 16 (by decide), show vs 17 = _ from hd 17 (by decide), show vs 18 = _ from hd 18 (by decide)]
  clear hd
  generalize vs 7 = u7 at d7 ⊢
  obtain ⟨A7, n7, c7, rfl, h7, k7⟩ := d7
  replace X1 := X1.below hJ
  replace h := h.below hJ
  replace HB := Lib.hid (bt HB.out hJ)
  refine Jo.jdone (by kernel_rfl) ?_
  go_wp2
  go_ret
  exact ⟨rfl, HB.out⟩

set_option maxHeartbeats 4000000 in
theorem vMayD_y {w : World} {A : Option Addr} {n c a : Nat} {s : Bool} {t : Int} {P : Nat} {z : Int} (h : Rd w A n c a) (hn : n ≤ 1073741824) (hm : mayB s n a = true) (h0 : ((n : Int) == 0) = false) (hw : (decide (-400 ≤ t) && decide (t ≤ 400)) = true) (hP : 10 ^ 40 = P) (hz1 : cmpI (a : Int) (P : Int) = z) (hz0 : decide (z < 0) = true) (hz2 : decide (a % 10 = 0) = false) : Calls Tryd.prog 16 #[.agg #[.bool s, .slice A n c, .int .i64 t]] w (PB w true) := by
  have HP := Lib.hid hP
  have H1 := Lib.hid hz1
  clear hP hz1
  have H2 := Lib.hid hz2
  clear hz2
  have HW := Lib.hid hw
  clear hw
  go_enter Tryd.func16, Tryd.ntmps16
  go_upto_region 1 with (fail)
  have X1 := (Bo.newAt w (g := w.heap.size) (by simp) #[.bool s, .slice A n c, .int .i64 t] 43)
  have HB := Lib.hid (bel1 w (.cells #[.bool s, .slice A n c, .int .i64 t] 43))
  replace h := h.below HB.out
  generalize hW1 : (w.alloc (.cells #[.bool s, .slice A n c, .int .i64 t] 43)) = w1 at *
  clear hW1
  have xX10 := X1.a 0 (.bool s) rfl
  have xX11 := X1.a 1 (.slice A n c) rfl
  have xX12 := X1.a 2 (.int .i64 t) rfl
  go_wp2_with fail
  refine (wMay h hm).mono ?_
  rintro ee w2 ⟨rfl, B⟩
  clear xX10 xX11 xX12
  replace X1 := X1.below B
  replace h := h.below B
  replace HB := Lib.hid (bt HB.out B)
  clear B
  have xX10 := X1.a 0 (.bool s) rfl
  have xX11 := X1.a 1 (.slice A n c) rfl
  have xX12 := X1.a 2 (.int .i64 t) rfl
  go_upto_region 5 with (fail)
  refine Jo.region_joint (T := [0, 1, 2, 3, 4, 5, 6, 7, 8, 9, 10, 11, 12, 13, 14, 15, 16, 17, 18]) (ds := [some 15, some 16, some 17, some 18, some 19, some 20, some 21, some 22, some 23, some 24, some 25, some 26, some 27, some 28, some 29, some 30, some 31, some 32, some 2]) (ls := [[], [0], [1], [2], [3], [3, 4], [3, 5], [3], [3, 6, 7], [3, 8], [3, 9], [10], [11], [11, 12], [11, 13], [11, 14], [11, 15], [11, 16], [17]]) (k := 19) (L := [(some 15, 0), (some 16, 1), (some 17, 2), (some 18, 3), (some 19, 4), (some 20, 5), (some 21, 6), (some 22, 7), (some 23, 8), (some 24, 9), (some 25, 10), (some 26, 11), (some 27, 12), (some 28, 13), (some 29, 14), (some 30, 15), (some 31, 16), (some 32, 17), (some 2, 18)]) (fuel := 0) (J := fun wj => Below (World.heap w2).size w2 wj)
    (F := [Jo.Fact.eq (.pointer (some ⟨w.heap.size, 2, none⟩)), Jo.Fact.eq (.int .i64 t), Jo.Fact.eq (.bool true), Jo.Fact.eq (.bool true), Jo.Fact.eq (.pointer (some ⟨w.heap.size, 0, none⟩)), Jo.Fact.eq (.pointer (some ⟨w.heap.size, 1, none⟩)), Jo.Fact.eq (.slice A n c), Jo.Fact.nm P 41, Jo.Fact.eq (.int .i64 z), Jo.Fact.eq (.bool true), Jo.Fact.eq (.bool true), Jo.Fact.eq (.bool true), Jo.Fact.eq (.pointer (some ⟨w.heap.size, 0, none⟩)), Jo.Fact.eq (.pointer (some ⟨w.heap.size, 1, none⟩)), Jo.Fact.eq (.slice A n c), Jo.Fact.eq (.bool false), Jo.Fact.eq (.bool true), Jo.Fact.eq (.bool true), Jo.Fact.eq (.bool true)])
    (by kernel_rfl) (by kernel_rfl) (by decide) rfl rfl (fun _ _ h b => bt h b) ((Below.refl _ _).drew) ?_ (fun vs w3 hJ hd => ?_)
  clear xX10 xX11 xX12
  · refine Jo.jd 0 (some 15) [] (Jo.Fact.eq (.pointer (some ⟨w.heap.size, 2, none⟩))) rfl rfl rfl rfl (fun vs wj hJ hd K hK => ?_) ?_
    · simp only [Jo.putl, Jo.ze, Act.put, Jo.za, Jo.zb, Jo.zc] at hK ⊢
      clear hd
      go_simp
      exact hK.out _ _ rfl (Below.refl _ _)
    refine Jo.jd 1 (some 16) [(some 15, 0)] (Jo.Fact.eq (.int .i64 t)) rfl rfl rfl rfl (fun vs wj hJ hd K hK => ?_) ?_
    · simp only [Jo.putl, Jo.zd, Jo.ze, Act.put, Jo.za, Jo.zb, Jo.zc] at hK ⊢
      rw [show vs 0 = _ from hd 0 (by decide)] at hK ⊢
      clear hd
      have xX12 := (X1.below hJ).a 2 (.int .i64 t) rfl
      go_simp
      exact hK.out _ _ rfl (Below.refl _ _)
    refine Jo.jd 2 (some 17) [(some 16, 1)] (Jo.Fact.eq (.bool true)) rfl rfl rfl rfl (fun vs wj hJ hd K hK => ?_) ?_
    · simp only [Jo.putl, Jo.zd, Jo.ze, Act.put, Jo.za, Jo.zb, Jo.zc] at hK ⊢
      rw [show vs 1 = _ from hd 1 (by decide)] at hK ⊢
      clear hd
      go_simp
      refine (vWithinE HW.out _).mono ?_
      rintro ee wk ⟨rfl, B⟩
      exact hK.out _ _ rfl B
    refine Jo.jd 3 (some 18) [(some 17, 2)] (Jo.Fact.eq (.bool true)) rfl rfl rfl rfl (fun vs wj hJ hd K hK => ?_) ?_
    · simp only [Jo.putl, Jo.zd, Jo.ze, Act.put, Jo.za, Jo.zb, Jo.zc] at hK ⊢
      rw [show vs 2 = _ from hd 2 (by decide)] at hK ⊢
      clear hd
      go_simp
      exact hK.out _ _ rfl (Below.refl _ _)
    refine Jo.jd 4 (some 19) [(some 18, 3)] (Jo.Fact.eq (.pointer (some ⟨w.heap.size, 0, none⟩))) rfl rfl rfl rfl (fun vs wj hJ hd K hK => ?_) ?_
    · simp only [Jo.putl, Jo.zd, Jo.ze, Act.put, Jo.za, Jo.zb, Jo.zc] at hK ⊢
      rw [show vs 3 = _ from hd 3 (by decide)] at hK ⊢
      clear hd
      go_simp
      exact hK.out _ _ rfl (Below.refl _ _)
    refine Jo.jd 5 (some 20) [(some 18, 3), (some 19, 4)] (Jo.Fact.eq (.pointer (some ⟨w.heap.size, 1, none⟩))) rfl rfl rfl rfl (fun vs wj hJ hd K hK => ?_) ?_
    · simp only [Jo.putl, Jo.zd, Jo.ze, Act.put, Jo.za, Jo.zb, Jo.zc] at hK ⊢
      rw [show vs 3 = _ from hd 3 (by decide), show vs 4 = _ from hd 4 (by decide)] at hK ⊢
      clear hd
      go_simp
      exact hK.out _ _ rfl (Below.refl _ _)
    refine Jo.jd 6 (some 21) [(some 18, 3), (some 20, 5)] (Jo.Fact.eq (.slice A n c)) rfl rfl rfl rfl (fun vs wj hJ hd K hK => ?_) ?_
    · simp only [Jo.putl, Jo.zd, Jo.ze, Act.put, Jo.za, Jo.zb, Jo.zc] at hK ⊢
      rw [show vs 3 = _ from hd 3 (by decide), show vs 5 = _ from hd 5 (by decide)] at hK ⊢
      clear hd
      have xX11 := (X1.below hJ).a 1 (.slice A n c) rfl
      go_simp
      exact hK.out _ _ rfl (Below.refl _ _)
    refine Jo.jd 7 (some 22) [(some 18, 3)] (Jo.Fact.nm P 41) rfl rfl rfl rfl (fun vs wj hJ hd K hK => ?_) ?_
    · simp only [Jo.putl, Jo.zd, Jo.ze, Act.put, Jo.za, Jo.zb, Jo.zc] at hK ⊢
      rw [show vs 3 = _ from hd 3 (by decide)] at hK ⊢
      clear hd
      go_simp
      refine (vPower40 HP.out _).mono ?_
      rintro ee wk ⟨A3, n3, c3, rfl, h3, k3, B⟩
      exact hK.out _ _ ⟨_, _, _, rfl, h3.nm, k3⟩ B
    refine Jo.jd 8 (some 23) [(some 18, 3), (some 21, 6), (some 22, 7)] (Jo.Fact.eq (.int .i64 z)) rfl rfl rfl rfl (fun vs wj hJ hd K hK => ?_) ?_
    · have d7 : (Jo.Fact.nm P 41).P (vs 7) wj := hd 7 (by decide)
      simp only [Jo.putl, Jo.zd, Jo.ze, Act.put, Jo.za, Jo.zb, Jo.zc] at hK ⊢
      rw [show vs 3 = _ from hd 3 (by decide), show vs 6 = _ from hd 6 (by decide)] at hK ⊢
      clear hd
      generalize vs 7 = u7 at hK d7 ⊢
      obtain ⟨A7, n7, c7, rfl, h7, k7⟩ := d7
      go_simp
      refine (vCmpE (h.below hJ) h7.rd H1.out).mono ?_
      rintro ee wk ⟨rfl, B⟩
      exact hK.out _ _ rfl B
    refine Jo.jd 9 (some 24) [(some 18, 3), (some 23, 8)] (Jo.Fact.eq (.bool true)) rfl rfl rfl rfl (fun vs wj hJ hd K hK => ?_) ?_
    · simp only [Jo.putl, Jo.zd, Jo.ze, Act.put, Jo.za, Jo.zb, Jo.zc] at hK ⊢
      rw [show vs 3 = _ from hd 3 (by decide), show vs 8 = _ from hd 8 (by decide)] at hK ⊢
      clear hd
      go_simp
      exact hK.out _ _ (by first | rfl | simp [hz0] | (rw [hz0]; rfl)) (Below.refl _ _)
    refine Jo.jd 10 (some 25) [(some 18, 3), (some 24, 9)] (Jo.Fact.eq (.bool true)) rfl rfl rfl rfl (fun vs wj hJ hd K hK => ?_) ?_
    · simp only [Jo.putl, Jo.zd, Jo.ze, Act.put, Jo.za, Jo.zb, Jo.zc] at hK ⊢
      rw [show vs 3 = _ from hd 3 (by decide), show vs 9 = _ from hd 9 (by decide)] at hK ⊢
      clear hd
      go_simp
      exact hK.out _ _ rfl (Below.refl _ _)
    refine Jo.jd 11 (some 26) [(some 25, 10)] (Jo.Fact.eq (.bool true)) rfl rfl rfl rfl (fun vs wj hJ hd K hK => ?_) ?_
    · simp only [Jo.putl, Jo.zd, Jo.ze, Act.put, Jo.za, Jo.zb, Jo.zc] at hK ⊢
      rw [show vs 10 = _ from hd 10 (by decide)] at hK ⊢
      clear hd
      go_simp
      exact hK.out _ _ rfl (Below.refl _ _)
    refine Jo.jd 12 (some 27) [(some 26, 11)] (Jo.Fact.eq (.pointer (some ⟨w.heap.size, 0, none⟩))) rfl rfl rfl rfl (fun vs wj hJ hd K hK => ?_) ?_
    · simp only [Jo.putl, Jo.zd, Jo.ze, Act.put, Jo.za, Jo.zb, Jo.zc] at hK ⊢
      rw [show vs 11 = _ from hd 11 (by decide)] at hK ⊢
      clear hd
      go_simp
      exact hK.out _ _ rfl (Below.refl _ _)
    refine Jo.jd 13 (some 28) [(some 26, 11), (some 27, 12)] (Jo.Fact.eq (.pointer (some ⟨w.heap.size, 1, none⟩))) rfl rfl rfl rfl (fun vs wj hJ hd K hK => ?_) ?_
    · simp only [Jo.putl, Jo.zd, Jo.ze, Act.put, Jo.za, Jo.zb, Jo.zc] at hK ⊢
      rw [show vs 11 = _ from hd 11 (by decide), show vs 12 = _ from hd 12 (by decide)] at hK ⊢
      clear hd
      go_simp
      exact hK.out _ _ rfl (Below.refl _ _)
    refine Jo.jd 14 (some 29) [(some 26, 11), (some 28, 13)] (Jo.Fact.eq (.slice A n c)) rfl rfl rfl rfl (fun vs wj hJ hd K hK => ?_) ?_
    · simp only [Jo.putl, Jo.zd, Jo.ze, Act.put, Jo.za, Jo.zb, Jo.zc] at hK ⊢
      rw [show vs 11 = _ from hd 11 (by decide), show vs 13 = _ from hd 13 (by decide)] at hK ⊢
      clear hd
      have xX11 := (X1.below hJ).a 1 (.slice A n c) rfl
      go_simp
      exact hK.out _ _ rfl (Below.refl _ _)
    refine Jo.jd 15 (some 30) [(some 26, 11), (some 29, 14)] (Jo.Fact.eq (.bool false)) rfl rfl rfl rfl (fun vs wj hJ hd K hK => ?_) ?_
    · simp only [Jo.putl, Jo.zd, Jo.ze, Act.put, Jo.za, Jo.zb, Jo.zc] at hK ⊢
      rw [show vs 11 = _ from hd 11 (by decide), show vs 14 = _ from hd 14 (by decide)] at hK ⊢
      clear hd
      go_simp
      refine (vMultipleE (h.below hJ) hn H2.out).mono ?_
      rintro ee wk ⟨rfl, B⟩
      exact hK.out _ _ rfl B
    refine Jo.jd 16 (some 31) [(some 26, 11), (some 30, 15)] (Jo.Fact.eq (.bool true)) rfl rfl rfl rfl (fun vs wj hJ hd K hK => ?_) ?_
    · simp only [Jo.putl, Jo.zd, Jo.ze, Act.put, Jo.za, Jo.zb, Jo.zc] at hK ⊢
      rw [show vs 11 = _ from hd 11 (by decide), show vs 15 = _ from hd 15 (by decide)] at hK ⊢
      clear hd
      go_simp
      exact hK.out _ _ rfl (Below.refl _ _)
    refine Jo.jd 17 (some 32) [(some 26, 11), (some 31, 16)] (Jo.Fact.eq (.bool true)) rfl rfl rfl rfl (fun vs wj hJ hd K hK => ?_) ?_
    · simp only [Jo.putl, Jo.zd, Jo.ze, Act.put, Jo.za, Jo.zb, Jo.zc] at hK ⊢
      rw [show vs 11 = _ from hd 11 (by decide), show vs 16 = _ from hd 16 (by decide)] at hK ⊢
      clear hd
      go_simp
      exact hK.out _ _ rfl (Below.refl _ _)
    refine Jo.jd 18 (some 2) [(some 32, 17)] (Jo.Fact.eq (.bool true)) rfl rfl rfl rfl (fun vs wj hJ hd K hK => ?_) ?_
    · simp only [Jo.putl, Jo.zd, Jo.ze, Act.put, Jo.za, Jo.zb, Jo.zc] at hK ⊢
      rw [show vs 17 = _ from hd 17 (by decide)] at hK ⊢
      clear hd
      go_simp
      exact hK.out _ _ rfl (Below.refl _ _)
    exact Jo.Steps.nil
  have d7 : (Jo.Fact.nm P 41).P (vs 7) w3 := hd 7 (by decide)
  simp only [Jo.putl, Jo.zd, Jo.ze, Act.put, Jo.za, Jo.zb, Jo.zc]
  rw [show vs 1 = _ from hd 1 (by decide), show vs 2 = _ from hd 2 (by decide), show vs 3 = _ from hd 3 (by decide), show vs 6 = _ from hd 6 (by decide), show vs 8 = _ from hd 8 (by decide), show vs 9 = _ from hd 9 (by decide), show vs 10 = _ from hd 10 (by decide), show vs 11 = _ from hd 11 (by decide), show vs 14 = _ from hd 14 (by decide), show vs 15 = _ from hd 15 (by decide), show vs 16 = _ from hd 16 (by decide), show vs 17 = _ from hd 17 (by decide), show vs 18 = _ from hd 18 (by decide)]
  clear hd
  generalize vs 7 = u7 at d7 ⊢
  obtain ⟨A7, n7, c7, rfl, h7, k7⟩ := d7
  replace X1 := X1.below hJ
  replace h := h.below hJ
  replace HB := Lib.hid (bt HB.out hJ)
  refine Jo.jdone (by kernel_rfl) ?_
  go_wp2
  go_ret
  exact ⟨rfl, HB.out⟩

theorem vMayD {w : World} {A : Option Addr} {n c a : Nat} {s : Bool} {t : Int} {r : Bool} (h : Rd w A n c a) (hn : n ≤ 1073741824) (hr : mayC s n a t = r) :
    Calls Tryd.prog 16 #[.agg #[.bool s, .slice A n c, .int .i64 t]] w (PB w r) := by
  subst hr
  unfold mayC
  cases hm : mayB s n a
  · rw [Bool.false_and]
    exact vMayD_no h hn hm
  · rw [Bool.true_and]
    by_cases h0 : n = 0
    · subst h0
      rw [if_pos rfl]
      exact vMayD_zero h hm (by rw [Bool.eq_iff_iff]; simp)
    · rw [if_neg h0]
      have hz : ((n : Int) == 0) = false := by simp; omega
      cases hw : (decide (-400 ≤ t) && decide (t ≤ 400))
      · exact vMayD_w h hn hm hz hw
      · rw [Bool.true_and]
        obtain ⟨P, hP⟩ : ∃ P : Nat, 10 ^ 40 = P := ⟨_, rfl⟩
        rw [hP]
        by_cases hlt : a < P
        · have hz1 : cmpI (a : Int) (P : Int) = -1 := cmpI_lt (by omega)
          rw [show decide (a < P) = true by simpa using hlt, Bool.true_and]
          cases hz2 : decide (a % 10 = 0)
          · exact vMayD_y h hn hm hz hw hP hz1 (by decide) hz2
          · exact vMayD_m h hn hm hz hw hP hz1 (by decide) hz2
        · obtain ⟨z, hz1, hz0⟩ : ∃ z, cmpI (a : Int) (P : Int) = z ∧ 0 ≤ z := by
            rcases Nat.lt_or_ge P a with hh | hh
            · exact ⟨1, cmpI_gt (by omega), by decide⟩
            · exact ⟨0, cmpI_eq (by omega), by decide⟩
          rw [show decide (a < P) = false by simpa using hlt, Bool.false_and]
          exact vMayD_l h hn hm hz hw hP hz1 (by simp; omega)
end Go.Proofs.YtpmakljahhhnfaaDoor

/-
  What decimal.times and Cmp answer.
-/
namespace Go.Proofs.YtpmakljahhhnfaaDoor
open Go.RowKit
set_option linter.unusedVariables false
set_option linter.unusedSimpArgs false
set_option maxRecDepth 100000

theorem vPowerE {z : Int} {n P : Nat} (w : World) (hz : z = n) (hn : n ≤ 1000) (hP : 10 ^ n = P) : Calls Tryd.prog 47 #[.int .i64 z] w (P1N w 1001 P) := by
  subst hz; subst hP
  refine (vPower n w hn).mono ?_
  rintro e w' ⟨A, m, c, rfl, h, k, B⟩
  exact ⟨A, m, c, rfl, h, by omega, B⟩

set_option maxHeartbeats 4000000 in
theorem vTimes {w : World} {A : Option Addr} {n c : Nat} {s : Bool} {z t low r : Int} {k : Nat} (h : Wr w s A n c z) (hn : n ≤ 1000) (hk : t - low = k) (hk8 : k ≤ 1000) (h1 : -1000 ≤ t) (h2 : t ≤ 1000) (hr : z * ((10 ^ k : Nat) : Int) = r) :
    Calls Tryd.prog 51 #[.agg #[.bool s, .slice A n c, .int .i64 t], .int .i64 low] w (W1 w 3000 r) := by
  obtain ⟨P, hP⟩ : ∃ P, 10 ^ k = P := ⟨_, rfl⟩
  rw [hP] at hr
  have HP := Lib.hid hP
  have HR := Lib.hid (show prd [z, (P : Int)] = r by simp [prd]; exact hr)
  have HW : Hid (IntKind.i64.wrap (t - low) = (k : Int)) := Lib.hid (by rw [hk]; exact IntWalk.i64_in _ (by omega))
  clear hP hr hk
  go_enter Tryd.func51, Tryd.ntmps51
  go_upto_region 1 with (fail)
  have X1 := (Bo.newAt w (g := w.heap.size) (by simp) #[.bool s, .slice A n c, .int .i64 t] 43).below (bel1 _ (.cells #[.bool false, .slice none 0 0] 28))
  have XR := (Bo.newAt (w.alloc (.cells #[.bool s, .slice A n c, .int .i64 t] 43)) (g := w.heap.size + 1) (by simp) #[.bool false, .slice none 0 0] 28)
  have HB := Lib.hid (bel2 w (.cells #[.bool s, .slice A n c, .int .i64 t] 43) (.cells #[.bool false, .slice none 0 0] 28))
  replace h := h.below HB.out
  generalize hW1 : ((w.alloc (.cells #[.bool s, .slice A n c, .int .i64 t] 43)).alloc (.cells #[.bool false, .slice none 0 0] 28)) = w1 at *
  clear hW1
  refine Jo.region_joint (T := [0, 1, 2, 3, 4, 5, 6, 7, 8, 9]) (ds := [some 5, some 6, some 7, some 8, some 9, some 10, some 11, some 12, some 13, some 14, none]) (ls := [[], [0], [], [2], [], [3, 4], [5], [6], [1, 7], [8], []]) (k := 11) (L := [(some 5, 0), (some 6, 1), (some 7, 2), (some 8, 3), (some 9, 4), (some 10, 5), (some 11, 6), (some 12, 7), (some 13, 8), (some 14, 9)]) (fuel := 1) (J := fun wj => Below (World.heap w1).size w1 wj)
    (F := [Jo.Fact.eq (.pointer (some ⟨w.heap.size, 0, none⟩)), Jo.Fact.eq (.agg #[.bool s, .slice A n c]), Jo.Fact.eq (.pointer (some ⟨w.heap.size, 2, none⟩)), Jo.Fact.eq (.int .i64 t), Jo.Fact.eq (.int .i64 low), Jo.Fact.eq (.int .i64 (k : Int)), Jo.Fact.nm P 1001, Jo.Fact.wn (P : Int) 1001, Jo.Fact.wl 1001 2 [z, (P : Int)], Jo.Fact.wn r 3000, Jo.Fact.any])
    (by kernel_rfl) (by kernel_rfl) (by decide) rfl rfl (fun _ _ h b => bt h b) ((Below.refl _ _).drew) ?_ (fun vs w2 hJ hd => ?_)
  · refine Jo.jd 0 (some 5) [] (Jo.Fact.eq (.pointer (some ⟨w.heap.size, 0, none⟩))) rfl rfl rfl rfl (fun vs wj hJ hd K hK => ?_) ?_
    · simp only [Jo.putl, Jo.ze, Act.put, Jo.za, Jo.zb, Jo.zc] at hK ⊢
      clear hd
      go_simp
      exact hK.out _ _ rfl (Below.refl _ _)
    refine Jo.jd 1 (some 6) [(some 5, 0)] (Jo.Fact.eq (.agg #[.bool s, .slice A n c])) rfl rfl rfl rfl (fun vs wj hJ hd K hK => ?_) ?_
    · simp only [Jo.putl, Jo.zd, Jo.ze, Act.put, Jo.za, Jo.zb, Jo.zc] at hK ⊢
      rw [show vs 0 = _ from hd 0 (by decide)] at hK ⊢
      clear hd
      have xX10 := (X1.below hJ).a 0 (.bool s) rfl
      have xX11 := (X1.below hJ).a 1 (.slice A n c) rfl
      have xX12 := (X1.below hJ).a 2 (.int .i64 t) rfl
      go_simp
      exact hK.out _ _ rfl (Below.refl _ _)
    refine Jo.jd 2 (some 7) [] (Jo.Fact.eq (.pointer (some ⟨w.heap.size, 2, none⟩))) rfl rfl rfl rfl (fun vs wj hJ hd K hK => ?_) ?_
    · simp only [Jo.putl, Jo.ze, Act.put, Jo.za, Jo.zb, Jo.zc] at hK ⊢
      clear hd
      go_simp
      exact hK.out _ _ rfl (Below.refl _ _)
    refine Jo.jd 3 (some 8) [(some 7, 2)] (Jo.Fact.eq (.int .i64 t)) rfl rfl rfl rfl (fun vs wj hJ hd K hK => ?_) ?_
    · simp only [Jo.putl, Jo.zd, Jo.ze, Act.put, Jo.za, Jo.zb, Jo.zc] at hK ⊢
      rw [show vs 2 = _ from hd 2 (by decide)] at hK ⊢
      clear hd
      have xX12 := (X1.below hJ).a 2 (.int .i64 t) rfl
      go_simp
      exact hK.out _ _ rfl (Below.refl _ _)
    refine Jo.jd 4 (some 9) [] (Jo.Fact.eq (.int .i64 low)) rfl rfl rfl rfl (fun vs wj hJ hd K hK => ?_) ?_
    · simp only [Jo.putl, Jo.ze, Act.put, Jo.za, Jo.zb, Jo.zc] at hK ⊢
      clear hd
      go_simp
      exact hK.out _ _ rfl (Below.refl _ _)
    refine Jo.jd 5 (some 10) [(some 8, 3), (some 9, 4)] (Jo.Fact.eq (.int .i64 (k : Int))) rfl rfl rfl rfl (fun vs wj hJ hd K hK => ?_) ?_
    · simp only [Jo.putl, Jo.zd, Jo.ze, Act.put, Jo.za, Jo.zb, Jo.zc] at hK ⊢
      rw [show vs 3 = _ from hd 3 (by decide), show vs 4 = _ from hd 4 (by decide)] at hK ⊢
      clear hd
      go_simp
      rw [HW.out]
      exact hK.out _ _ rfl (Below.refl _ _)
    refine Jo.jd 6 (some 11) [(some 10, 5)] (Jo.Fact.nm P 1001) rfl rfl rfl rfl (fun vs wj hJ hd K hK => ?_) ?_
    · simp only [Jo.putl, Jo.zd, Jo.ze, Act.put, Jo.za, Jo.zb, Jo.zc] at hK ⊢
      rw [show vs 5 = _ from hd 5 (by decide)] at hK ⊢
      clear hd
      go_simp
      refine (vPowerE _ rfl hk8 HP.out).mono ?_
      rintro ee wk ⟨A3, n3, c3, rfl, h3, k3, B⟩
      exact hK.out _ _ ⟨_, _, _, rfl, h3.nm, k3⟩ B
    refine Jo.jd 7 (some 12) [(some 11, 6)] (Jo.Fact.wn (P : Int) 1001) rfl rfl rfl rfl (fun vs wj hJ hd K hK => ?_) ?_
    · have d6 : (Jo.Fact.nm P 1001).P (vs 6) wj := hd 6 (by decide)
      simp only [Jo.putl, Jo.zd, Jo.ze, Act.put, Jo.za, Jo.zb, Jo.zc] at hK ⊢
      clear hd
      generalize vs 6 = u6 at hK d6 ⊢
      obtain ⟨A3, n3, c3, rfl, h3, k3⟩ := d6
      go_simp
      exact hK.out _ _ ⟨false, A3, n3, c3, rfl, ⟨by simpa using h3, by simp⟩, k3⟩ (Below.refl _ _)
    refine Jo.jd 8 (some 13) [(some 6, 1), (some 12, 7)] (Jo.Fact.wl 1001 2 [z, (P : Int)]) rfl rfl rfl rfl (fun vs wj hJ hd K hK => ?_) ?_
    · have d7 : (Jo.Fact.wn (P : Int) 1001).P (vs 7) wj := hd 7 (by decide)
      simp only [Jo.putl, Jo.zd, Jo.ze, Act.put, Jo.za, Jo.zb, Jo.zc] at hK ⊢
      rw [show vs 1 = _ from hd 1 (by decide)] at hK ⊢
      clear hd
      generalize vs 7 = u7 at hK d7 ⊢
      obtain ⟨s4, A4, n4, c4, rfl, h4, k4⟩ := d7
      go_simp
      exact hK.out _ _ ⟨_, 2, rfl, Wl.lit2 rfl (h.below hJ) h4.wr (by omega) (by omega)⟩ (bel1 _ _)
    refine Jo.jd 9 (some 14) [(some 13, 8)] (Jo.Fact.wn r 3000) rfl rfl rfl rfl (fun vs wj hJ hd K hK => ?_) ?_
    · have d8 : (Jo.Fact.wl 1001 2 [z, (P : Int)]).P (vs 8) wj := hd 8 (by decide)
      simp only [Jo.putl, Jo.zd, Jo.ze, Act.put, Jo.za, Jo.zb, Jo.zc] at hK ⊢
      clear hd
      generalize vs 8 = u8 at hK d8 ⊢
      obtain ⟨A5, c5, rfl, h5⟩ := d8
      go_simp
      refine (wMul h5 (by omega) HR.out).mono ?_
      rintro ee wk ⟨s6, A6, n6, c6, rfl, h6, k6, B⟩
      exact hK.out _ _ ⟨_, _, _, _, rfl, h6, by omega⟩ B
    exact Jo.Steps.nil
  have d6 : (Jo.Fact.nm P 1001).P (vs 6) w2 := hd 6 (by decide)
  have d7 : (Jo.Fact.wn (P : Int) 1001).P (vs 7) w2 := hd 7 (by decide)
  have d8 : (Jo.Fact.wl 1001 2 [z, (P : Int)]).P (vs 8) w2 := hd 8 (by decide)
  have d9 : (Jo.Fact.wn r 3000).P (vs 9) w2 := hd 9 (by decide)
  simp only [Jo.putl, Jo.zd, Jo.ze, Act.put, Jo.za, Jo.zb, Jo.zc]
  rw [show vs 1 = _ from hd 1 (by decide), show vs 3 = _ from hd 3 (by decide), show vs 4 = _ from hd 4 (by decide), show vs 5 = _ from hd 5 (by decide)]
  clear hd
  generalize vs 6 = u6 at d6 ⊢
  generalize vs 7 = u7 at d7 ⊢
  generalize vs 8 = u8 at d8 ⊢
  generalize vs 9 = u9 at d9 ⊢
  obtain ⟨A3, n3, c3, rfl, _, _⟩ := d6
  obtain ⟨s4, A4, n4, c4, rfl, _, _⟩ := d7
  obtain ⟨A5, c5, rfl, _⟩ := d8
  obtain ⟨s6, A6, n6, c6, rfl, h6, k6⟩ := d9
  replace X1 := X1.below hJ
  replace XR := XR.below hJ
  replace h := h.below hJ
  replace HB := Lib.hid (bt HB.out hJ)
  have xXR0 := XR.a 0 (.bool false) rfl
  have zXR0 := XR.frozen 0
  have xXR1 := XR.a 1 (.slice none 0 0) rfl
  have zXR1 := XR.frozen 1
  refine Jo.jnext (i := 10) (o := ⟨none, _, _, _, _, _⟩) (by kernel_rfl) rfl (fun K hK => ?_)
  go_simp
  refine hK.out _ _ ?_
  clear hK K xXR0 zXR0 xXR1 zXR1
  have SX := StN.mk2 XR (.bool s6) (.slice A6 n6 c6)
  replace X1 := X1.stn SX (by omega)
  replace h := h.stn SX (by simp [no32])
  replace h6 := h6.stn SX (by simp [no32])
  replace HB := Lib.hid (SX.below HB.out (by omega))
  replace XR := SX.box
  clear SX
  generalize (World.setCell (World.setCell w2 ⟨w.heap.size + 1, 0, none⟩ (.bool s6)) ⟨w.heap.size + 1, 1, none⟩ (.slice A6 n6 c6)) = w3 at *
  refine Jo.jdone (by kernel_rfl) ?_
  go_wp2
  have r0 := XR.cell 0
  have r1 := XR.cell 1
  exact bodyPost_ret (v := .agg #[.bool s6, .slice A6 n6 c6]) (by simp [results, Tryd.results51, go_sem, r0, r1]) rfl ⟨s6, A6, n6, c6, rfl, h6, k6, HB.out⟩

set_option maxHeartbeats 4000000 in
theorem vCmpD_a {w : World} {A B : Option Addr} {n c a m d b : Nat} {s1 s2 : Bool} {t1 t2 : Int} (h1 : Rd w A n c a) (h2 : Rd w B m d b) (hn : n ≤ 20) (hm : m ≤ 20) (hm1 : mayC s1 n a t1 = false) :
    Calls Tryd.prog 18 #[.agg #[.bool s1, .slice A n c, .int .i64 t1], .agg #[.bool s2, .slice B m d, .int .i64 t2]] w (PI w 0) := by
  have HM1 := Lib.hid hm1
  clear hm1
  go_enter Tryd.func18, Tryd.ntmps18
  go_upto_region 1 with (fail)
  have X1 := (Bo.newAt w (g := w.heap.size) (by simp) #[.bool s1, .slice A n c, .int .i64 t1] 43).below (bel1 _ (.cells #[.bool s2, .slice B m d, .int .i64 t2] 43))
  have X2 := (Bo.newAt (w.alloc (.cells #[.bool s1, .slice A n c, .int .i64 t1] 43)) (g := w.heap.size + 1) (by simp) #[.bool s2, .slice B m d, .int .i64 t2] 43)
  have HB := Lib.hid (bel2 w (.cells #[.bool s1, .slice A n c, .int .i64 t1] 43) (.cells #[.bool s2, .slice B m d, .int .i64 t2] 43))
  replace h1 := h1.below HB.out
  replace h2 := h2.below HB.out
  generalize hW1 : ((w.alloc (.cells #[.bool s1, .slice A n c, .int .i64 t1] 43)).alloc (.cells #[.bool s2, .slice B m d, .int .i64 t2] 43)) = w1 at *
  clear hW1
  have xX10 := X1.a 0 (.bool s1) rfl
  have xX11 := X1.a 1 (.slice A n c) rfl
  have xX12 := X1.a 2 (.int .i64 t1) rfl
  have xX20 := X2.a 0 (.bool s2) rfl
  have xX21 := X2.a 1 (.slice B m d) rfl
  have xX22 := X2.a 2 (.int .i64 t2) rfl
  have hn8 : n ≤ 1073741824 := by omega
  go_wp2_with fail
  refine (vMayD h1 hn8 HM1.out).mono ?_
  rintro ee w2 ⟨rfl, B⟩
  clear xX10 xX11 xX12 xX20 xX21 xX22
  replace X1 := X1.below B
  replace X2 := X2.below B
  replace h1 := h1.below B
  replace h2 := h2.below B
  replace HB := Lib.hid (bt HB.out B)
  clear B
  have xX10 := X1.a 0 (.bool s1) rfl
  have xX11 := X1.a 1 (.slice A n c) rfl
  have xX12 := X1.a 2 (.int .i64 t1) rfl
  have xX20 := X2.a 0 (.bool s2) rfl
  have xX21 := X2.a 1 (.slice B m d) rfl
  have xX22 := X2.a 2 (.int .i64 t2) rfl
  go_wp2
  go_ret
  exact ⟨rfl, HB.out⟩

set_option maxHeartbeats 4000000 in
theorem vCmpD_b {w : World} {A B : Option Addr} {n c a m d b : Nat} {s1 s2 : Bool} {t1 t2 : Int} (h1 : Rd w A n c a) (h2 : Rd w B m d b) (hn : n ≤ 20) (hm : m ≤ 20) (hm1 : mayC s1 n a t1 = true) (hm2 : mayC s2 m b t2 = false) :
    Calls Tryd.prog 18 #[.agg #[.bool s1, .slice A n c, .int .i64 t1], .agg #[.bool s2, .slice B m d, .int .i64 t2]] w (PI w 0) := by
  have HM1 := Lib.hid hm1
  have HM2 := Lib.hid hm2
  clear hm1 hm2
  go_enter Tryd.func18, Tryd.ntmps18
  go_upto_region 1 with (fail)
  have X1 := (Bo.newAt w (g := w.heap.size) (by simp) #[.bool s1, .slice A n c, .int .i64 t1] 43).below (bel1 _ (.cells #[.bool s2, .slice B m d, .int .i64 t2] 43))
  have X2 := (Bo.newAt (w.alloc (.cells #[.bool s1, .slice A n c, .int .i64 t1] 43)) (g := w.heap.size + 1) (by simp) #[.bool s2, .slice B m d, .int .i64 t2] 43)
  have HB := Lib.hid (bel2 w (.cells #[.bool s1, .slice A n c, .int .i64 t1] 43) (.cells #[.bool s2, .slice B m d, .int .i64 t2] 43))
  replace h1 := h1.below HB.out
  replace h2 := h2.below HB.out
  generalize hW1 : ((w.alloc (.cells #[.bool s1, .slice A n c, .int .i64 t1] 43)).alloc (.cells #[.bool s2, .slice B m d, .int .i64 t2] 43)) = w1 at *
  clear hW1
  have xX10 := X1.a 0 (.bool s1) rfl
  have xX11 := X1.a 1 (.slice A n c) rfl
  have xX12 := X1.a 2 (.int .i64 t1) rfl
  have xX20 := X2.a 0 (.bool s2) rfl
  have xX21 := X2.a 1 (.slice B m d) rfl
  have xX22 := X2.a 2 (.int .i64 t2) rfl
  have hn8 : n ≤ 1073741824 := by omega
  have hm8 : m ≤ 1073741824 := by omega
  go_wp2_with fail
  refine (vMayD h1 hn8 HM1.out).mono ?_
  rintro ee w2 ⟨rfl, B⟩
  clear xX10 xX11 xX12 xX20 xX21 xX22
  replace X1 := X1.below B
  replace X2 := X2.below B
  replace h1 := h1.below B
  replace h2 := h2.below B
  replace HB := Lib.hid (bt HB.out B)
  clear B
  have xX10 := X1.a 0 (.bool s1) rfl
  have xX11 := X1.a 1 (.slice A n c) rfl
  have xX12 := X1.a 2 (.int .i64 t1) rfl
  have xX20 := X2.a 0 (.bool s2) rfl
  have xX21 := X2.a 1 (.slice B m d) rfl
  have xX22 := X2.a 2 (.int .i64 t2) rfl
  go_wp2_with fail
  refine (vMayD h2 hm8 HM2.out).mono ?_
  rintro ee w3 ⟨rfl, B⟩
  clear xX10 xX11 xX12 xX20 xX21 xX22
  replace X1 := X1.below B
  replace X2 := X2.below B
  replace h1 := h1.below B
  replace h2 := h2.below B
  replace HB := Lib.hid (bt HB.out B)
  clear B
  have xX10 := X1.a 0 (.bool s1) rfl
  have xX11 := X1.a 1 (.slice A n c) rfl
  have xX12 := X1.a 2 (.int .i64 t1) rfl
  have xX20 := X2.a 0 (.bool s2) rfl
  have xX21 := X2.a 1 (.slice B m d) rfl
  have xX22 := X2.a 2 (.int .i64 t2) rfl
  go_wp2
  go_ret
  exact ⟨rfl, HB.out⟩

set_option maxHeartbeats 4000000 in
theorem vCmpD_y {w : World} {A B : Option Addr} {n c a m d b k1 k2 : Nat} {s1 s2 : Bool} {t1 t2 low r : Int} (h1 : Rd w A n c a) (h2 : Rd w B m d b) (hn : n ≤ 20) (hm : m ≤ 20) (hm1 : mayC s1 n a t1 = true) (hm2 : mayC s2 m b t2 = true) (b1 : -400 ≤ t1 ∧ t1 ≤ 400) (b2 : -400 ≤ t2 ∧ t2 ≤ 400) (hlow : min t1 t2 = low) (e1 : t1 - low = k1) (e2 : t2 - low = k2) (hr : cmpI (sg s1 a * ((10 ^ k1 : Nat) : Int)) (sg s2 b * ((10 ^ k2 : Nat) : Int)) = r) :
    Calls Tryd.prog 18 #[.agg #[.bool s1, .slice A n c, .int .i64 t1], .agg #[.bool s2, .slice B m d, .int .i64 t2]] w (PI w r) := by
  have HM1 := Lib.hid hm1
  have HM2 := Lib.hid hm2
  have HR := Lib.hid hr
  have l1 : k1 ≤ 800 := by omega
  have l2 : k2 ≤ 800 := by omega
  have E1 := Lib.hid e1
  have E2 := Lib.hid e2
  clear hm1 hm2 hr e1 e2
  go_enter Tryd.func18, Tryd.ntmps18
  go_upto_region 1 with (fail)
  have X1 := (Bo.newAt w (g := w.heap.size) (by simp) #[.bool s1, .slice A n c, .int .i64 t1] 43).below (bel1 _ (.cells #[.bool s2, .slice B m d, .int .i64 t2] 43))
  have X2 := (Bo.newAt (w.alloc (.cells #[.bool s1, .slice A n c, .int .i64 t1] 43)) (g := w.heap.size + 1) (by simp) #[.bool s2, .slice B m d, .int .i64 t2] 43)
  have HB := Lib.hid (bel2 w (.cells #[.bool s1, .slice A n c, .int .i64 t1] 43) (.cells #[.bool s2, .slice B m d, .int .i64 t2] 43))
  replace h1 := h1.below HB.out
  replace h2 := h2.below HB.out
  generalize hW1 : ((w.alloc (.cells #[.bool s1, .slice A n c, .int .i64 t1] 43)).alloc (.cells #[.bool s2, .slice B m d, .int .i64 t2] 43)) = w1 at *
  clear hW1
  have xX10 := X1.a 0 (.bool s1) rfl
  have xX11 := X1.a 1 (.slice A n c) rfl
  have xX12 := X1.a 2 (.int .i64 t1) rfl
  have xX20 := X2.a 0 (.bool s2) rfl
  have xX21 := X2.a 1 (.slice B m d) rfl
  have xX22 := X2.a 2 (.int .i64 t2) rfl
  have hn8 : n ≤ 1073741824 := by omega
  have hm8 : m ≤ 1073741824 := by omega
  go_wp2_with fail
  refine (vMayD h1 hn8 HM1.out).mono ?_
  rintro ee w2 ⟨rfl, B⟩
  clear xX10 xX11 xX12 xX20 xX21 xX22
  replace X1 := X1.below B
  replace X2 := X2.below B
  replace h1 := h1.below B
  replace h2 := h2.below B
  replace HB := Lib.hid (bt HB.out B)
  clear B
  have xX10 := X1.a 0 (.bool s1) rfl
  have xX11 := X1.a 1 (.slice A n c) rfl
  have xX12 := X1.a 2 (.int .i64 t1) rfl
  have xX20 := X2.a 0 (.bool s2) rfl
  have xX21 := X2.a 1 (.slice B m d) rfl
  have xX22 := X2.a 2 (.int .i64 t2) rfl
  go_wp2_with fail
  refine (vMayD h2 hm8 HM2.out).mono ?_
  rintro ee w3 ⟨rfl, B⟩
  clear xX10 xX11 xX12 xX20 xX21 xX22
  replace X1 := X1.below B
  replace X2 := X2.below B
  replace h1 := h1.below B
  replace h2 := h2.below B
  replace HB := Lib.hid (bt HB.out B)
  clear B
  have xX10 := X1.a 0 (.bool s1) rfl
  have xX11 := X1.a 1 (.slice A n c) rfl
  have xX12 := X1.a 2 (.int .i64 t1) rfl
  have xX20 := X2.a 0 (.bool s2) rfl
  have xX21 := X2.a 1 (.slice B m d) rfl
  have xX22 := X2.a 2 (.int .i64 t2) rfl
  go_upto_region 4 with (fail)
  have hif : (if t2 < t1 then t2 else t1) = low := by
    rw [← hlow]
    split <;> omega
  try simp only [hif]
  refine Jo.region_joint (T := [0, 1, 2, 3, 4, 5, 6, 7]) (ds := [some 19, some 20, some 21, some 22, some 23, some 24, some 25, some 4]) (ls := [[], [], [0, 1], [], [], [3, 4], [2, 5], [6]]) (k := 8) (L := [(some 19, 0), (some 20, 1), (some 21, 2), (some 22, 3), (some 23, 4), (some 24, 5), (some 25, 6), (some 4, 7)]) (fuel := 0) (J := fun wj => Below (World.heap w3).size w3 wj)
    (F := [Jo.Fact.eq (.agg #[.bool s1, .slice A n c, .int .i64 t1]), Jo.Fact.eq (.int .i64 low), Jo.Fact.wn (sg s1 a * ((10 ^ k1 : Nat) : Int)) 3000, Jo.Fact.eq (.agg #[.bool s2, .slice B m d, .int .i64 t2]), Jo.Fact.eq (.int .i64 low), Jo.Fact.wn (sg s2 b * ((10 ^ k2 : Nat) : Int)) 3000, Jo.Fact.eq (.int .i64 r), Jo.Fact.eq (.int .i64 r)])
    (by kernel_rfl) (by kernel_rfl) (by decide) rfl rfl (fun _ _ h b => bt h b) ((Below.refl _ _).drew) ?_ (fun vs w4 hJ hd => ?_)
  clear xX10 xX11 xX12 xX20 xX21 xX22
  · refine Jo.jd 0 (some 19) [] (Jo.Fact.eq (.agg #[.bool s1, .slice A n c, .int .i64 t1])) rfl rfl rfl rfl (fun vs wj hJ hd K hK => ?_) ?_
    · simp only [Jo.putl, Jo.ze, Act.put, Jo.za, Jo.zb, Jo.zc] at hK ⊢
      clear hd
      have xX10 := (X1.below hJ).a 0 (.bool s1) rfl
      have xX11 := (X1.below hJ).a 1 (.slice A n c) rfl
      have xX12 := (X1.below hJ).a 2 (.int .i64 t1) rfl
      go_simp
      exact hK.out _ _ rfl (Below.refl _ _)
    refine Jo.jd 1 (some 20) [] (Jo.Fact.eq (.int .i64 low)) rfl rfl rfl rfl (fun vs wj hJ hd K hK => ?_) ?_
    · simp only [Jo.putl, Jo.ze, Act.put, Jo.za, Jo.zb, Jo.zc] at hK ⊢
      clear hd
      go_simp
      exact hK.out _ _ rfl (Below.refl _ _)
    refine Jo.jd 2 (some 21) [(some 19, 0), (some 20, 1)] (Jo.Fact.wn (sg s1 a * ((10 ^ k1 : Nat) : Int)) 3000) rfl rfl rfl rfl (fun vs wj hJ hd K hK => ?_) ?_
    · simp only [Jo.putl, Jo.zd, Jo.ze, Act.put, Jo.za, Jo.zb, Jo.zc] at hK ⊢
      rw [show vs 0 = _ from hd 0 (by decide), show vs 1 = _ from hd 1 (by decide)] at hK ⊢
      clear hd
      go_simp
      refine (vTimes ((h1.below hJ).wr s1) (by omega) E1.out (by omega) (by omega) (by omega) rfl).mono ?_
      rintro ee wk ⟨s5, A5, n5, c5, rfl, p5, k5, B⟩
      exact hK.out _ _ ⟨_, _, _, _, rfl, p5, k5⟩ B
    refine Jo.jd 3 (some 22) [] (Jo.Fact.eq (.agg #[.bool s2, .slice B m d, .int .i64 t2])) rfl rfl rfl rfl (fun vs wj hJ hd K hK => ?_) ?_
    · simp only [Jo.putl, Jo.ze, Act.put, Jo.za, Jo.zb, Jo.zc] at hK ⊢
      clear hd
      have xX20 := (X2.below hJ).a 0 (.bool s2) rfl
      have xX21 := (X2.below hJ).a 1 (.slice B m d) rfl
      have xX22 := (X2.below hJ).a 2 (.int .i64 t2) rfl
      go_simp
      exact hK.out _ _ rfl (Below.refl _ _)
    refine Jo.jd 4 (some 23) [] (Jo.Fact.eq (.int .i64 low)) rfl rfl rfl rfl (fun vs wj hJ hd K hK => ?_) ?_
    · simp only [Jo.putl, Jo.ze, Act.put, Jo.za, Jo.zb, Jo.zc] at hK ⊢
      clear hd
      go_simp
      exact hK.out _ _ rfl (Below.refl _ _)
    refine Jo.jd 5 (some 24) [(some 22, 3), (some 23, 4)] (Jo.Fact.wn (sg s2 b * ((10 ^ k2 : Nat) : Int)) 3000) rfl rfl rfl rfl (fun vs wj hJ hd K hK => ?_) ?_
    · simp only [Jo.putl, Jo.zd, Jo.ze, Act.put, Jo.za, Jo.zb, Jo.zc] at hK ⊢
      rw [show vs 3 = _ from hd 3 (by decide), show vs 4 = _ from hd 4 (by decide)] at hK ⊢
      clear hd
      go_simp
      refine (vTimes ((h2.below hJ).wr s2) (by omega) E2.out (by omega) (by omega) (by omega) rfl).mono ?_
      rintro ee wk ⟨s6, A6, n6, c6, rfl, p6, k6, B⟩
      exact hK.out _ _ ⟨_, _, _, _, rfl, p6, k6⟩ B
    refine Jo.jd 6 (some 25) [(some 21, 2), (some 24, 5)] (Jo.Fact.eq (.int .i64 r)) rfl rfl rfl rfl (fun vs wj hJ hd K hK => ?_) ?_
    · have d2 : (Jo.Fact.wn (sg s1 a * ((10 ^ k1 : Nat) : Int)) 3000).P (vs 2) wj := hd 2 (by decide)
      have d5 : (Jo.Fact.wn (sg s2 b * ((10 ^ k2 : Nat) : Int)) 3000).P (vs 5) wj := hd 5 (by decide)
      simp only [Jo.putl, Jo.zd, Jo.ze, Act.put, Jo.za, Jo.zb, Jo.zc] at hK ⊢
      clear hd
      generalize vs 2 = u2 at hK d2 ⊢
      generalize vs 5 = u5 at hK d5 ⊢
      obtain ⟨s5, A5, n5, c5, rfl, p5, k5⟩ := d2
      obtain ⟨s6, A6, n6, c6, rfl, p6, k6⟩ := d5
      go_simp
      refine (wCmp p5.wr p6.wr HR.out).mono ?_
      rintro ee wk ⟨rfl, B⟩
      exact hK.out _ _ rfl B
    refine Jo.jd 7 (some 4) [(some 25, 6)] (Jo.Fact.eq (.int .i64 r)) rfl rfl rfl rfl (fun vs wj hJ hd K hK => ?_) ?_
    · simp only [Jo.putl, Jo.zd, Jo.ze, Act.put, Jo.za, Jo.zb, Jo.zc] at hK ⊢
      rw [show vs 6 = _ from hd 6 (by decide)] at hK ⊢
      clear hd
      go_simp
      exact hK.out _ _ rfl (Below.refl _ _)
    exact Jo.Steps.nil
  have d2 : (Jo.Fact.wn (sg s1 a * ((10 ^ k1 : Nat) : Int)) 3000).P (vs 2) w4 := hd 2 (by decide)
  have d5 : (Jo.Fact.wn (sg s2 b * ((10 ^ k2 : Nat) : Int)) 3000).P (vs 5) w4 := hd 5 (by decide)
  simp only [Jo.putl, Jo.zd, Jo.ze, Act.put, Jo.za, Jo.zb, Jo.zc]
  rw [show vs 0 = _ from hd 0 (by decide), show vs 1 = _ from hd 1 (by decide), show vs 3 = _ from hd 3 (by decide), show vs 4 = _ from hd 4 (by decide), show vs 6 = _ from hd 6 (by decide), show vs 7 = _ from hd 7 (by decide)]
  clear hd
  generalize vs 2 = u2 at d2 ⊢
  generalize vs 5 = u5 at d5 ⊢
  obtain ⟨s5, A5, n5, c5, rfl, _, _⟩ := d2
  obtain ⟨s6, A6, n6, c6, rfl, _, _⟩ := d5
  replace X1 := X1.below hJ
  replace X2 := X2.below hJ
  replace h1 := h1.below hJ
  replace h2 := h2.below hJ
  replace HB := Lib.hid (bt HB.out hJ)
  refine Jo.jdone (by kernel_rfl) ?_
  go_wp2
  go_ret
  exact ⟨rfl, HB.out⟩

/-- What Cmp answers. -/
def cmpC (p q : Bool) (x t y u : Int) : Int := if (p && q) = true then cmpI (x * ((10 ^ (t - min t u).toNat : Nat) : Int)) (y * ((10 ^ (u - min t u).toNat : Nat) : Int)) else 0
theorem may_tens {s : Bool} {n a : Nat} {t : Int} (hm : mayC s n a t = true) : -400 ≤ t ∧ t ≤ 400 := by
  unfold mayC at hm
  by_cases hn0 : n = 0
  · simp [hn0] at hm
    omega
  · rw [if_neg hn0] at hm
    simp only [Bool.and_eq_true, decide_eq_true_eq] at hm
    exact hm.2.1
theorem vCmpD {w : World} {A B : Option Addr} {n c a m d b : Nat} {s1 s2 : Bool} {t1 t2 r : Int} (h1 : Rd w A n c a) (h2 : Rd w B m d b) (hn : n ≤ 20) (hm : m ≤ 20) (hr : cmpC (mayC s1 n a t1) (mayC s2 m b t2) (sg s1 a) t1 (sg s2 b) t2 = r) :
    Calls Tryd.prog 18 #[.agg #[.bool s1, .slice A n c, .int .i64 t1], .agg #[.bool s2, .slice B m d, .int .i64 t2]] w (PI w r) := by
  subst hr
  unfold cmpC
  cases hm1 : mayC s1 n a t1
  · exact vCmpD_a h1 h2 hn hm hm1
  · cases hm2 : mayC s2 m b t2
    · exact vCmpD_b h1 h2 hn hm hm1 hm2
    · have h1' := may_tens hm1
      have h2' := may_tens hm2
      exact vCmpD_y h1 h2 hn hm hm1 hm2 h1' h2' rfl (k1 := (t1 - min t1 t2).toNat) (k2 := (t2 - min t1 t2).toNat) (by omega) (by omega) rfl
end Go.Proofs.YtpmakljahhhnfaaDoor

/-
  Contracts and words that the statement's proof rests on, several texts in one: Tc.
-/
import Derived.Below
import Derived.BigCall
import Derived.BigGuard
import Derived.BigQuiet
import Derived.Carry
import Derived.Deep.Draws
import Derived.Deep.MidRow
import Derived.Deep.QuietTactic
import Derived.Deep.RegionWith
import Derived.Laws.CopyOwn
import Derived.Laws.MakeOwn
import Derived.Laws.OwnMore
import Derived.Laws.Rows
import Derived.Lib.AppendIntMem
import Derived.Lib.Atoi
import Derived.Lib.AtoiErrMem
import Derived.Lib.BitFns
import Derived.Lib.FrozenHead2
import Derived.Lib.Hide
import Derived.Lib.ItoaMem
import Derived.Lib.ItoaNum
import Derived.Lib.OthersKept
import Derived.Lib.Repeat
import Derived.Lib.Strings
import Derived.Lib.TrimByte
import Derived.Lib.UnsafeStr
import Derived.RegionTactic
import Derived.Test.YtpmakljahhhnfaaDoorRows
import Derived.WalkKit
import Derived.WalkLawsBesides
import Derived.WalkSpells
import Derived.Test.YtpmakljahhhnfaaDoorYAao
import Derived.Test.YtpmakljahhhnfaaDoorYAaz
/-
  What decimal.May does.
-/
namespace Go.Proofs.YtpmakljahhhnfaaDoor
open Go.RowKit
set_option linter.unusedVariables false
set_option maxRecDepth 100000

/-- May it be, told of a sign, the count of limbs, the number and the power of ten? -/
def mayC (s : Bool) (n a : Nat) (t : Int) : Bool := mayB s n a && (if n = 0 then decide (t = 0) else (decide (-400 ≤ t) && decide (t ≤ 400)) && (decide (a < 10 ^ 40) && !decide (a % 10 = 0)))
theorem vPower40 {P : Nat} (hP : 10 ^ 40 = P) (w : World) : Calls Tryd.prog 47 #[.int .i64 40] w (P1N w 41 P) := hP ▸ vPower 40 w (by decide)
theorem vWithinE {t : Int} {p : Bool} (h : (decide (-400 ≤ t) && decide (t ≤ 400)) = p) (w : World) : Calls Tryd.prog 45 #[.int .i64 t] w (PB w p) := h ▸ (vWithin t w).mono fun e w' x => ⟨x.1, x.2 ▸ Below.refl _ _⟩
theorem vMultipleE {w : World} {A : Option Addr} {n c a : Nat} {p : Bool} (h : Rd w A n c a) (hn : n ≤ 1073741824) (hp : decide (a % 10 = 0) = p) : Calls Tryd.prog 48 #[.slice A n c] w (PB w p) := hp ▸ vMultiple h hn

set_option maxHeartbeats 2000000 in
theorem vMayD_no {w : World} {A : Option Addr} {n c a : Nat} {s : Bool} {t : Int} (h : Rd w A n c a) (hn : n ≤ 1073741824) (hm : mayB s n a = false) : Calls Tryd.prog 16 #[.agg #[.bool s, .slice A n c, .int .i64 t]] w (PB w false) := by
  go_enter Tryd.func16, Tryd.ntmps16
  go_upto_region 1 with (fail)
  have X1 := (Bo.newAt w (g := w.heap.size) (by simp) #[.bool s, .slice A n c, .int .i64 t] 43)
  have HB := Lib.hid (bel1 w (.cells #[.bool s, .slice A n c, .int .i64 t] 43))
  replace h := h.below HB.out
  generalize hW1 : (w.alloc (.cells #[.bool s, .slice A n c, .int .i64 t] 43)) = w1 at *
  clear hW1
  have xX10 := X1.at (i := 0) (v := .bool s) rfl
  have xX11 := X1.at (i := 1) (v := .slice A n c) rfl
  have xX12 := X1.at (i := 2) (v := .int .i64 t) rfl
  go_wp2_with fail
  refine (wMay h hm).mono ?_
  rintro ee w2 ⟨rfl, B⟩
  clear xX10 xX11 xX12
  replace X1 := X1.below B
  replace h := h.below B
  replace HB := Lib.hid (bt HB.out B)
  clear B
  go_wp2
  go_ret
  exact ⟨rfl, HB.out⟩

set_option maxHeartbeats 2000000 in
theorem vMayD_zero {w : World} {A : Option Addr} {c a : Nat} {s : Bool} {t : Int} {r : Bool} (h : Rd w A 0 c a) (hm : mayB s 0 a = true) (hr : (t == 0) = r) : Calls Tryd.prog 16 #[.agg #[.bool s, .slice A 0 c, .int .i64 t]] w (PB w r) := by
  have HR := Lib.hid hr
  clear hr
  go_enter Tryd.func16, Tryd.ntmps16
  go_upto_region 1 with (fail)
  have X1 := (Bo.newAt w (g := w.heap.size) (by simp) #[.bool s, .slice A 0 c, .int .i64 t] 43)
  have HB := Lib.hid (bel1 w (.cells #[.bool s, .slice A 0 c, .int .i64 t] 43))
  replace h := h.below HB.out
  generalize hW1 : (w.alloc (.cells #[.bool s, .slice A 0 c, .int .i64 t] 43)) = w1 at *
  clear hW1
  have xX10 := X1.at (i := 0) (v := .bool s) rfl
  have xX11 := X1.at (i := 1) (v := .slice A 0 c) rfl
  have xX12 := X1.at (i := 2) (v := .int .i64 t) rfl
  go_wp2_with fail
  refine (wMay h hm).mono ?_
  rintro ee w2 ⟨rfl, B⟩
  clear xX10 xX11 xX12
  replace X1 := X1.below B
  replace h := h.below B
  replace HB := Lib.hid (bt HB.out B)
  clear B
  have xX10 := X1.at (i := 0) (v := .bool s) rfl
  have xX11 := X1.at (i := 1) (v := .slice A 0 c) rfl
  have xX12 := X1.at (i := 2) (v := .int .i64 t) rfl
  go_wp2
  go_ret
  exact ⟨ret_bool HR.out, HB.out⟩

set_option maxHeartbeats 4000000 in
theorem vMayD_w {w : World} {A : Option Addr} {n c a : Nat} {s : Bool} {t : Int} (h : Rd w A n c a) (hn : n ≤ 1073741824) (hm : mayB s n a = true) (h0 : ((n : Int) == 0) = false) (hw : (decide (-400 ≤ t) && decide (t ≤ 400)) = false) : Calls Tryd.prog 16 #[.agg #[.bool s, .slice A n c, .int .i64 t]] w (PB w false) := by
  have HW := Lib.hid hw
  clear hw
  go_enter Tryd.func16, Tryd.ntmps16
  go_upto_region 1 with (fail)
  have X1 := (Bo.newAt w (g := w.heap.size) (by simp) #[.bool s, .slice A n c, .int .i64 t] 43)
  have HB := Lib.hid (bel1 w (.cells #[.bool s, .slice A n c, .int .i64 t] 43))
  replace h := h.below HB.out
  generalize hW1 : (w.alloc (.cells #[.bool s, .slice A n c, .int .i64 t] 43)) = w1 at *
  clear hW1
  have xX10 := X1.at (i := 0) (v := .bool s) rfl
  have xX11 := X1.at (i := 1) (v := .slice A n c) rfl
  have xX12 := X1.at (i := 2) (v := .int .i64 t) rfl
  go_wp2_with fail
  refine (wMay h hm).mono ?_
  rintro ee w2 ⟨rfl, B⟩
  clear xX10 xX11 xX12
  replace X1 := X1.below B
  replace h := h.below B
  replace HB := Lib.hid (bt HB.out B)
  clear B
  have xX10 := X1.at (i := 0) (v := .bool s) rfl
  have xX11 := X1.at (i := 1) (v := .slice A n c) rfl
  have xX12 := X1.at (i := 2) (v := .int .i64 t) rfl
  go_upto_region 5 with (fail)
  refine Jo.region_joint (T := [0, 1, 2, 3, 4, 5, 6, 7, 8, 9, 10, 11, 12, 13, 14, 15, 16, 17, 18]) (ds := [some 15, some 16, some 17, some 18, some 19, some 20, some 21, some 22, some 23, some 24, some 25, some 26, some 27, some 28, some 29, some 30, some 31, some 32, some 2]) (ls := [[], [0], [1], [2], [3], [3, 4], [3, 5], [3], [3, 6, 7], [3, 8], [3, 9], [10], [11], [11, 12], [11, 13], [11, 14], [11, 15], [11, 16], [17]]) (k := 19) (L := [(some 15, 0), (some 16, 1), (some 17, 2), (some 18, 3), (some 19, 4), (some 20, 5), (some 21, 6), (some 22, 7), (some 23, 8), (some 24, 9), (some 25, 10), (some 26, 11), (some 27, 12), (some 28, 13), (some 29, 14), (some 30, 15), (some 31, 16), (some 32, 17), (some 2, 18)]) (fuel := 0) (J := fun wj => Below (World.heap w2).size w2 wj)
    (F := [Jo.Fact.eq (.pointer (some ⟨w.heap.size, 2, none⟩)), Jo.Fact.eq (.int .i64 t), Jo.Fact.eq (.bool false), Jo.Fact.eq (.bool false), Jo.Fact.eq undef, Jo.Fact.eq undef, Jo.Fact.eq undef, Jo.Fact.eq undef, Jo.Fact.eq undef, Jo.Fact.eq undef, Jo.Fact.eq (.bool false), Jo.Fact.eq (.bool false), Jo.Fact.eq undef, Jo.Fact.eq undef, Jo.Fact.eq undef, Jo.Fact.eq undef, Jo.Fact.eq undef, Jo.Fact.eq (.bool false), Jo.Fact.eq (.bool false)])
    (by kernel_rfl) (by kernel_rfl) (by decide) rfl rfl (fun _ _ h b => bt h b) ((Below.refl _ _).drew) ?_ (fun vs w3 hJ hd => ?_)
  clear xX10 xX11 xX12
  · refine Jo.jcons (i := 0) (o := ⟨some 15, _, _, _, _, _⟩) (di := some 15) (L := []) (f := Jo.Fact.eq (.pointer (some ⟨w.heap.size, 2, none⟩))) rfl rfl rfl rfl (fun vs wj hJ hd K hK => ?_) ?_
    · clear hd
      simp only [Jo.putl, Jo.ze, Act.put, Jo.za, Jo.zb, Jo.zc] at hK ⊢
      go_simp
      exact hK.out _ _ rfl (Below.refl _ _)
    refine Jo.jcons (i := 1) (o := ⟨some 16, _, _, _, _, _⟩) (di := some 16) (L := [(some 15, 0)]) (f := Jo.Fact.eq (.int .i64 t)) rfl rfl rfl rfl (fun vs wj hJ hd K hK => ?_) ?_
    · have d0 : (Jo.Fact.eq (.pointer (some ⟨w.heap.size, 2, none⟩))).P (vs 0) wj := hd 0 (by decide)
      clear hd
      simp only [Jo.putl, Jo.zd, Jo.ze, Act.put, Jo.za, Jo.zb, Jo.zc] at hK ⊢
      generalize vs 0 = u0 at hK d0 ⊢
      replace d0 : u0 = _ := d0
      subst d0
      have xX10 : World.cell? wj ⟨w.heap.size, 0, none⟩ = some (.bool s) := (X1.below hJ).cell 0
      have xX11 : World.cell? wj ⟨w.heap.size, 1, none⟩ = some (.slice A n c) := (X1.below hJ).cell 1
      have xX12 : World.cell? wj ⟨w.heap.size, 2, none⟩ = some (.int .i64 t) := (X1.below hJ).cell 2
      go_simp
      exact hK.out _ _ rfl (Below.refl _ _)
    refine Jo.jcons (i := 2) (o := ⟨some 17, _, _, _, _, _⟩) (di := some 17) (L := [(some 16, 1)]) (f := Jo.Fact.eq (.bool false)) rfl rfl rfl rfl (fun vs wj hJ hd K hK => ?_) ?_
    · have d1 : (Jo.Fact.eq (.int .i64 t)).P (vs 1) wj := hd 1 (by decide)
      clear hd
      simp only [Jo.putl, Jo.zd, Jo.ze, Act.put, Jo.za, Jo.zb, Jo.zc] at hK ⊢
      generalize vs 1 = u1 at hK d1 ⊢
      replace d1 : u1 = _ := d1
      subst d1
      go_simp
      refine (vWithinE HW.out _).mono ?_
      rintro ee wk ⟨rfl, B⟩
      exact hK.out _ _ rfl B
    refine Jo.jcons (i := 3) (o := ⟨some 18, _, _, _, _, _⟩) (di := some 18) (L := [(some 17, 2)]) (f := Jo.Fact.eq (.bool false)) rfl rfl rfl rfl (fun vs wj hJ hd K hK => ?_) ?_
    · have d2 : (Jo.Fact.eq (.bool false)).P (vs 2) wj := hd 2 (by decide)
      clear hd
      simp only [Jo.putl, Jo.zd, Jo.ze, Act.put, Jo.za, Jo.zb, Jo.zc] at hK ⊢
      generalize vs 2 = u2 at hK d2 ⊢
      replace d2 : u2 = _ := d2
      subst d2
      go_simp
      exact hK.out _ _ rfl (Below.refl _ _)
    refine Jo.jcons (i := 4) (o := ⟨some 19, _, _, _, _, _⟩) (di := some 19) (L := [(some 18, 3)]) (f := Jo.Fact.eq undef) rfl rfl rfl rfl (fun vs wj hJ hd K hK => ?_) ?_
    · have d3 : (Jo.Fact.eq (.bool false)).P (vs 3) wj := hd 3 (by decide)
      clear hd
      simp only [Jo.putl, Jo.zd, Jo.ze, Act.put, Jo.za, Jo.zb, Jo.zc] at hK ⊢
      generalize vs 3 = u3 at hK d3 ⊢
      replace d3 : u3 = _ := d3
      subst d3
      go_simp
      exact hK.out _ _ rfl (Below.refl _ _)
    refine Jo.jcons (i := 5) (o := ⟨some 20, _, _, _, _, _⟩) (di := some 20) (L := [(some 18, 3), (some 19, 4)]) (f := Jo.Fact.eq undef) rfl rfl rfl rfl (fun vs wj hJ hd K hK => ?_) ?_
    · have d3 : (Jo.Fact.eq (.bool false)).P (vs 3) wj := hd 3 (by decide)
      have d4 : (Jo.Fact.eq undef).P (vs 4) wj := hd 4 (by decide)
      clear hd
      simp only [Jo.putl, Jo.zd, Jo.ze, Act.put, Jo.za, Jo.zb, Jo.zc] at hK ⊢
      generalize vs 3 = u3 at hK d3 ⊢
      generalize vs 4 = u4 at hK d4 ⊢
      replace d3 : u3 = _ := d3
      subst d3
      replace d4 : u4 = _ := d4
      subst d4
      go_simp
      exact hK.out _ _ rfl (Below.refl _ _)
    refine Jo.jcons (i := 6) (o := ⟨some 21, _, _, _, _, _⟩) (di := some 21) (L := [(some 18, 3), (some 20, 5)]) (f := Jo.Fact.eq undef) rfl rfl rfl rfl (fun vs wj hJ hd K hK => ?_) ?_
    · have d3 : (Jo.Fact.eq (.bool false)).P (vs 3) wj := hd 3 (by decide)
      have d5 : (Jo.Fact.eq undef).P (vs 5) wj := hd 5 (by decide)
      clear hd
      simp only [Jo.putl, Jo.zd, Jo.ze, Act.put, Jo.za, Jo.zb, Jo.zc] at hK ⊢
      generalize vs 3 = u3 at hK d3 ⊢
      generalize vs 5 = u5 at hK d5 ⊢
      replace d3 : u3 = _ := d3
      subst d3
      replace d5 : u5 = _ := d5
      subst d5
      go_simp
      exact hK.out _ _ rfl (Below.refl _ _)
    refine Jo.jcons (i := 7) (o := ⟨some 22, _, _, _, _, _⟩) (di := some 22) (L := [(some 18, 3)]) (f := Jo.Fact.eq undef) rfl rfl rfl rfl (fun vs wj hJ hd K hK => ?_) ?_
    · have d3 : (Jo.Fact.eq (.bool false)).P (vs 3) wj := hd 3 (by decide)
      clear hd
      simp only [Jo.putl, Jo.zd, Jo.ze, Act.put, Jo.za, Jo.zb, Jo.zc] at hK ⊢
      generalize vs 3 = u3 at hK d3 ⊢
      replace d3 : u3 = _ := d3
      subst d3
      go_simp
      exact hK.out _ _ rfl (Below.refl _ _)
    refine Jo.jcons (i := 8) (o := ⟨some 23, _, _, _, _, _⟩) (di := some 23) (L := [(some 18, 3), (some 21, 6), (some 22, 7)]) (f := Jo.Fact.eq undef) rfl rfl rfl rfl (fun vs wj hJ hd K hK => ?_) ?_
    · have d3 : (Jo.Fact.eq (.bool false)).P (vs 3) wj := hd 3 (by decide)
      have d6 : (Jo.Fact.eq undef).P (vs 6) wj := hd 6 (by decide)
      have d7 : (Jo.Fact.eq undef).P (vs 7) wj := hd 7 (by decide)
      clear hd
      simp only [Jo.putl, Jo.zd, Jo.ze, Act.put, Jo.za, Jo.zb, Jo.zc] at hK ⊢
      generalize vs 3 = u3 at hK d3 ⊢
      generalize vs 6 = u6 at hK d6 ⊢
      generalize vs 7 = u7 at hK d7 ⊢
      replace d3 : u3 = _ := d3
      subst d3
      replace d6 : u6 = _ := d6
      subst d6
      replace d7 : u7 = _ := d7
      subst d7
      go_simp
      exact hK.out _ _ rfl (Below.refl _ _)
    refine Jo.jcons (i := 9) (o := ⟨some 24, _, _, _, _, _⟩) (di := some 24) (L := [(some 18, 3), (some 23, 8)]) (f := Jo.Fact.eq undef) rfl rfl rfl rfl (fun vs wj hJ hd K hK => ?_) ?_
    · have d3 : (Jo.Fact.eq (.bool false)).P (vs 3) wj := hd 3 (by decide)
      have d8 : (Jo.Fact.eq undef).P (vs 8) wj := hd 8 (by decide)
      clear hd
      simp only [Jo.putl, Jo.zd, Jo.ze, Act.put, Jo.za, Jo.zb, Jo.zc] at hK ⊢
      generalize vs 3 = u3 at hK d3 ⊢
      generalize vs 8 = u8 at hK d8 ⊢
      replace d3 : u3 = _ := d3
      subst d3
      replace d8 : u8 = _ := d8
      subst d8
      go_simp
      exact hK.out _ _ rfl (Below.refl _ _)
    refine Jo.jcons (i := 10) (o := ⟨some 25, _, _, _, _, _⟩) (di := some 25) (L := [(some 18, 3), (some 24, 9)]) (f := Jo.Fact.eq (.bool false)) rfl rfl rfl rfl (fun vs wj hJ hd K hK => ?_) ?_
    · have d3 : (Jo.Fact.eq (.bool false)).P (vs 3) wj := hd 3 (by decide)
      have d9 : (Jo.Fact.eq undef).P (vs 9) wj := hd 9 (by decide)
      clear hd
      simp only [Jo.putl, Jo.zd, Jo.ze, Act.put, Jo.za, Jo.zb, Jo.zc] at hK ⊢
      generalize vs 3 = u3 at hK d3 ⊢
      generalize vs 9 = u9 at hK d9 ⊢
      replace d3 : u3 = _ := d3
      subst d3
      replace d9 : u9 = _ := d9
      subst d9
      go_simp
      exact hK.out _ _ rfl (Below.refl _ _)
    refine Jo.jcons (i := 11) (o := ⟨some 26, _, _, _, _, _⟩) (di := some 26) (L := [(some 25, 10)]) (f := Jo.Fact.eq (.bool false)) rfl rfl rfl rfl (fun vs wj hJ hd K hK => ?_) ?_
    · have d10 : (Jo.Fact.eq (.bool false)).P (vs 10) wj := hd 10 (by decide)
      clear hd
      simp only [Jo.putl, Jo.zd, Jo.ze, Act.put, Jo.za, Jo.zb, Jo.zc] at hK ⊢
      generalize vs 10 = u10 at hK d10 ⊢
      replace d10 : u10 = _ := d10
      subst d10
      go_simp
      exact hK.out _ _ rfl (Below.refl _ _)
    refine Jo.jcons (i := 12) (o := ⟨some 27, _, _, _, _, _⟩) (di := some 27) (L := [(some 26, 11)]) (f := Jo.Fact.eq undef) rfl rfl rfl rfl (fun vs wj hJ hd K hK => ?_) ?_
    · have d11 : (Jo.Fact.eq (.bool false)).P (vs 11) wj := hd 11 (by decide)
      clear hd
      simp only [Jo.putl, Jo.zd, Jo.ze, Act.put, Jo.za, Jo.zb, Jo.zc] at hK ⊢
      generalize vs 11 = u11 at hK d11 ⊢
      replace d11 : u11 = _ := d11
      subst d11
      go_simp
      exact hK.out _ _ rfl (Below.refl _ _)
    refine Jo.jcons (i := 13) (o := ⟨some 28, _, _, _, _, _⟩) (di := some 28) (L := [(some 26, 11), (some 27, 12)]) (f := Jo.Fact.eq undef) rfl rfl rfl rfl (fun vs wj hJ hd K hK => ?_) ?_
    · have d11 : (Jo.Fact.eq (.bool false)).P (vs 11) wj := hd 11 (by decide)
      have d12 : (Jo.Fact.eq undef).P (vs 12) wj := hd 12 (by decide)
      clear hd
      simp only [Jo.putl, Jo.zd, Jo.ze, Act.put, Jo.za, Jo.zb, Jo.zc] at hK ⊢
      generalize vs 11 = u11 at hK d11 ⊢
      generalize vs 12 = u12 at hK d12 ⊢
      replace d11 : u11 = _ := d11
      subst d11
      replace d12 : u12 = _ := d12
      subst d12
      go_simp
      exact hK.out _ _ rfl (Below.refl _ _)
    refine Jo.jcons (i := 14) (o := ⟨some 29, _, _, _, _, _⟩) (di := some 29) (L := [(some 26, 11), (some 28, 13)]) (f := Jo.Fact.eq undef) rfl rfl rfl rfl (fun vs wj hJ hd K hK => ?_) ?_
    · have d11 : (Jo.Fact.eq (.bool false)).P (vs 11) wj := hd 11 (by decide)
      have d13 : (Jo.Fact.eq undef).P (vs 13) wj := hd 13 (by decide)
      clear hd
      simp only [Jo.putl, Jo.zd, Jo.ze, Act.put, Jo.za, Jo.zb, Jo.zc] at hK ⊢
      generalize vs 11 = u11 at hK d11 ⊢
      generalize vs 13 = u13 at hK d13 ⊢
      replace d11 : u11 = _ := d11
      subst d11
      replace d13 : u13 = _ := d13
      subst d13
      go_simp
      exact hK.out _ _ rfl (Below.refl _ _)
    refine Jo.jcons (i := 15) (o := ⟨some 30, _, _, _, _, _⟩) (di := some 30) (L := [(some 26, 11), (some 29, 14)]) (f := Jo.Fact.eq undef) rfl rfl rfl rfl (fun vs wj hJ hd K hK => ?_) ?_
    · have d11 : (Jo.Fact.eq (.bool false)).P (vs 11) wj := hd 11 (by decide)
      have d14 : (Jo.Fact.eq undef).P (vs 14) wj := hd 14 (by decide)
      clear hd
      simp only [Jo.putl, Jo.zd, Jo.ze, Act.put, Jo.za, Jo.zb, Jo.zc] at hK ⊢
      generalize vs 11 = u11 at hK d11 ⊢
      generalize vs 14 = u14 at hK d14 ⊢
      replace d11 : u11 = _ := d11
      subst d11
      replace d14 : u14 = _ := d14
      subst d14
      go_simp
      exact hK.out _ _ rfl (Below.refl _ _)
    refine Jo.jcons (i := 16) (o := ⟨some 31, _, _, _, _, _⟩) (di := some 31) (L := [(some 26, 11), (some 30, 15)]) (f := Jo.Fact.eq undef) rfl rfl rfl rfl (fun vs wj hJ hd K hK => ?_) ?_
    · have d11 : (Jo.Fact.eq (.bool false)).P (vs 11) wj := hd 11 (by decide)
      have d15 : (Jo.Fact.eq undef).P (vs 15) wj := hd 15 (by decide)
      clear hd
      simp only [Jo.putl, Jo.zd, Jo.ze, Act.put, Jo.za, Jo.zb, Jo.zc] at hK ⊢
      generalize vs 11 = u11 at hK d11 ⊢
      generalize vs 15 = u15 at hK d15 ⊢
      replace d11 : u11 = _ := d11
      subst d11
      replace d15 : u15 = _ := d15
      subst d15
      go_simp
      exact hK.out _ _ rfl (Below.refl _ _)
    refine Jo.jcons (i := 17) (o := ⟨some 32, _, _, _, _, _⟩) (di := some 32) (L := [(some 26, 11), (some 31, 16)]) (f := Jo.Fact.eq (.bool false)) rfl rfl rfl rfl (fun vs wj hJ hd K hK => ?_) ?_
    · have d11 : (Jo.Fact.eq (.bool false)).P (vs 11) wj := hd 11 (by decide)
      have d16 : (Jo.Fact.eq undef).P (vs 16) wj := hd 16 (by decide)
      clear hd
      simp only [Jo.putl, Jo.zd, Jo.ze, Act.put, Jo.za, Jo.zb, Jo.zc] at hK ⊢
      generalize vs 11 = u11 at hK d11 ⊢
      generalize vs 16 = u16 at hK d16 ⊢
      replace d11 : u11 = _ := d11
      subst d11
      replace d16 : u16 = _ := d16
      subst d16
      go_simp
      exact hK.out _ _ rfl (Below.refl _ _)
    refine Jo.jcons (i := 18) (o := ⟨some 2, _, _, _, _, _⟩) (di := some 2) (L := [(some 32, 17)]) (f := Jo.Fact.eq (.bool false)) rfl rfl rfl rfl (fun vs wj hJ hd K hK => ?_) ?_
    · have d17 : (Jo.Fact.eq (.bool false)).P (vs 17) wj := hd 17 (by decide)
      clear hd
      simp only [Jo.putl, Jo.zd, Jo.ze, Act.put, Jo.za, Jo.zb, Jo.zc] at hK ⊢
      generalize vs 17 = u17 at hK d17 ⊢
      replace d17 : u17 = _ := d17
      subst d17
      go_simp
      exact hK.out _ _ rfl (Below.refl _ _)
    exact Jo.Steps.nil
  have d0 : (Jo.Fact.eq (.pointer (some ⟨w.heap.size, 2, none⟩))).P (vs 0) w3 := hd 0 (by decide)
  have d1 : (Jo.Fact.eq (.int .i64 t)).P (vs 1) w3 := hd 1 (by decide)
  have d2 : (Jo.Fact.eq (.bool false)).P (vs 2) w3 := hd 2 (by decide)
  have d3 : (Jo.Fact.eq (.bool false)).P (vs 3) w3 := hd 3 (by decide)
  have d4 : (Jo.Fact.eq undef).P (vs 4) w3 := hd 4 (by decide)
  have d5 : (Jo.Fact.eq undef).P (vs 5) w3 := hd 5 (by decide)
  have d6 : (Jo.Fact.eq undef).P (vs 6) w3 := hd 6 (by decide)
  have d7 : (Jo.Fact.eq undef).P (vs 7) w3 := hd 7 (by decide)
  have d8 : (Jo.Fact.eq undef).P (vs 8) w3 := hd 8 (by decide)
  have d9 : (Jo.Fact.eq undef).P (vs 9) w3 := hd 9 (by decide)
  have d10 : (Jo.Fact.eq (.bool false)).P (vs 10) w3 := hd 10 (by decide)
  have d11 : (Jo.Fact.eq (.bool false)).P (vs 11) w3 := hd 11 (by decide)
  have d12 : (Jo.Fact.eq undef).P (vs 12) w3 := hd 12 (by decide)
  have d13 : (Jo.Fact.eq undef).P (vs 13) w3 := hd 13 (by decide)
  have d14 : (Jo.Fact.eq undef).P (vs 14) w3 := hd 14 (by decide)
  have d15 : (Jo.Fact.eq undef).P (vs 15) w3 := hd 15 (by decide)
  have d16 : (Jo.Fact.eq undef).P (vs 16) w3 := hd 16 (by decide)
  have d17 : (Jo.Fact.eq (.bool false)).P (vs 17) w3 := hd 17 (by decide)
  have d18 : (Jo.Fact.eq (.bool false)).P (vs 18) w3 := hd 18 (by decide)
  clear hd
  simp only [Jo.putl, Jo.zd, Jo.ze, Act.put, Jo.za, Jo.zb, Jo.zc]
  generalize vs 0 = u0 at d0 ⊢
  generalize vs 1 = u1 at d1 ⊢
  generalize vs 2 = u2 at d2 ⊢
  generalize vs 3 = u3 at d3 ⊢
  generalize vs 4 = u4 at d4 ⊢
  generalize vs 5 = u5 at d5 ⊢
  generalize vs 6 = u6 at d6 ⊢
  generalize vs 7 = u7 at d7 ⊢
  generalize vs 8 = u8 at d8 ⊢
  generalize vs 9 = u9 at d9 ⊢
  generalize vs 10 = u10 at d10 ⊢
  generalize vs 11 = u11 at d11 ⊢
  generalize vs 12 = u12 at d12 ⊢
  generalize vs 13 = u13 at d13 ⊢
  generalize vs 14 = u14 at d14 ⊢
  generalize vs 15 = u15 at d15 ⊢
  generalize vs 16 = u16 at d16 ⊢
  generalize vs 17 = u17 at d17 ⊢
  generalize vs 18 = u18 at d18 ⊢
  clear vs
  replace d0 : u0 = _ := d0
  subst d0
  replace d1 : u1 = _ := d1
  subst d1
  replace d2 : u2 = _ := d2
  subst d2
  replace d3 : u3 = _ := d3
  subst d3
  replace d4 : u4 = _ := d4
  subst d4
  replace d5 : u5 = _ := d5
  subst d5
  replace d6 : u6 = _ := d6
  subst d6
  replace d7 : u7 = _ := d7
  subst d7
  replace d8 : u8 = _ := d8
  subst d8
  replace d9 : u9 = _ := d9
  subst d9
  replace d10 : u10 = _ := d10
  subst d10
  replace d11 : u11 = _ := d11
  subst d11
  replace d12 : u12 = _ := d12
  subst d12
  replace d13 : u13 = _ := d13
  subst d13
  replace d14 : u14 = _ := d14
  subst d14
  replace d15 : u15 = _ := d15
  subst d15
  replace d16 : u16 = _ := d16
  subst d16
  replace d17 : u17 = _ := d17
  subst d17
  replace d18 : u18 = _ := d18
  subst d18
  replace X1 := X1.below hJ
  replace h := h.below hJ
  replace HB := Lib.hid (bt HB.out hJ)
  refine Jo.jdone (by kernel_rfl) ?_
  go_wp2
  go_ret
  exact ⟨rfl, HB.out⟩

set_option maxHeartbeats 4000000 in
theorem vMayD_l {w : World} {A : Option Addr} {n c a : Nat} {s : Bool} {t : Int} {P : Nat} {z : Int} (h : Rd w A n c a) (hn : n ≤ 1073741824) (hm : mayB s n a = true) (h0 : ((n : Int) == 0) = false) (hw : (decide (-400 ≤ t) && decide (t ≤ 400)) = true) (hP : 10 ^ 40 = P) (hz1 : cmpI (a : Int) (P : Int) = z) (hz0 : decide (z < 0) = false) : Calls Tryd.prog 16 #[.agg #[.bool s, .slice A n c, .int .i64 t]] w (PB w false) := by
  have HP := Lib.hid hP
  have H1 := Lib.hid hz1
  clear hP hz1
  have HW := Lib.hid hw
  clear hw
  go_enter Tryd.func16, Tryd.ntmps16
  go_upto_region 1 with (fail)
  have X1 := (Bo.newAt w (g := w.heap.size) (by simp) #[.bool s, .slice A n c, .int .i64 t] 43)
  have HB := Lib.hid (bel1 w (.cells #[.bool s, .slice A n c, .int .i64 t] 43))
  replace h := h.below HB.out
  generalize hW1 : (w.alloc (.cells #[.bool s, .slice A n c, .int .i64 t] 43)) = w1 at *
  clear hW1
  have xX10 := X1.at (i := 0) (v := .bool s) rfl
  have xX11 := X1.at (i := 1) (v := .slice A n c) rfl
  have xX12 := X1.at (i := 2) (v := .int .i64 t) rfl
  go_wp2_with fail
  refine (wMay h hm).mono ?_
  rintro ee w2 ⟨rfl, B⟩
  clear xX10 xX11 xX12
  replace X1 := X1.below B
  replace h := h.below B
  replace HB := Lib.hid (bt HB.out B)
  clear B
  have xX10 := X1.at (i := 0) (v := .bool s) rfl
  have xX11 := X1.at (i := 1) (v := .slice A n c) rfl
  have xX12 := X1.at (i := 2) (v := .int .i64 t) rfl
  go_upto_region 5 with (fail)
  refine Jo.region_joint (T := [0, 1, 2, 3, 4, 5, 6, 7, 8, 9, 10, 11, 12, 13, 14, 15, 16, 17, 18]) (ds := [some 15, some 16, some 17, some 18, some 19, some 20, some 21, some 22, some 23, some 24, some 25, some 26, some 27, some 28, some 29, some 30, some 31, some 32, some 2]) (ls := [[], [0], [1], [2], [3], [3, 4], [3, 5], [3], [3, 6, 7], [3, 8], [3, 9], [10], [11], [11, 12], [11, 13], [11, 14], [11, 15], [11, 16], [17]]) (k := 19) (L := [(some 15, 0), (some 16, 1), (some 17, 2), (some 18, 3), (some 19, 4), (some 20, 5), (some 21, 6), (some 22, 7), (some 23, 8), (some 24, 9), (some 25, 10), (some 26, 11), (some 27, 12), (some 28, 13), (some 29, 14), (some 30, 15), (some 31, 16), (some 32, 17), (some 2, 18)]) (fuel := 0) (J := fun wj => Below (World.heap w2).size w2 wj)
    (F := [Jo.Fact.eq (.pointer (some ⟨w.heap.size, 2, none⟩)), Jo.Fact.eq (.int .i64 t), Jo.Fact.eq (.bool true), Jo.Fact.eq (.bool true), Jo.Fact.eq (.pointer (some ⟨w.heap.size, 0, none⟩)), Jo.Fact.eq (.pointer (some ⟨w.heap.size, 1, none⟩)), Jo.Fact.eq (.slice A n c), Jo.Fact.nm P 41, Jo.Fact.eq (.int .i64 z), Jo.Fact.eq (.bool false), Jo.Fact.eq (.bool false), Jo.Fact.eq (.bool false), Jo.Fact.eq undef, Jo.Fact.eq undef, Jo.Fact.eq undef, Jo.Fact.eq undef, Jo.Fact.eq undef, Jo.Fact.eq (.bool false), Jo.Fact.eq (.bool false)])
    (by kernel_rfl) (by kernel_rfl) (by decide) rfl rfl (fun _ _ h b => bt h b) ((Below.refl _ _).drew) ?_ (fun vs w3 hJ hd => ?_)
  clear xX10 xX11 xX12
  · refine Jo.jcons (i := 0) (o := ⟨some 15, _, _, _, _, _⟩) (di := some 15) (L := []) (f := Jo.Fact.eq (.pointer (some ⟨w.heap.size, 2, none⟩))) rfl rfl rfl rfl (fun vs wj hJ hd K hK => ?_) ?_
    · clear hd
      simp only [Jo.putl, Jo.ze, Act.put, Jo.za, Jo.zb, Jo.zc] at hK ⊢
      go_simp
      exact hK.out _ _ rfl (Below.refl _ _)
    refine Jo.jcons (i := 1) (o := ⟨some 16, _, _, _, _, _⟩) (di := some 16) (L := [(some 15, 0)]) (f := Jo.Fact.eq (.int .i64 t)) rfl rfl rfl rfl (fun vs wj hJ hd K hK => ?_) ?_
    · have d0 : (Jo.Fact.eq (.pointer (some ⟨w.heap.size, 2, none⟩))).P (vs 0) wj := hd 0 (by decide)
      clear hd
      simp only [Jo.putl, Jo.zd, Jo.ze, Act.put, Jo.za, Jo.zb, Jo.zc] at hK ⊢
      generalize vs 0 = u0 at hK d0 ⊢
      replace d0 : u0 = _ := d0
      subst d0
      have xX10 : World.cell? wj ⟨w.heap.size, 0, none⟩ = some (.bool s) := (X1.below hJ).cell 0
      have xX11 : World.cell? wj ⟨w.heap.size, 1, none⟩ = some (.slice A n c) := (X1.below hJ).cell 1
      have xX12 : World.cell? wj ⟨w.heap.size, 2, none⟩ = some (.int .i64 t) := (X1.below hJ).cell 2
      go_simp
      exact hK.out _ _ rfl (Below.refl _ _)
    refine Jo.jcons (i := 2) (o := ⟨some 17, _, _, _, _, _⟩) (di := some 17) (L := [(some 16, 1)]) (f := Jo.Fact.eq (.bool true)) rfl rfl rfl rfl (fun vs wj hJ hd K hK => ?_) ?_
    · have d1 : (Jo.Fact.eq (.int .i64 t)).P (vs 1) wj := hd 1 (by decide)
      clear hd
      simp only [Jo.putl, Jo.zd, Jo.ze, Act.put, Jo.za, Jo.zb, Jo.zc] at hK ⊢
      generalize vs 1 = u1 at hK d1 ⊢
      replace d1 : u1 = _ := d1
      subst d1
      go_simp
      refine (vWithinE HW.out _).mono ?_
      rintro ee wk ⟨rfl, B⟩
      exact hK.out _ _ rfl B
    refine Jo.jcons (i := 3) (o := ⟨some 18, _, _, _, _, _⟩) (di := some 18) (L := [(some 17, 2)]) (f := Jo.Fact.eq (.bool true)) rfl rfl rfl rfl (fun vs wj hJ hd K hK => ?_) ?_
    · have d2 : (Jo.Fact.eq (.bool true)).P (vs 2) wj := hd 2 (by decide)
      clear hd
      simp only [Jo.putl, Jo.zd, Jo.ze, Act.put, Jo.za, Jo.zb, Jo.zc] at hK ⊢
      generalize vs 2 = u2 at hK d2 ⊢
      replace d2 : u2 = _ := d2
      subst d2
      go_simp
      exact hK.out _ _ rfl (Below.refl _ _)
    refine Jo.jcons (i := 4) (o := ⟨some 19, _, _, _, _, _⟩) (di := some 19) (L := [(some 18, 3)]) (f := Jo.Fact.eq (.pointer (some ⟨w.heap.size, 0, none⟩))) rfl rfl rfl rfl (fun vs wj hJ hd K hK => ?_) ?_
    · have d3 : (Jo.Fact.eq (.bool true)).P (vs 3) wj := hd 3 (by decide)
      clear hd
      simp only [Jo.putl, Jo.zd, Jo.ze, Act.put, Jo.za, Jo.zb, Jo.zc] at hK ⊢
      generalize vs 3 = u3 at hK d3 ⊢
      replace d3 : u3 = _ := d3
      subst d3
      go_simp
      exact hK.out _ _ rfl (Below.refl _ _)
    refine Jo.jcons (i := 5) (o := ⟨some 20, _, _, _, _, _⟩) (di := some 20) (L := [(some 18, 3), (some 19, 4)]) (f := Jo.Fact.eq (.pointer (some ⟨w.heap.size, 1, none⟩))) rfl rfl rfl rfl (fun vs wj hJ hd K hK => ?_) ?_
    · have d3 : (Jo.Fact.eq (.bool true)).P (vs 3) wj := hd 3 (by decide)
      have d4 : (Jo.Fact.eq (.pointer (some ⟨w.heap.size, 0, none⟩))).P (vs 4) wj := hd 4 (by decide)
      clear hd
      simp only [Jo.putl, Jo.zd, Jo.ze, Act.put, Jo.za, Jo.zb, Jo.zc] at hK ⊢
      generalize vs 3 = u3 at hK d3 ⊢
      generalize vs 4 = u4 at hK d4 ⊢
      replace d3 : u3 = _ := d3
      subst d3
      replace d4 : u4 = _ := d4
      subst d4
      go_simp
      exact hK.out _ _ rfl (Below.refl _ _)
    refine Jo.jcons (i := 6) (o := ⟨some 21, _, _, _, _, _⟩) (di := some 21) (L := [(some 18, 3), (some 20, 5)]) (f := Jo.Fact.eq (.slice A n c)) rfl rfl rfl rfl (fun vs wj hJ hd K hK => ?_) ?_
    · have d3 : (Jo.Fact.eq (.bool true)).P (vs 3) wj := hd 3 (by decide)
      have d5 : (Jo.Fact.eq (.pointer (some ⟨w.heap.size, 1, none⟩))).P (vs 5) wj := hd 5 (by decide)
      clear hd
      simp only [Jo.putl, Jo.zd, Jo.ze, Act.put, Jo.za, Jo.zb, Jo.zc] at hK ⊢
      generalize vs 3 = u3 at hK d3 ⊢
      generalize vs 5 = u5 at hK d5 ⊢
      replace d3 : u3 = _ := d3
      subst d3
      replace d5 : u5 = _ := d5
      subst d5
      have xX10 : World.cell? wj ⟨w.heap.size, 0, none⟩ = some (.bool s) := (X1.below hJ).cell 0
      have xX11 : World.cell? wj ⟨w.heap.size, 1, none⟩ = some (.slice A n c) := (X1.below hJ).cell 1
      have xX12 : World.cell? wj ⟨w.heap.size, 2, none⟩ = some (.int .i64 t) := (X1.below hJ).cell 2
      go_simp
      exact hK.out _ _ rfl (Below.refl _ _)
    refine Jo.jcons (i := 7) (o := ⟨some 22, _, _, _, _, _⟩) (di := some 22) (L := [(some 18, 3)]) (f := Jo.Fact.nm P 41) rfl rfl rfl rfl (fun vs wj hJ hd K hK => ?_) ?_
    · have d3 : (Jo.Fact.eq (.bool true)).P (vs 3) wj := hd 3 (by decide)
      clear hd
      simp only [Jo.putl, Jo.zd, Jo.ze, Act.put, Jo.za, Jo.zb, Jo.zc] at hK ⊢
      generalize vs 3 = u3 at hK d3 ⊢
      replace d3 : u3 = _ := d3
      subst d3
      go_simp
      refine (vPower40 HP.out _).mono ?_
      rintro ee wk ⟨A3, n3, c3, rfl, h3, k3, B⟩
      exact hK.out _ _ ⟨_, _, _, rfl, h3.nm, k3⟩ B
    refine Jo.jcons (i := 8) (o := ⟨some 23, _, _, _, _, _⟩) (di := some 23) (L := [(some 18, 3), (some 21, 6), (some 22, 7)]) (f := Jo.Fact.eq (.int .i64 z)) rfl rfl rfl rfl (fun vs wj hJ hd K hK => ?_) ?_
    · have d3 : (Jo.Fact.eq (.bool true)).P (vs 3) wj := hd 3 (by decide)
      have d6 : (Jo.Fact.eq (.slice A n c)).P (vs 6) wj := hd 6 (by decide)
      have d7 : (Jo.Fact.nm P 41).P (vs 7) wj := hd 7 (by decide)
      clear hd
      simp only [Jo.putl, Jo.zd, Jo.ze, Act.put, Jo.za, Jo.zb, Jo.zc] at hK ⊢
      generalize vs 3 = u3 at hK d3 ⊢
      generalize vs 6 = u6 at hK d6 ⊢
      generalize vs 7 = u7 at hK d7 ⊢
      replace d3 : u3 = _ := d3
      subst d3
      replace d6 : u6 = _ := d6
      subst d6
      obtain ⟨A7, n7, c7, rfl, h7, k7⟩ := d7
      go_simp
      refine (vCmpE (h.below hJ) h7.rd H1.out).mono ?_
      rintro ee wk ⟨rfl, B⟩
      exact hK.out _ _ rfl B
    refine Jo.jcons (i := 9) (o := ⟨some 24, _, _, _, _, _⟩) (di := some 24) (L := [(some 18, 3), (some 23, 8)]) (f := Jo.Fact.eq (.bool false)) rfl rfl rfl rfl (fun vs wj hJ hd K hK => ?_) ?_
    · have d3 : (Jo.Fact.eq (.bool true)).P (vs 3) wj := hd 3 (by decide)
      have d8 : (Jo.Fact.eq (.int .i64 z)).P (vs 8) wj := hd 8 (by decide)
      clear hd
      simp only [Jo.putl, Jo.zd, Jo.ze, Act.put, Jo.za, Jo.zb, Jo.zc] at hK ⊢
      generalize vs 3 = u3 at hK d3 ⊢
      generalize vs 8 = u8 at hK d8 ⊢
      replace d3 : u3 = _ := d3
      subst d3
      replace d8 : u8 = _ := d8
      subst d8
      go_simp
      exact hK.out _ _ (by first | rfl | simp [hz0] | (rw [hz0]; rfl)) (Below.refl _ _)
    refine Jo.jcons (i := 10) (o := ⟨some 25, _, _, _, _, _⟩) (di := some 25) (L := [(some 18, 3), (some 24, 9)]) (f := Jo.Fact.eq (.bool false)) rfl rfl rfl rfl (fun vs wj hJ hd K hK => ?_) ?_
    · have d3 : (Jo.Fact.eq (.bool true)).P (vs 3) wj := hd 3 (by decide)
      have d9 : (Jo.Fact.eq (.bool false)).P (vs 9) wj := hd 9 (by decide)
      clear hd
      simp only [Jo.putl, Jo.zd, Jo.ze, Act.put, Jo.za, Jo.zb, Jo.zc] at hK ⊢
      generalize vs 3 = u3 at hK d3 ⊢
      generalize vs 9 = u9 at hK d9 ⊢
      replace d3 : u3 = _ := d3
      subst d3
      replace d9 : u9 = _ := d9
      subst d9
      go_simp
      exact hK.out _ _ rfl (Below.refl _ _)
    refine Jo.jcons (i := 11) (o := ⟨some 26, _, _, _, _, _⟩) (di := some 26) (L := [(some 25, 10)]) (f := Jo.Fact.eq (.bool false)) rfl rfl rfl rfl (fun vs wj hJ hd K hK => ?_) ?_
    · have d10 : (Jo.Fact.eq (.bool false)).P (vs 10) wj := hd 10 (by decide)
      clear hd
      simp only [Jo.putl, Jo.zd, Jo.ze, Act.put, Jo.za, Jo.zb, Jo.zc] at hK ⊢
      generalize vs 10 = u10 at hK d10 ⊢
      replace d10 : u10 = _ := d10
      subst d10
      go_simp
      exact hK.out _ _ rfl (Below.refl _ _)
    refine Jo.jcons (i := 12) (o := ⟨some 27, _, _, _, _, _⟩) (di := some 27) (L := [(some 26, 11)]) (f := Jo.Fact.eq undef) rfl rfl rfl rfl (fun vs wj hJ hd K hK => ?_) ?_
    · have d11 : (Jo.Fact.eq (.bool false)).P (vs 11) wj := hd 11 (by decide)
      clear hd
      simp only [Jo.putl, Jo.zd, Jo.ze, Act.put, Jo.za, Jo.zb, Jo.zc] at hK ⊢
      generalize vs 11 = u11 at hK d11 ⊢
      replace d11 : u11 = _ := d11
      subst d11
      go_simp
      exact hK.out _ _ rfl (Below.refl _ _)
    refine Jo.jcons (i := 13) (o := ⟨some 28, _, _, _, _, _⟩) (di := some 28) (L := [(some 26, 11), (some 27, 12)]) (f := Jo.Fact.eq undef) rfl rfl rfl rfl (fun vs wj hJ hd K hK => ?_) ?_
    · have d11 : (Jo.Fact.eq (.bool false)).P (vs 11) wj := hd 11 (by decide)
      have d12 : (Jo.Fact.eq undef).P (vs 12) wj := hd 12 (by decide)
      clear hd
      simp only [Jo.putl, Jo.zd, Jo.ze, Act.put, Jo.za, Jo.zb, Jo.zc] at hK ⊢
      generalize vs 11 = u11 at hK d11 ⊢
      generalize vs 12 = u12 at hK d12 ⊢
      replace d11 : u11 = _ := d11
      subst d11
      replace d12 : u12 = _ := d12
      subst d12
      go_simp
      exact hK.out _ _ rfl (Below.refl _ _)
    refine Jo.jcons (i := 14) (o := ⟨some 29, _, _, _, _, _⟩) (di := some 29) (L := [(some 26, 11), (some 28, 13)]) (f := Jo.Fact.eq undef) rfl rfl rfl rfl (fun vs wj hJ hd K hK => ?_) ?_
    · have d11 : (Jo.Fact.eq (.bool false)).P (vs 11) wj := hd 11 (by decide)
      have d13 : (Jo.Fact.eq undef).P (vs 13) wj := hd 13 (by decide)
      clear hd
      simp only [Jo.putl, Jo.zd, Jo.ze, Act.put, Jo.za, Jo.zb, Jo.zc] at hK ⊢
      generalize vs 11 = u11 at hK d11 ⊢
      generalize vs 13 = u13 at hK d13 ⊢
      replace d11 : u11 = _ := d11
      subst d11
      replace d13 : u13 = _ := d13
      subst d13
      go_simp
      exact hK.out _ _ rfl (Below.refl _ _)
    refine Jo.jcons (i := 15) (o := ⟨some 30, _, _, _, _, _⟩) (di := some 30) (L := [(some 26, 11), (some 29, 14)]) (f := Jo.Fact.eq undef) rfl rfl rfl rfl (fun vs wj hJ hd K hK => ?_) ?_
    · have d11 : (Jo.Fact.eq (.bool false)).P (vs 11) wj := hd 11 (by decide)
      have d14 : (Jo.Fact.eq undef).P (vs 14) wj := hd 14 (by decide)
      clear hd
      simp only [Jo.putl, Jo.zd, Jo.ze, Act.put, Jo.za, Jo.zb, Jo.zc] at hK ⊢
      generalize vs 11 = u11 at hK d11 ⊢
      generalize vs 14 = u14 at hK d14 ⊢
      replace d11 : u11 = _ := d11
      subst d11
      replace d14 : u14 = _ := d14
      subst d14
      go_simp
      exact hK.out _ _ rfl (Below.refl _ _)
    refine Jo.jcons (i := 16) (o := ⟨some 31, _, _, _, _, _⟩) (di := some 31) (L := [(some 26, 11), (some 30, 15)]) (f := Jo.Fact.eq undef) rfl rfl rfl rfl (fun vs wj hJ hd K hK => ?_) ?_
    · have d11 : (Jo.Fact.eq (.bool false)).P (vs 11) wj := hd 11 (by decide)
      have d15 : (Jo.Fact.eq undef).P (vs 15) wj := hd 15 (by decide)
      clear hd
      simp only [Jo.putl, Jo.zd, Jo.ze, Act.put, Jo.za, Jo.zb, Jo.zc] at hK ⊢
      generalize vs 11 = u11 at hK d11 ⊢
      generalize vs 15 = u15 at hK d15 ⊢
      replace d11 : u11 = _ := d11
      subst d11
      replace d15 : u15 = _ := d15
      subst d15
      go_simp
      exact hK.out _ _ rfl (Below.refl _ _)
    refine Jo.jcons (i := 17) (o := ⟨some 32, _, _, _, _, _⟩) (di := some 32) (L := [(some 26, 11), (some 31, 16)]) (f := Jo.Fact.eq (.bool false)) rfl rfl rfl rfl (fun vs wj hJ hd K hK => ?_) ?_
    · have d11 : (Jo.Fact.eq (.bool false)).P (vs 11) wj := hd 11 (by decide)
      have d16 : (Jo.Fact.eq undef).P (vs 16) wj := hd 16 (by decide)
      clear hd
      simp only [Jo.putl, Jo.zd, Jo.ze, Act.put, Jo.za, Jo.zb, Jo.zc] at hK ⊢
      generalize vs 11 = u11 at hK d11 ⊢
      generalize vs 16 = u16 at hK d16 ⊢
      replace d11 : u11 = _ := d11
      subst d11
      replace d16 : u16 = _ := d16
      subst d16
      go_simp
      exact hK.out _ _ rfl (Below.refl _ _)
    refine Jo.jcons (i := 18) (o := ⟨some 2, _, _, _, _, _⟩) (di := some 2) (L := [(some 32, 17)]) (f := Jo.Fact.eq (.bool false)) rfl rfl rfl rfl (fun vs wj hJ hd K hK => ?_) ?_
    · have d17 : (Jo.Fact.eq (.bool false)).P (vs 17) wj := hd 17 (by decide)
      clear hd
      simp only [Jo.putl, Jo.zd, Jo.ze, Act.put, Jo.za, Jo.zb, Jo.zc] at hK ⊢
      generalize vs 17 = u17 at hK d17 ⊢
      replace d17 : u17 = _ := d17
      subst d17
      go_simp
      exact hK.out _ _ rfl (Below.refl _ _)
    exact Jo.Steps.nil
  have d0 : (Jo.Fact.eq (.pointer (some ⟨w.heap.size, 2, none⟩))).P (vs 0) w3 := hd 0 (by decide)
  have d1 : (Jo.Fact.eq (.int .i64 t)).P (vs 1) w3 := hd 1 (by decide)
  have d2 : (Jo.Fact.eq (.bool true)).P (vs 2) w3 := hd 2 (by decide)
  have d3 : (Jo.Fact.eq (.bool true)).P (vs 3) w3 := hd 3 (by decide)
  have d4 : (Jo.Fact.eq (.pointer (some ⟨w.heap.size, 0, none⟩))).P (vs 4) w3 := hd 4 (by decide)
  have d5 : (Jo.Fact.eq (.pointer (some ⟨w.heap.size, 1, none⟩))).P (vs 5) w3 := hd 5 (by decide)
  have d6 : (Jo.Fact.eq (.slice A n c)).P (vs 6) w3 := hd 6 (by decide)
  have d7 : (Jo.Fact.nm P 41).P (vs 7) w3 := hd 7 (by decide)
  have d8 : (Jo.Fact.eq (.int .i64 z)).P (vs 8) w3 := hd 8 (by decide)
  have d9 : (Jo.Fact.eq (.bool false)).P (vs 9) w3 := hd 9 (by decide)
  have d10 : (Jo.Fact.eq (.bool false)).P (vs 10) w3 := hd 10 (by decide)
  have d11 : (Jo.Fact.eq (.bool false)).P (vs 11) w3 := hd 11 (by decide)
  have d12 : (Jo.Fact.eq undef).P (vs 12) w3 := hd 12 (by decide)
  have d13 : (Jo.Fact.eq undef).P (vs 13) w3 := hd 13 (by decide)
  have d14 : (Jo.Fact.eq undef).P (vs 14) w3 := hd 14 (by decide)
  have d15 : (Jo.Fact.eq undef).P (vs 15) w3 := hd 15 (by decide)
  have d16 : (Jo.Fact.eq undef).P (vs 16) w3 := hd 16 (by decide)
  have d17 : (Jo.Fact.eq (.bool false)).P (vs 17) w3 := hd 17 (by decide)
  have d18 : (Jo.Fact.eq (.bool false)).P (vs 18) w3 := hd 18 (by decide)
  clear hd
  simp only [Jo.putl, Jo.zd, Jo.ze, Act.put, Jo.za, Jo.zb, Jo.zc]
  generalize vs 0 = u0 at d0 ⊢
  generalize vs 1 = u1 at d1 ⊢
  generalize vs 2 = u2 at d2 ⊢
  generalize vs 3 = u3 at d3 ⊢
  generalize vs 4 = u4 at d4 ⊢
  generalize vs 5 = u5 at d5 ⊢
  generalize vs 6 = u6 at d6 ⊢
  generalize vs 7 = u7 at d7 ⊢
  generalize vs 8 = u8 at d8 ⊢
  generalize vs 9 = u9 at d9 ⊢
  generalize vs 10 = u10 at d10 ⊢
  generalize vs 11 = u11 at d11 ⊢
  generalize vs 12 = u12 at d12 ⊢
  generalize vs 13 = u13 at d13 ⊢
  generalize vs 14 = u14 at d14 ⊢
  generalize vs 15 = u15 at d15 ⊢
  generalize vs 16 = u16 at d16 ⊢
  generalize vs 17 = u17 at d17 ⊢
  generalize vs 18 = u18 at d18 ⊢
  clear vs
  replace d0 : u0 = _ := d0
  subst d0
  replace d1 : u1 = _ := d1
  subst d1
  replace d2 : u2 = _ := d2
  subst d2
  replace d3 : u3 = _ := d3
  subst d3
  replace d4 : u4 = _ := d4
  subst d4
  replace d5 : u5 = _ := d5
  subst d5
  replace d6 : u6 = _ := d6
  subst d6
  obtain ⟨A7, n7, c7, rfl, h7, k7⟩ := d7
  replace d8 : u8 = _ := d8
  subst d8
  replace d9 : u9 = _ := d9
  subst d9
  replace d10 : u10 = _ := d10
  subst d10
  replace d11 : u11 = _ := d11
  subst d11
  replace d12 : u12 = _ := d12
  subst d12
  replace d13 : u13 = _ := d13
  subst d13
  replace d14 : u14 = _ := d14
  subst d14
  replace d15 : u15 = _ := d15
  subst d15
  replace d16 : u16 = _ := d16
  subst d16
  replace d17 : u17 = _ := d17
  subst d17
  replace d18 : u18 = _ := d18
  subst d18
  replace X1 := X1.below hJ
  replace h := h.below hJ
  replace HB := Lib.hid (bt HB.out hJ)
  refine Jo.jdone (by kernel_rfl) ?_
  go_wp2
  go_ret
  exact ⟨rfl, HB.out⟩

set_option maxHeartbeats 4000000 in
theorem vMayD_m {w : World} {A : Option Addr} {n c a : Nat} {s : Bool} {t : Int} {P : Nat} {z : Int} (h : Rd w A n c a) (hn : n ≤ 1073741824) (hm : mayB s n a = true) (h0 : ((n : Int) == 0) = false) (hw : (decide (-400 ≤ t) && decide (t ≤ 400)) = true) (hP : 10 ^ 40 = P) (hz1 : cmpI (a : Int) (P : Int) = z) (hz0 : decide (z < 0) = true) (hz2 : decide (a % 10 = 0) = true) : Calls Tryd.prog 16 #[.agg #[.bool s, .slice A n c, .int .i64 t]] w (PB w false) := by
  have HP := Lib.hid hP
  have H1 := Lib.hid hz1
  clear hP hz1
  have H2 := Lib.hid hz2
  clear hz2
  have HW := Lib.hid hw
  clear hw
  go_enter Tryd.func16, Tryd.ntmps16
  go_upto_region 1 with (fail)
  have X1 := (Bo.newAt w (g := w.heap.size) (by simp) #[.bool s, .slice A n c, .int .i64 t] 43)
  have HB := Lib.hid (bel1 w (.cells #[.bool s, .slice A n c, .int .i64 t] 43))
  replace h := h.below HB.out
  generalize hW1 : (w.alloc (.cells #[.bool s, .slice A n c, .int .i64 t] 43)) = w1 at *
  clear hW1
  have xX10 := X1.at (i := 0) (v := .bool s) rfl
  have xX11 := X1.at (i := 1) (v := .slice A n c) rfl
  have xX12 := X1.at (i := 2) (v := .int .i64 t) rfl
  go_wp2_with fail
  refine (wMay h hm).mono ?_
  rintro ee w2 ⟨rfl, B⟩
  clear xX10 xX11 xX12
  replace X1 := X1.below B
  replace h := h.below B
  replace HB := Lib.hid (bt HB.out B)
  clear B
  have xX10 := X1.at (i := 0) (v := .bool s) rfl
  have xX11 := X1.at (i := 1) (v := .slice A n c) rfl
  have xX12 := X1.at (i := 2) (v := .int .i64 t) rfl
  go_upto_region 5 with (fail)
  refine Jo.region_joint (T := [0, 1, 2, 3, 4, 5, 6, 7, 8, 9, 10, 11, 12, 13, 14, 15, 16, 17, 18]) (ds := [some 15, some 16, some 17, some 18, some 19, some 20, some 21, some 22, some 23, some 24, some 25, some 26, some 27, some 28, some 29, some 30, some 31, some 32, some 2]) (ls := [[], [0], [1], [2], [3], [3, 4], [3, 5], [3], [3, 6, 7], [3, 8], [3, 9], [10], [11], [11, 12], [11, 13], [11, 14], [11, 15], [11, 16], [17]]) (k := 19) (L := [(some 15, 0), (some 16, 1), (some 17, 2), (some 18, 3), (some 19, 4), (some 20, 5), (some 21, 6), (some 22, 7), (some 23, 8), (some 24, 9), (some 25, 10), (some 26, 11), (some 27, 12), (some 28, 13), (some 29, 14), (some 30, 15), (some 31, 16), (some 32, 17), (some 2, 18)]) (fuel := 0) (J := fun wj => Below (World.heap w2).size w2 wj)
    (F := [Jo.Fact.eq (.pointer (some ⟨w.heap.size, 2, none⟩)), Jo.Fact.eq (.int .i64 t), Jo.Fact.eq (.bool true), Jo.Fact.eq (.bool true), Jo.Fact.eq (.pointer (some ⟨w.heap.size, 0, none⟩)), Jo.Fact.eq (.pointer (some ⟨w.heap.size, 1, none⟩)), Jo.Fact.eq (.slice A n c), Jo.Fact.nm P 41, Jo.Fact.eq (.int .i64 z), Jo.Fact.eq (.bool true), Jo.Fact.eq (.bool true), Jo.Fact.eq (.bool true), Jo.Fact.eq (.pointer (some ⟨w.heap.size, 0, none⟩)), Jo.Fact.eq (.pointer (some ⟨w.heap.size, 1, none⟩)), Jo.Fact.eq (.slice A n c), Jo.Fact.eq (.bool true), Jo.Fact.eq (.bool false), Jo.Fact.eq (.bool false), Jo.Fact.eq (.bool false)])
    (by kernel_rfl) (by kernel_rfl) (by decide) rfl rfl (fun _ _ h b => bt h b) ((Below.refl _ _).drew) ?_ (fun vs w3 hJ hd => ?_)
  clear xX10 xX11 xX12
  · refine Jo.jcons (i := 0) (o := ⟨some 15, _, _, _, _, _⟩) (di := some 15) (L := []) (f := Jo.Fact.eq (.pointer (some ⟨w.heap.size, 2, none⟩))) rfl rfl rfl rfl (fun vs wj hJ hd K hK => ?_) ?_
    · clear hd
      simp only [Jo.putl, Jo.ze, Act.put, Jo.za, Jo.zb, Jo.zc] at hK ⊢
      go_simp
      exact hK.out _ _ rfl (Below.refl _ _)
    refine Jo.jcons (i := 1) (o := ⟨some 16, _, _, _, _, _⟩) (di := some 16) (L := [(some 15, 0)]) (f := Jo.Fact.eq (.int .i64 t)) rfl rfl rfl rfl (fun vs wj hJ hd K hK => ?_) ?_
    · have d0 : (Jo.Fact.eq (.pointer (some ⟨w.heap.size, 2, none⟩))).P (vs 0) wj := hd 0 (by decide)
      clear hd
      simp only [Jo.putl, Jo.zd, Jo.ze, Act.put, Jo.za, Jo.zb, Jo.zc] at hK ⊢
      generalize vs 0 = u0 at hK d0 ⊢
      replace d0 : u0 = _ := d0
      subst d0
      have xX10 : World.cell? wj ⟨w.heap.size, 0, none⟩ = some (.bool s) := (X1.below hJ).cell 0
      have xX11 : World.cell? wj ⟨w.heap.size, 1, none⟩ = some (.slice A n c) := (X1.below hJ).cell 1
      have xX12 : World.cell? wj ⟨w.heap.size, 2, none⟩ = some (.int .i64 t) := (X1.below hJ).cell 2
      go_simp
      exact hK.out _ _ rfl (Below.refl _ _)
    refine Jo.jcons (i := 2) (o := ⟨some 17, _, _, _, _, _⟩) (di := some 17) (L := [(some 16, 1)]) (f := Jo.Fact.eq (.bool true)) rfl rfl rfl rfl (fun vs wj hJ hd K hK => ?_) ?_
    · have d1 : (Jo.Fact.eq (.int .i64 t)).P (vs 1) wj := hd 1 (by decide)
      clear hd
      simp only [Jo.putl, Jo.zd, Jo.ze, Act.put, Jo.za, Jo.zb, Jo.zc] at hK ⊢
      generalize vs 1 = u1 at hK d1 ⊢
      replace d1 : u1 = _ := d1
      subst d1
      go_simp
      refine (vWithinE HW.out _).mono ?_
      rintro ee wk ⟨rfl, B⟩
      exact hK.out _ _ rfl B
    refine Jo.jcons (i := 3) (o := ⟨some 18, _, _, _, _, _⟩) (di := some 18) (L := [(some 17, 2)]) (f := Jo.Fact.eq (.bool true)) rfl rfl rfl rfl (fun vs wj hJ hd K hK => ?_) ?_
    · have d2 : (Jo.Fact.eq (.bool true)).P (vs 2) wj := hd 2 (by decide)
      clear hd
      simp only [Jo.putl, Jo.zd, Jo.ze, Act.put, Jo.za, Jo.zb, Jo.zc] at hK ⊢
      generalize vs 2 = u2 at hK d2 ⊢
      replace d2 : u2 = _ := d2
      subst d2
      go_simp
      exact hK.out _ _ rfl (Below.refl _ _)
    refine Jo.jcons (i := 4) (o := ⟨some 19, _, _, _, _, _⟩) (di := some 19) (L := [(some 18, 3)]) (f := Jo.Fact.eq (.pointer (some ⟨w.heap.size, 0, none⟩))) rfl rfl rfl rfl (fun vs wj hJ hd K hK => ?_) ?_
    · have d3 : (Jo.Fact.eq (.bool true)).P (vs 3) wj := hd 3 (by decide)
      clear hd
      simp only [Jo.putl, Jo.zd, Jo.ze, Act.put, Jo.za, Jo.zb, Jo.zc] at hK ⊢
      generalize vs 3 = u3 at hK d3 ⊢
      replace d3 : u3 = _ := d3
      subst d3
      go_simp
      exact hK.out _ _ rfl (Below.refl _ _)
    refine Jo.jcons (i := 5) (o := ⟨some 20, _, _, _, _, _⟩) (di := some 20) (L := [(some 18, 3), (some 19, 4)]) (f := Jo.Fact.eq (.pointer (some ⟨w.heap.size, 1, none⟩))) rfl rfl rfl rfl (fun vs wj hJ hd K hK => ?_) ?_
    · have d3 : (Jo.Fact.eq (.bool true)).P (vs 3) wj := hd 3 (by decide)
      have d4 : (Jo.Fact.eq (.pointer (some ⟨w.heap.size, 0, none⟩))).P (vs 4) wj := hd 4 (by decide)
      clear hd
      simp only [Jo.putl, Jo.zd, Jo.ze, Act.put, Jo.za, Jo.zb, Jo.zc] at hK ⊢
      generalize vs 3 = u3 at hK d3 ⊢
      generalize vs 4 = u4 at hK d4 ⊢
      replace d3 : u3 = _ := d3
      subst d3
      replace d4 : u4 = _ := d4
      subst d4
      go_simp
      exact hK.out _ _ rfl (Below.refl _ _)
    refine Jo.jcons (i := 6) (o := ⟨some 21, _, _, _, _, _⟩) (di := some 21) (L := [(some 18, 3), (some 20, 5)]) (f := Jo.Fact.eq (.slice A n c)) rfl rfl rfl rfl (fun vs wj hJ hd K hK => ?_) ?_
    · have d3 : (Jo.Fact.eq (.bool true)).P (vs 3) wj := hd 3 (by decide)
      have d5 : (Jo.Fact.eq (.pointer (some ⟨w.heap.size, 1, none⟩))).P (vs 5) wj := hd 5 (by decide)
      clear hd
      simp only [Jo.putl, Jo.zd, Jo.ze, Act.put, Jo.za, Jo.zb, Jo.zc] at hK ⊢
      generalize vs 3 = u3 at hK d3 ⊢
      generalize vs 5 = u5 at hK d5 ⊢
      replace d3 : u3 = _ := d3
      subst d3
      replace d5 : u5 = _ := d5
      subst d5
      have xX10 : World.cell? wj ⟨w.heap.size, 0, none⟩ = some (.bool s) := (X1.below hJ).cell 0
      have xX11 : World.cell? wj ⟨w.heap.size, 1, none⟩ = some (.slice A n c) := (X1.below hJ).cell 1
      have xX12 : World.cell? wj ⟨w.heap.size, 2, none⟩ = some (.int .i64 t) := (X1.below hJ).cell 2
      go_simp
      exact hK.out _ _ rfl (Below.refl _ _)
    refine Jo.jcons (i := 7) (o := ⟨some 22, _, _, _, _, _⟩) (di := some 22) (L := [(some 18, 3)]) (f := Jo.Fact.nm P 41) rfl rfl rfl rfl (fun vs wj hJ hd K hK => ?_) ?_
    · have d3 : (Jo.Fact.eq (.bool true)).P (vs 3) wj := hd 3 (by decide)
      clear hd
      simp only [Jo.putl, Jo.zd, Jo.ze, Act.put, Jo.za, Jo.zb, Jo.zc] at hK ⊢
      generalize vs 3 = u3 at hK d3 ⊢
      replace d3 : u3 = _ := d3
      subst d3
      go_simp
      refine (vPower40 HP.out _).mono ?_
      rintro ee wk ⟨A3, n3, c3, rfl, h3, k3, B⟩
      exact hK.out _ _ ⟨_, _, _, rfl, h3.nm, k3⟩ B
    refine Jo.jcons (i := 8) (o := ⟨some 23, _, _, _, _, _⟩) (di := some 23) (L := [(some 18, 3), (some 21, 6), (some 22, 7)]) (f := Jo.Fact.eq (.int .i64 z)) rfl rfl rfl rfl (fun vs wj hJ hd K hK => ?_) ?_
    · have d3 : (Jo.Fact.eq (.bool true)).P (vs 3) wj := hd 3 (by decide)
      have d6 : (Jo.Fact.eq (.slice A n c)).P (vs 6) wj := hd 6 (by decide)
      have d7 : (Jo.Fact.nm P 41).P (vs 7) wj := hd 7 (by decide)
      clear hd
      simp only [Jo.putl, Jo.zd, Jo.ze, Act.put, Jo.za, Jo.zb, Jo.zc] at hK ⊢
      generalize vs 3 = u3 at hK d3 ⊢
      generalize vs 6 = u6 at hK d6 ⊢
      generalize vs 7 = u7 at hK d7 ⊢
      replace d3 : u3 = _ := d3
      subst d3
      replace d6 : u6 = _ := d6
      subst d6
      obtain ⟨A7, n7, c7, rfl, h7, k7⟩ := d7
      go_simp
      refine (vCmpE (h.below hJ) h7.rd H1.out).mono ?_
      rintro ee wk ⟨rfl, B⟩
      exact hK.out _ _ rfl B
    refine Jo.jcons (i := 9) (o := ⟨some 24, _, _, _, _, _⟩) (di := some 24) (L := [(some 18, 3), (some 23, 8)]) (f := Jo.Fact.eq (.bool true)) rfl rfl rfl rfl (fun vs wj hJ hd K hK => ?_) ?_
    · have d3 : (Jo.Fact.eq (.bool true)).P (vs 3) wj := hd 3 (by decide)
      have d8 : (Jo.Fact.eq (.int .i64 z)).P (vs 8) wj := hd 8 (by decide)
      clear hd
      simp only [Jo.putl, Jo.zd, Jo.ze, Act.put, Jo.za, Jo.zb, Jo.zc] at hK ⊢
      generalize vs 3 = u3 at hK d3 ⊢
      generalize vs 8 = u8 at hK d8 ⊢
      replace d3 : u3 = _ := d3
      subst d3
      replace d8 : u8 = _ := d8
      subst d8
      go_simp
      exact hK.out _ _ (by first | rfl | simp [hz0] | (rw [hz0]; rfl)) (Below.refl _ _)
    refine Jo.jcons (i := 10) (o := ⟨some 25, _, _, _, _, _⟩) (di := some 25) (L := [(some 18, 3), (some 24, 9)]) (f := Jo.Fact.eq (.bool true)) rfl rfl rfl rfl (fun vs wj hJ hd K hK => ?_) ?_
    · have d3 : (Jo.Fact.eq (.bool true)).P (vs 3) wj := hd 3 (by decide)
      have d9 : (Jo.Fact.eq (.bool true)).P (vs 9) wj := hd 9 (by decide)
      clear hd
      simp only [Jo.putl, Jo.zd, Jo.ze, Act.put, Jo.za, Jo.zb, Jo.zc] at hK ⊢
      generalize vs 3 = u3 at hK d3 ⊢
      generalize vs 9 = u9 at hK d9 ⊢
      replace d3 : u3 = _ := d3
      subst d3
      replace d9 : u9 = _ := d9
      subst d9
      go_simp
      exact hK.out _ _ rfl (Below.refl _ _)
    refine Jo.jcons (i := 11) (o := ⟨some 26, _, _, _, _, _⟩) (di := some 26) (L := [(some 25, 10)]) (f := Jo.Fact.eq (.bool true)) rfl rfl rfl rfl (fun vs wj hJ hd K hK => ?_) ?_
    · have d10 : (Jo.Fact.eq (.bool true)).P (vs 10) wj := hd 10 (by decide)
      clear hd
      simp only [Jo.putl, Jo.zd, Jo.ze, Act.put, Jo.za, Jo.zb, Jo.zc] at hK ⊢
      generalize vs 10 = u10 at hK d10 ⊢
      replace d10 : u10 = _ := d10
      subst d10
      go_simp
      exact hK.out _ _ rfl (Below.refl _ _)
    refine Jo.jcons (i := 12) (o := ⟨some 27, _, _, _, _, _⟩) (di := some 27) (L := [(some 26, 11)]) (f := Jo.Fact.eq (.pointer (some ⟨w.heap.size, 0, none⟩))) rfl rfl rfl rfl (fun vs wj hJ hd K hK => ?_) ?_
    · have d11 : (Jo.Fact.eq (.bool true)).P (vs 11) wj := hd 11 (by decide)
      clear hd
      simp only [Jo.putl, Jo.zd, Jo.ze, Act.put, Jo.za, Jo.zb, Jo.zc] at hK ⊢
      generalize vs 11 = u11 at hK d11 ⊢
      replace d11 : u11 = _ := d11
      subst d11
      go_simp
      exact hK.out _ _ rfl (Below.refl _ _)
    refine Jo.jcons (i := 13) (o := ⟨some 28, _, _, _, _, _⟩) (di := some 28) (L := [(some 26, 11), (some 27, 12)]) (f := Jo.Fact.eq (.pointer (some ⟨w.heap.size, 1, none⟩))) rfl rfl rfl rfl (fun vs wj hJ hd K hK => ?_) ?_
    · have d11 : (Jo.Fact.eq (.bool true)).P (vs 11) wj := hd 11 (by decide)
      have d12 : (Jo.Fact.eq (.pointer (some ⟨w.heap.size, 0, none⟩))).P (vs 12) wj := hd 12 (by decide)
      clear hd
      simp only [Jo.putl, Jo.zd, Jo.ze, Act.put, Jo.za, Jo.zb, Jo.zc] at hK ⊢
      generalize vs 11 = u11 at hK d11 ⊢
      generalize vs 12 = u12 at hK d12 ⊢
      replace d11 : u11 = _ := d11
      subst d11
      replace d12 : u12 = _ := d12
      subst d12
      go_simp
      exact hK.out _ _ rfl (Below.refl _ _)
    refine Jo.jcons (i := 14) (o := ⟨some 29, _, _, _, _, _⟩) (di := some 29) (L := [(some 26, 11), (some 28, 13)]) (f := Jo.Fact.eq (.slice A n c)) rfl rfl rfl rfl (fun vs wj hJ hd K hK => ?_) ?_
    · have d11 : (Jo.Fact.eq (.bool true)).P (vs 11) wj := hd 11 (by decide)
      have d13 : (Jo.Fact.eq (.pointer (some ⟨w.heap.size, 1, none⟩))).P (vs 13) wj := hd 13 (by decide)
      clear hd
      simp only [Jo.putl, Jo.zd, Jo.ze, Act.put, Jo.za, Jo.zb, Jo.zc] at hK ⊢
      generalize vs 11 = u11 at hK d11 ⊢
      generalize vs 13 = u13 at hK d13 ⊢
      replace d11 : u11 = _ := d11
      subst d11
      replace d13 : u13 = _ := d13
      subst d13
      have xX10 : World.cell? wj ⟨w.heap.size, 0, none⟩ = some (.bool s) := (X1.below hJ).cell 0
      have xX11 : World.cell? wj ⟨w.heap.size, 1, none⟩ = some (.slice A n c) := (X1.below hJ).cell 1
      have xX12 : World.cell? wj ⟨w.heap.size, 2, none⟩ = some (.int .i64 t) := (X1.below hJ).cell 2
      go_simp
      exact hK.out _ _ rfl (Below.refl _ _)
    refine Jo.jcons (i := 15) (o := ⟨some 30, _, _, _, _, _⟩) (di := some 30) (L := [(some 26, 11), (some 29, 14)]) (f := Jo.Fact.eq (.bool true)) rfl rfl rfl rfl (fun vs wj hJ hd K hK => ?_) ?_
    · have d11 : (Jo.Fact.eq (.bool true)).P (vs 11) wj := hd 11 (by decide)
      have d14 : (Jo.Fact.eq (.slice A n c)).P (vs 14) wj := hd 14 (by decide)
      clear hd
      simp only [Jo.putl, Jo.zd, Jo.ze, Act.put, Jo.za, Jo.zb, Jo.zc] at hK ⊢
      generalize vs 11 = u11 at hK d11 ⊢
      generalize vs 14 = u14 at hK d14 ⊢
      replace d11 : u11 = _ := d11
      subst d11
      replace d14 : u14 = _ := d14
      subst d14
      go_simp
      refine (vMultipleE (h.below hJ) hn H2.out).mono ?_
      rintro ee wk ⟨rfl, B⟩
      exact hK.out _ _ rfl B
    refine Jo.jcons (i := 16) (o := ⟨some 31, _, _, _, _, _⟩) (di := some 31) (L := [(some 26, 11), (some 30, 15)]) (f := Jo.Fact.eq (.bool false)) rfl rfl rfl rfl (fun vs wj hJ hd K hK => ?_) ?_
    · have d11 : (Jo.Fact.eq (.bool true)).P (vs 11) wj := hd 11 (by decide)
      have d15 : (Jo.Fact.eq (.bool true)).P (vs 15) wj := hd 15 (by decide)
      clear hd
      simp only [Jo.putl, Jo.zd, Jo.ze, Act.put, Jo.za, Jo.zb, Jo.zc] at hK ⊢
      generalize vs 11 = u11 at hK d11 ⊢
      generalize vs 15 = u15 at hK d15 ⊢
      replace d11 : u11 = _ := d11
      subst d11
      replace d15 : u15 = _ := d15
      subst d15
      go_simp
      exact hK.out _ _ rfl (Below.refl _ _)
    refine Jo.jcons (i := 17) (o := ⟨some 32, _, _, _, _, _⟩) (di := some 32) (L := [(some 26, 11), (some 31, 16)]) (f := Jo.Fact.eq (.bool false)) rfl rfl rfl rfl (fun vs wj hJ hd K hK => ?_) ?_
    · have d11 : (Jo.Fact.eq (.bool true)).P (vs 11) wj := hd 11 (by decide)
      have d16 : (Jo.Fact.eq (.bool false)).P (vs 16) wj := hd 16 (by decide)
      clear hd
      simp only [Jo.putl, Jo.zd, Jo.ze, Act.put, Jo.za, Jo.zb, Jo.zc] at hK ⊢
      generalize vs 11 = u11 at hK d11 ⊢
      generalize vs 16 = u16 at hK d16 ⊢
      replace d11 : u11 = _ := d11
      subst d11
      replace d16 : u16 = _ := d16
      subst d16
      go_simp
      exact hK.out _ _ rfl (Below.refl _ _)
    refine Jo.jcons (i := 18) (o := ⟨some 2, _, _, _, _, _⟩) (di := some 2) (L := [(some 32, 17)]) (f := Jo.Fact.eq (.bool false)) rfl rfl rfl rfl (fun vs wj hJ hd K hK => ?_) ?_
    · have d17 : (Jo.Fact.eq (.bool false)).P (vs 17) wj := hd 17 (by decide)
      clear hd
      simp only [Jo.putl, Jo.zd, Jo.ze, Act.put, Jo.za, Jo.zb, Jo.zc] at hK ⊢
      generalize vs 17 = u17 at hK d17 ⊢
      replace d17 : u17 = _ := d17
      subst d17
      go_simp
      exact hK.out _ _ rfl (Below.refl _ _)
    exact Jo.Steps.nil
  have d0 : (Jo.Fact.eq (.pointer (some ⟨w.heap.size, 2, none⟩))).P (vs 0) w3 := hd 0 (by decide)
  have d1 : (Jo.Fact.eq (.int .i64 t)).P (vs 1) w3 := hd 1 (by decide)
  have d2 : (Jo.Fact.eq (.bool true)).P (vs 2) w3 := hd 2 (by decide)
  have d3 : (Jo.Fact.eq (.bool true)).P (vs 3) w3 := hd 3 (by decide)
  have d4 : (Jo.Fact.eq (.pointer (some ⟨w.heap.size, 0, none⟩))).P (vs 4) w3 := hd 4 (by decide)
  have d5 : (Jo.Fact.eq (.pointer (some ⟨w.heap.size, 1, none⟩))).P (vs 5) w3 := hd 5 (by decide)
  have d6 : (Jo.Fact.eq (.slice A n c)).P (vs 6) w3 := hd 6 (by decide)
  have d7 : (Jo.Fact.nm P 41).P (vs 7) w3 := hd 7 (by decide)
  have d8 : (Jo.Fact.eq (.int .i64 z)).P (vs 8) w3 := hd 8 (by decide)
  have d9 : (Jo.Fact.eq (.bool true)).P (vs 9) w3 := hd 9 (by decide)
  have d10 : (Jo.Fact.eq (.bool true)).P (vs 10) w3 := hd 10 (by decide)
  have d11 : (Jo.Fact.eq (.bool true)).P (vs 11) w3 := hd 11 (by decide)
  have d12 : (Jo.Fact.eq (.pointer (some ⟨w.heap.size, 0, none⟩))).P (vs 12) w3 := hd 12 (by decide)
  have d13 : (Jo.Fact.eq (.pointer (some ⟨w.heap.size, 1, none⟩))).P (vs 13) w3 := hd 13 (by decide)
  have d14 : (Jo.Fact.eq (.slice A n c)).P (vs 14) w3 := hd 14 (by decide)
  have d15 : (Jo.Fact.eq (.bool true)).P (vs 15) w3 := hd 15 (by decide)
  have d16 : (Jo.Fact.eq (.bool false)).P (vs 16) w3 := hd 16 (by decide)
  have d17 : (Jo.Fact.eq (.bool false)).P (vs 17) w3 := hd 17 (by decide)
  have d18 : (Jo.Fact.eq (.bool false)).P (vs 18) w3 := hd 18 (by decide)
  clear hd
  simp only [Jo.putl, Jo.zd, Jo.ze, Act.put, Jo.za, Jo.zb, Jo.zc]
  generalize vs 0 = u0 at d0 ⊢
  generalize vs 1 = u1 at d1 ⊢
  generalize vs 2 = u2 at d2 ⊢
  generalize vs 3 = u3 at d3 ⊢
  generalize vs 4 = u4 at d4 ⊢
  generalize vs 5 = u5 at d5 ⊢
  generalize vs 6 = u6 at d6 ⊢
  generalize vs 7 = u7 at d7 ⊢
  generalize vs 8 = u8 at d8 ⊢
  generalize vs 9 = u9 at d9 ⊢
  generalize vs 10 = u10 at d10 ⊢
  generalize vs 11 = u11 at d11 ⊢
  generalize vs 12 = u12 at d12 ⊢
  generalize vs 13 = u13 at d13 ⊢
  generalize vs 14 = u14 at d14 ⊢
  generalize vs 15 = u15 at d15 ⊢
  generalize vs 16 = u16 at d16 ⊢
  generalize vs 17 = u17 at d17 ⊢
  generalize vs 18 = u18 at d18 ⊢
  clear vs
  replace d0 : u0 = _ := d0
  subst d0
  replace d1 : u1 = _ := d1
  subst d1
  replace d2 : u2 = _ := d2
  subst d2
  replace d3 : u3 = _ := d3
  subst d3
  replace d4 : u4 = _ := d4
  subst d4
  replace d5 : u5 = _ := d5
  subst d5
  replace d6 : u6 = _ := d6
  subst d6
  obtain ⟨A7, n7, c7, rfl, h7, k7⟩ := d7
  replace d8 : u8 = _ := d8
  subst d8
  replace d9 : u9 = _ := d9
  subst d9
  replace d10 : u10 = _ := d10
  subst d10
  replace d11 : u11 = _ := d11
  subst d11
  replace d12 : u12 = _ := d12
  subst d12
  replace d13 : u13 = _ := d13
  subst d13
  replace d14 : u14 = _ := d14
  subst d14
  replace d15 : u15 = _ := d15
  subst d15
  replace d16 : u16 = _ := d16
  subst d16
  replace d17 : u17 = _ := d17
  subst d17
  replace d18 : u18 = _ := d18
  subst d18
  replace X1 := X1.below hJ
  replace h := h.below hJ
  replace HB := Lib.hid (bt HB.out hJ)
  refine Jo.jdone (by kernel_rfl) ?_
  go_wp2
  go_ret
  exact ⟨rfl, HB.out⟩

set_option maxHeartbeats 4000000 in
theorem vMayD_y {w : World} {A : Option Addr} {n c a : Nat} {s : Bool} {t : Int} {P : Nat} {z : Int} (h : Rd w A n c a) (hn : n ≤ 1073741824) (hm : mayB s n a = true) (h0 : ((n : Int) == 0) = false) (hw : (decide (-400 ≤ t) && decide (t ≤ 400)) = true) (hP : 10 ^ 40 = P) (hz1 : cmpI (a : Int) (P : Int) = z) (hz0 : decide (z < 0) = true) (hz2 : decide (a % 10 = 0) = false) : Calls Tryd.prog 16 #[.agg #[.bool s, .slice A n c, .int .i64 t]] w (PB w true) := by
  have HP := Lib.hid hP
  have H1 := Lib.hid hz1
  clear hP hz1
  have H2 := Lib.hid hz2
  clear hz2
  have HW := Lib.hid hw
  clear hw
  go_enter Tryd.func16, Tryd.ntmps16
  go_upto_region 1 with (fail)
  have X1 := (Bo.newAt w (g := w.heap.size) (by simp) #[.bool s, .slice A n c, .int .i64 t] 43)
  have HB := Lib.hid (bel1 w (.cells #[.bool s, .slice A n c, .int .i64 t] 43))
  replace h := h.below HB.out
  generalize hW1 : (w.alloc (.cells #[.bool s, .slice A n c, .int .i64 t] 43)) = w1 at *
  clear hW1
  have xX10 := X1.at (i := 0) (v := .bool s) rfl
  have xX11 := X1.at (i := 1) (v := .slice A n c) rfl
  have xX12 := X1.at (i := 2) (v := .int .i64 t) rfl
  go_wp2_with fail
  refine (wMay h hm).mono ?_
  rintro ee w2 ⟨rfl, B⟩
  clear xX10 xX11 xX12
  replace X1 := X1.below B
  replace h := h.below B
  replace HB := Lib.hid (bt HB.out B)
  clear B
  have xX10 := X1.at (i := 0) (v := .bool s) rfl
  have xX11 := X1.at (i := 1) (v := .slice A n c) rfl
  have xX12 := X1.at (i := 2) (v := .int .i64 t) rfl
  go_upto_region 5 with (fail)
  refine Jo.region_joint (T := [0, 1, 2, 3, 4, 5, 6, 7, 8, 9, 10, 11, 12, 13, 14, 15, 16, 17, 18]) (ds := [some 15, some 16, some 17, some 18, some 19, some 20, some 21, some 22, some 23, some 24, some 25, some 26, some 27, some 28, some 29, some 30, some 31, some 32, some 2]) (ls := [[], [0], [1], [2], [3], [3, 4], [3, 5], [3], [3, 6, 7], [3, 8], [3, 9], [10], [11], [11, 12], [11, 13], [11, 14], [11, 15], [11, 16], [17]]) (k := 19) (L := [(some 15, 0), (some 16, 1), (some 17, 2), (some 18, 3), (some 19, 4), (some 20, 5), (some 21, 6), (some 22, 7), (some 23, 8), (some 24, 9), (some 25, 10), (some 26, 11), (some 27, 12), (some 28, 13), (some 29, 14), (some 30, 15), (some 31, 16), (some 32, 17), (some 2, 18)]) (fuel := 0) (J := fun wj => Below (World.heap w2).size w2 wj)
    (F := [Jo.Fact.eq (.pointer (some ⟨w.heap.size, 2, none⟩)), Jo.Fact.eq (.int .i64 t), Jo.Fact.eq (.bool true), Jo.Fact.eq (.bool true), Jo.Fact.eq (.pointer (some ⟨w.heap.size, 0, none⟩)), Jo.Fact.eq (.pointer (some ⟨w.heap.size, 1, none⟩)), Jo.Fact.eq (.slice A n c), Jo.Fact.nm P 41, Jo.Fact.eq (.int .i64 z), Jo.Fact.eq (.bool true), Jo.Fact.eq (.bool true), Jo.Fact.eq (.bool true), Jo.Fact.eq (.pointer (some ⟨w.heap.size, 0, none⟩)), Jo.Fact.eq (.pointer (some ⟨w.heap.size, 1, none⟩)), Jo.Fact.eq (.slice A n c), Jo.Fact.eq (.bool false), Jo.Fact.eq (.bool true), Jo.Fact.eq (.bool true), Jo.Fact.eq (.bool true)])
    (by kernel_rfl) (by kernel_rfl) (by decide) rfl rfl (fun _ _ h b => bt h b) ((Below.refl _ _).drew) ?_ (fun vs w3 hJ hd => ?_)
  clear xX10 xX11 xX12
  · refine Jo.jcons (i := 0) (o := ⟨some 15, _, _, _, _, _⟩) (di := some 15) (L := []) (f := Jo.Fact.eq (.pointer (some ⟨w.heap.size, 2, none⟩))) rfl rfl rfl rfl (fun vs wj hJ hd K hK => ?_) ?_
    · clear hd
      simp only [Jo.putl, Jo.ze, Act.put, Jo.za, Jo.zb, Jo.zc] at hK ⊢
      go_simp
      exact hK.out _ _ rfl (Below.refl _ _)
    refine Jo.jcons (i := 1) (o := ⟨some 16, _, _, _, _, _⟩) (di := some 16) (L := [(some 15, 0)]) (f := Jo.Fact.eq (.int .i64 t)) rfl rfl rfl rfl (fun vs wj hJ hd K hK => ?_) ?_
    · have d0 : (Jo.Fact.eq (.pointer (some ⟨w.heap.size, 2, none⟩))).P (vs 0) wj := hd 0 (by decide)
      clear hd
      simp only [Jo.putl, Jo.zd, Jo.ze, Act.put, Jo.za, Jo.zb, Jo.zc] at hK ⊢
      generalize vs 0 = u0 at hK d0 ⊢
      replace d0 : u0 = _ := d0
      subst d0
      have xX10 : World.cell? wj ⟨w.heap.size, 0, none⟩ = some (.bool s) := (X1.below hJ).cell 0
      have xX11 : World.cell? wj ⟨w.heap.size, 1, none⟩ = some (.slice A n c) := (X1.below hJ).cell 1
      have xX12 : World.cell? wj ⟨w.heap.size, 2, none⟩ = some (.int .i64 t) := (X1.below hJ).cell 2
      go_simp
      exact hK.out _ _ rfl (Below.refl _ _)
    refine Jo.jcons (i := 2) (o := ⟨some 17, _, _, _, _, _⟩) (di := some 17) (L := [(some 16, 1)]) (f := Jo.Fact.eq (.bool true)) rfl rfl rfl rfl (fun vs wj hJ hd K hK => ?_) ?_
    · have d1 : (Jo.Fact.eq (.int .i64 t)).P (vs 1) wj := hd 1 (by decide)
      clear hd
      simp only [Jo.putl, Jo.zd, Jo.ze, Act.put, Jo.za, Jo.zb, Jo.zc] at hK ⊢
      generalize vs 1 = u1 at hK d1 ⊢
      replace d1 : u1 = _ := d1
      subst d1
      go_simp
      refine (vWithinE HW.out _).mono ?_
      rintro ee wk ⟨rfl, B⟩
      exact hK.out _ _ rfl B
    refine Jo.jcons (i := 3) (o := ⟨some 18, _, _, _, _, _⟩) (di := some 18) (L := [(some 17, 2)]) (f := Jo.Fact.eq (.bool true)) rfl rfl rfl rfl (fun vs wj hJ hd K hK => ?_) ?_
    · have d2 : (Jo.Fact.eq (.bool true)).P (vs 2) wj := hd 2 (by decide)
      clear hd
      simp only [Jo.putl, Jo.zd, Jo.ze, Act.put, Jo.za, Jo.zb, Jo.zc] at hK ⊢
      generalize vs 2 = u2 at hK d2 ⊢
      replace d2 : u2 = _ := d2
      subst d2
      go_simp
      exact hK.out _ _ rfl (Below.refl _ _)
    refine Jo.jcons (i := 4) (o := ⟨some 19, _, _, _, _, _⟩) (di := some 19) (L := [(some 18, 3)]) (f := Jo.Fact.eq (.pointer (some ⟨w.heap.size, 0, none⟩))) rfl rfl rfl rfl (fun vs wj hJ hd K hK => ?_) ?_
    · have d3 : (Jo.Fact.eq (.bool true)).P (vs 3) wj := hd 3 (by decide)
      clear hd
      simp only [Jo.putl, Jo.zd, Jo.ze, Act.put, Jo.za, Jo.zb, Jo.zc] at hK ⊢
      generalize vs 3 = u3 at hK d3 ⊢
      replace d3 : u3 = _ := d3
      subst d3
      go_simp
      exact hK.out _ _ rfl (Below.refl _ _)
    refine Jo.jcons (i := 5) (o := ⟨some 20, _, _, _, _, _⟩) (di := some 20) (L := [(some 18, 3), (some 19, 4)]) (f := Jo.Fact.eq (.pointer (some ⟨w.heap.size, 1, none⟩))) rfl rfl rfl rfl (fun vs wj hJ hd K hK => ?_) ?_
    · have d3 : (Jo.Fact.eq (.bool true)).P (vs 3) wj := hd 3 (by decide)
      have d4 : (Jo.Fact.eq (.pointer (some ⟨w.heap.size, 0, none⟩))).P (vs 4) wj := hd 4 (by decide)
      clear hd
      simp only [Jo.putl, Jo.zd, Jo.ze, Act.put, Jo.za, Jo.zb, Jo.zc] at hK ⊢
      generalize vs 3 = u3 at hK d3 ⊢
      generalize vs 4 = u4 at hK d4 ⊢
      replace d3 : u3 = _ := d3
      subst d3
      replace d4 : u4 = _ := d4
      subst d4
      go_simp
      exact hK.out _ _ rfl (Below.refl _ _)
    refine Jo.jcons (i := 6) (o := ⟨some 21, _, _, _, _, _⟩) (di := some 21) (L := [(some 18, 3), (some 20, 5)]) (f := Jo.Fact.eq (.slice A n c)) rfl rfl rfl rfl (fun vs wj hJ hd K hK => ?_) ?_
    · have d3 : (Jo.Fact.eq (.bool true)).P (vs 3) wj := hd 3 (by decide)
      have d5 : (Jo.Fact.eq (.pointer (some ⟨w.heap.size, 1, none⟩))).P (vs 5) wj := hd 5 (by decide)
      clear hd
      simp only [Jo.putl, Jo.zd, Jo.ze, Act.put, Jo.za, Jo.zb, Jo.zc] at hK ⊢
      generalize vs 3 = u3 at hK d3 ⊢
      generalize vs 5 = u5 at hK d5 ⊢
      replace d3 : u3 = _ := d3
      subst d3
      replace d5 : u5 = _ := d5
      subst d5
      have xX10 : World.cell? wj ⟨w.heap.size, 0, none⟩ = some (.bool s) := (X1.below hJ).cell 0
      have xX11 : World.cell? wj ⟨w.heap.size, 1, none⟩ = some (.slice A n c) := (X1.below hJ).cell 1
      have xX12 : World.cell? wj ⟨w.heap.size, 2, none⟩ = some (.int .i64 t) := (X1.below hJ).cell 2
      go_simp
      exact hK.out _ _ rfl (Below.refl _ _)
    refine Jo.jcons (i := 7) (o := ⟨some 22, _, _, _, _, _⟩) (di := some 22) (L := [(some 18, 3)]) (f := Jo.Fact.nm P 41) rfl rfl rfl rfl (fun vs wj hJ hd K hK => ?_) ?_
    · have d3 : (Jo.Fact.eq (.bool true)).P (vs 3) wj := hd 3 (by decide)
      clear hd
      simp only [Jo.putl, Jo.zd, Jo.ze, Act.put, Jo.za, Jo.zb, Jo.zc] at hK ⊢
      generalize vs 3 = u3 at hK d3 ⊢
      replace d3 : u3 = _ := d3
      subst d3
      go_simp
      refine (vPower40 HP.out _).mono ?_
      rintro ee wk ⟨A3, n3, c3, rfl, h3, k3, B⟩
      exact hK.out _ _ ⟨_, _, _, rfl, h3.nm, k3⟩ B
    refine Jo.jcons (i := 8) (o := ⟨some 23, _, _, _, _, _⟩) (di := some 23) (L := [(some 18, 3), (some 21, 6), (some 22, 7)]) (f := Jo.Fact.eq (.int .i64 z)) rfl rfl rfl rfl (fun vs wj hJ hd K hK => ?_) ?_
    · have d3 : (Jo.Fact.eq (.bool true)).P (vs 3) wj := hd 3 (by decide)
      have d6 : (Jo.Fact.eq (.slice A n c)).P (vs 6) wj := hd 6 (by decide)
      have d7 : (Jo.Fact.nm P 41).P (vs 7) wj := hd 7 (by decide)
      clear hd
      simp only [Jo.putl, Jo.zd, Jo.ze, Act.put, Jo.za, Jo.zb, Jo.zc] at hK ⊢
      generalize vs 3 = u3 at hK d3 ⊢
      generalize vs 6 = u6 at hK d6 ⊢
      generalize vs 7 = u7 at hK d7 ⊢
      replace d3 : u3 = _ := d3
      subst d3
      replace d6 : u6 = _ := d6
      subst d6
      obtain ⟨A7, n7, c7, rfl, h7, k7⟩ := d7
      go_simp
      refine (vCmpE (h.below hJ) h7.rd H1.out).mono ?_
      rintro ee wk ⟨rfl, B⟩
      exact hK.out _ _ rfl B
    refine Jo.jcons (i := 9) (o := ⟨some 24, _, _, _, _, _⟩) (di := some 24) (L := [(some 18, 3), (some 23, 8)]) (f := Jo.Fact.eq (.bool true)) rfl rfl rfl rfl (fun vs wj hJ hd K hK => ?_) ?_
    · have d3 : (Jo.Fact.eq (.bool true)).P (vs 3) wj := hd 3 (by decide)
      have d8 : (Jo.Fact.eq (.int .i64 z)).P (vs 8) wj := hd 8 (by decide)
      clear hd
      simp only [Jo.putl, Jo.zd, Jo.ze, Act.put, Jo.za, Jo.zb, Jo.zc] at hK ⊢
      generalize vs 3 = u3 at hK d3 ⊢
      generalize vs 8 = u8 at hK d8 ⊢
      replace d3 : u3 = _ := d3
      subst d3
      replace d8 : u8 = _ := d8
      subst d8
      go_simp
      exact hK.out _ _ (by first | rfl | simp [hz0] | (rw [hz0]; rfl)) (Below.refl _ _)
    refine Jo.jcons (i := 10) (o := ⟨some 25, _, _, _, _, _⟩) (di := some 25) (L := [(some 18, 3), (some 24, 9)]) (f := Jo.Fact.eq (.bool true)) rfl rfl rfl rfl (fun vs wj hJ hd K hK => ?_) ?_
    · have d3 : (Jo.Fact.eq (.bool true)).P (vs 3) wj := hd 3 (by decide)
      have d9 : (Jo.Fact.eq (.bool true)).P (vs 9) wj := hd 9 (by decide)
      clear hd
      simp only [Jo.putl, Jo.zd, Jo.ze, Act.put, Jo.za, Jo.zb, Jo.zc] at hK ⊢
      generalize vs 3 = u3 at hK d3 ⊢
      generalize vs 9 = u9 at hK d9 ⊢
      replace d3 : u3 = _ := d3
      subst d3
      replace d9 : u9 = _ := d9
      subst d9
      go_simp
      exact hK.out _ _ rfl (Below.refl _ _)
    refine Jo.jcons (i := 11) (o := ⟨some 26, _, _, _, _, _⟩) (di := some 26) (L := [(some 25, 10)]) (f := Jo.Fact.eq (.bool true)) rfl rfl rfl rfl (fun vs wj hJ hd K hK => ?_) ?_
    · have d10 : (Jo.Fact.eq (.bool true)).P (vs 10) wj := hd 10 (by decide)
      clear hd
      simp only [Jo.putl, Jo.zd, Jo.ze, Act.put, Jo.za, Jo.zb, Jo.zc] at hK ⊢
      generalize vs 10 = u10 at hK d10 ⊢
      replace d10 : u10 = _ := d10
      subst d10
      go_simp
      exact hK.out _ _ rfl (Below.refl _ _)
    refine Jo.jcons (i := 12) (o := ⟨some 27, _, _, _, _, _⟩) (di := some 27) (L := [(some 26, 11)]) (f := Jo.Fact.eq (.pointer (some ⟨w.heap.size, 0, none⟩))) rfl rfl rfl rfl (fun vs wj hJ hd K hK => ?_) ?_
    · have d11 : (Jo.Fact.eq (.bool true)).P (vs 11) wj := hd 11 (by decide)
      clear hd
      simp only [Jo.putl, Jo.zd, Jo.ze, Act.put, Jo.za, Jo.zb, Jo.zc] at hK ⊢
      generalize vs 11 = u11 at hK d11 ⊢
      replace d11 : u11 = _ := d11
      subst d11
      go_simp
      exact hK.out _ _ rfl (Below.refl _ _)
    refine Jo.jcons (i := 13) (o := ⟨some 28, _, _, _, _, _⟩) (di := some 28) (L := [(some 26, 11), (some 27, 12)]) (f := Jo.Fact.eq (.pointer (some ⟨w.heap.size, 1, none⟩))) rfl rfl rfl rfl (fun vs wj hJ hd K hK => ?_) ?_
    · have d11 : (Jo.Fact.eq (.bool true)).P (vs 11) wj := hd 11 (by decide)
      have d12 : (Jo.Fact.eq (.pointer (some ⟨w.heap.size, 0, none⟩))).P (vs 12) wj := hd 12 (by decide)
      clear hd
      simp only [Jo.putl, Jo.zd, Jo.ze, Act.put, Jo.za, Jo.zb, Jo.zc] at hK ⊢
      generalize vs 11 = u11 at hK d11 ⊢
      generalize vs 12 = u12 at hK d12 ⊢
      replace d11 : u11 = _ := d11
      subst d11
      replace d12 : u12 = _ := d12
      subst d12
      go_simp
      exact hK.out _ _ rfl (Below.refl _ _)
    refine Jo.jcons (i := 14) (o := ⟨some 29, _, _, _, _, _⟩) (di := some 29) (L := [(some 26, 11), (some 28, 13)]) (f := Jo.Fact.eq (.slice A n c)) rfl rfl rfl rfl (fun vs wj hJ hd K hK => ?_) ?_
    · have d11 : (Jo.Fact.eq (.bool true)).P (vs 11) wj := hd 11 (by decide)
      have d13 : (Jo.Fact.eq (.pointer (some ⟨w.heap.size, 1, none⟩))).P (vs 13) wj := hd 13 (by decide)
      clear hd
      simp only [Jo.putl, Jo.zd, Jo.ze, Act.put, Jo.za, Jo.zb, Jo.zc] at hK ⊢
      generalize vs 11 = u11 at hK d11 ⊢
      generalize vs 13 = u13 at hK d13 ⊢
      replace d11 : u11 = _ := d11
      subst d11
      replace d13 : u13 = _ := d13
      subst d13
      have xX10 : World.cell? wj ⟨w.heap.size, 0, none⟩ = some (.bool s) := (X1.below hJ).cell 0
      have xX11 : World.cell? wj ⟨w.heap.size, 1, none⟩ = some (.slice A n c) := (X1.below hJ).cell 1
      have xX12 : World.cell? wj ⟨w.heap.size, 2, none⟩ = some (.int .i64 t) := (X1.below hJ).cell 2
      go_simp
      exact hK.out _ _ rfl (Below.refl _ _)
    refine Jo.jcons (i := 15) (o := ⟨some 30, _, _, _, _, _⟩) (di := some 30) (L := [(some 26, 11), (some 29, 14)]) (f := Jo.Fact.eq (.bool false)) rfl rfl rfl rfl (fun vs wj hJ hd K hK => ?_) ?_
    · have d11 : (Jo.Fact.eq (.bool true)).P (vs 11) wj := hd 11 (by decide)
      have d14 : (Jo.Fact.eq (.slice A n c)).P (vs 14) wj := hd 14 (by decide)
      clear hd
      simp only [Jo.putl, Jo.zd, Jo.ze, Act.put, Jo.za, Jo.zb, Jo.zc] at hK ⊢
      generalize vs 11 = u11 at hK d11 ⊢
      generalize vs 14 = u14 at hK d14 ⊢
      replace d11 : u11 = _ := d11
      subst d11
      replace d14 : u14 = _ := d14
      subst d14
      go_simp
      refine (vMultipleE (h.below hJ) hn H2.out).mono ?_
      rintro ee wk ⟨rfl, B⟩
      exact hK.out _ _ rfl B
    refine Jo.jcons (i := 16) (o := ⟨some 31, _, _, _, _, _⟩) (di := some 31) (L := [(some 26, 11), (some 30, 15)]) (f := Jo.Fact.eq (.bool true)) rfl rfl rfl rfl (fun vs wj hJ hd K hK => ?_) ?_
    · have d11 : (Jo.Fact.eq (.bool true)).P (vs 11) wj := hd 11 (by decide)
      have d15 : (Jo.Fact.eq (.bool false)).P (vs 15) wj := hd 15 (by decide)
      clear hd
      simp only [Jo.putl, Jo.zd, Jo.ze, Act.put, Jo.za, Jo.zb, Jo.zc] at hK ⊢
      generalize vs 11 = u11 at hK d11 ⊢
      generalize vs 15 = u15 at hK d15 ⊢
      replace d11 : u11 = _ := d11
      subst d11
      replace d15 : u15 = _ := d15
      subst d15
      go_simp
      exact hK.out _ _ rfl (Below.refl _ _)
    refine Jo.jcons (i := 17) (o := ⟨some 32, _, _, _, _, _⟩) (di := some 32) (L := [(some 26, 11), (some 31, 16)]) (f := Jo.Fact.eq (.bool true)) rfl rfl rfl rfl (fun vs wj hJ hd K hK => ?_) ?_
    · have d11 : (Jo.Fact.eq (.bool true)).P (vs 11) wj := hd 11 (by decide)
      have d16 : (Jo.Fact.eq (.bool true)).P (vs 16) wj := hd 16 (by decide)
      clear hd
      simp only [Jo.putl, Jo.zd, Jo.ze, Act.put, Jo.za, Jo.zb, Jo.zc] at hK ⊢
      generalize vs 11 = u11 at hK d11 ⊢
      generalize vs 16 = u16 at hK d16 ⊢
      replace d11 : u11 = _ := d11
      subst d11
      replace d16 : u16 = _ := d16
      subst d16
      go_simp
      exact hK.out _ _ rfl (Below.refl _ _)
    refine Jo.jcons (i := 18) (o := ⟨some 2, _, _, _, _, _⟩) (di := some 2) (L := [(some 32, 17)]) (f := Jo.Fact.eq (.bool true)) rfl rfl rfl rfl (fun vs wj hJ hd K hK => ?_) ?_
    · have d17 : (Jo.Fact.eq (.bool true)).P (vs 17) wj := hd 17 (by decide)
      clear hd
      simp only [Jo.putl, Jo.zd, Jo.ze, Act.put, Jo.za, Jo.zb, Jo.zc] at hK ⊢
      generalize vs 17 = u17 at hK d17 ⊢
      replace d17 : u17 = _ := d17
      subst d17
      go_simp
      exact hK.out _ _ rfl (Below.refl _ _)
    exact Jo.Steps.nil
  have d0 : (Jo.Fact.eq (.pointer (some ⟨w.heap.size, 2, none⟩))).P (vs 0) w3 := hd 0 (by decide)
  have d1 : (Jo.Fact.eq (.int .i64 t)).P (vs 1) w3 := hd 1 (by decide)
  have d2 : (Jo.Fact.eq (.bool true)).P (vs 2) w3 := hd 2 (by decide)
  have d3 : (Jo.Fact.eq (.bool true)).P (vs 3) w3 := hd 3 (by decide)
  have d4 : (Jo.Fact.eq (.pointer (some ⟨w.heap.size, 0, none⟩))).P (vs 4) w3 := hd 4 (by decide)
  have d5 : (Jo.Fact.eq (.pointer (some ⟨w.heap.size, 1, none⟩))).P (vs 5) w3 := hd 5 (by decide)
  have d6 : (Jo.Fact.eq (.slice A n c)).P (vs 6) w3 := hd 6 (by decide)
  have d7 : (Jo.Fact.nm P 41).P (vs 7) w3 := hd 7 (by decide)
  have d8 : (Jo.Fact.eq (.int .i64 z)).P (vs 8) w3 := hd 8 (by decide)
  have d9 : (Jo.Fact.eq (.bool true)).P (vs 9) w3 := hd 9 (by decide)
  have d10 : (Jo.Fact.eq (.bool true)).P (vs 10) w3 := hd 10 (by decide)
  have d11 : (Jo.Fact.eq (.bool true)).P (vs 11) w3 := hd 11 (by decide)
  have d12 : (Jo.Fact.eq (.pointer (some ⟨w.heap.size, 0, none⟩))).P (vs 12) w3 := hd 12 (by decide)
  have d13 : (Jo.Fact.eq (.pointer (some ⟨w.heap.size, 1, none⟩))).P (vs 13) w3 := hd 13 (by decide)
  have d14 : (Jo.Fact.eq (.slice A n c)).P (vs 14) w3 := hd 14 (by decide)
  have d15 : (Jo.Fact.eq (.bool false)).P (vs 15) w3 := hd 15 (by decide)
  have d16 : (Jo.Fact.eq (.bool true)).P (vs 16) w3 := hd 16 (by decide)
  have d17 : (Jo.Fact.eq (.bool true)).P (vs 17) w3 := hd 17 (by decide)
  have d18 : (Jo.Fact.eq (.bool true)).P (vs 18) w3 := hd 18 (by decide)
  clear hd
  simp only [Jo.putl, Jo.zd, Jo.ze, Act.put, Jo.za, Jo.zb, Jo.zc]
  generalize vs 0 = u0 at d0 ⊢
  generalize vs 1 = u1 at d1 ⊢
  generalize vs 2 = u2 at d2 ⊢
  generalize vs 3 = u3 at d3 ⊢
  generalize vs 4 = u4 at d4 ⊢
  generalize vs 5 = u5 at d5 ⊢
  generalize vs 6 = u6 at d6 ⊢
  generalize vs 7 = u7 at d7 ⊢
  generalize vs 8 = u8 at d8 ⊢
  generalize vs 9 = u9 at d9 ⊢
  generalize vs 10 = u10 at d10 ⊢
  generalize vs 11 = u11 at d11 ⊢
  generalize vs 12 = u12 at d12 ⊢
  generalize vs 13 = u13 at d13 ⊢
  generalize vs 14 = u14 at d14 ⊢
  generalize vs 15 = u15 at d15 ⊢
  generalize vs 16 = u16 at d16 ⊢
  generalize vs 17 = u17 at d17 ⊢
  generalize vs 18 = u18 at d18 ⊢
  clear vs
  replace d0 : u0 = _ := d0
  subst d0
  replace d1 : u1 = _ := d1
  subst d1
  replace d2 : u2 = _ := d2
  subst d2
  replace d3 : u3 = _ := d3
  subst d3
  replace d4 : u4 = _ := d4
  subst d4
  replace d5 : u5 = _ := d5
  subst d5
  replace d6 : u6 = _ := d6
  subst d6
  obtain ⟨A7, n7, c7, rfl, h7, k7⟩ := d7
  replace d8 : u8 = _ := d8
  subst d8
  replace d9 : u9 = _ := d9
  subst d9
  replace d10 : u10 = _ := d10
  subst d10
  replace d11 : u11 = _ := d11
  subst d11
  replace d12 : u12 = _ := d12
  subst d12
  replace d13 : u13 = _ := d13
  subst d13
  replace d14 : u14 = _ := d14
  subst d14
  replace d15 : u15 = _ := d15
  subst d15
  replace d16 : u16 = _ := d16
  subst d16
  replace d17 : u17 = _ := d17
  subst d17
  replace d18 : u18 = _ := d18
  subst d18
  replace X1 := X1.below hJ
  replace h := h.below hJ
  replace HB := Lib.hid (bt HB.out hJ)
  refine Jo.jdone (by kernel_rfl) ?_
  go_wp2
  go_ret
  exact ⟨rfl, HB.out⟩

theorem vMayD {w : World} {A : Option Addr} {n c a : Nat} {s : Bool} {t : Int} {r : Bool} (h : Rd w A n c a) (hn : n ≤ 1073741824) (hr : mayC s n a t = r) :
    Calls Tryd.prog 16 #[.agg #[.bool s, .slice A n c, .int .i64 t]] w (PB w r) := by
  subst hr
  unfold mayC
  cases hm : mayB s n a
  · rw [Bool.false_and]
    exact vMayD_no h hn hm
  · rw [Bool.true_and]
    by_cases h0 : n = 0
    · subst h0
      rw [if_pos rfl]
      exact vMayD_zero h hm (by rw [Bool.eq_iff_iff]; simp)
    · rw [if_neg h0]
      have hz : ((n : Int) == 0) = false := by simp; omega
      cases hw : (decide (-400 ≤ t) && decide (t ≤ 400))
      · exact vMayD_w h hn hm hz hw
      · rw [Bool.true_and]
        obtain ⟨P, hP⟩ : ∃ P : Nat, 10 ^ 40 = P := ⟨_, rfl⟩
        rw [hP]
        by_cases hlt : a < P
        · have hz1 : cmpI (a : Int) (P : Int) = -1 := cmpI_lt (by omega)
          rw [show decide (a < P) = true by simpa using hlt, Bool.true_and]
          cases hz2 : decide (a % 10 = 0)
          · exact vMayD_y h hn hm hz hw hP hz1 (by decide) hz2
          · exact vMayD_m h hn hm hz hw hP hz1 (by decide) hz2
        · obtain ⟨z, hz1, hz0⟩ : ∃ z, cmpI (a : Int) (P : Int) = z ∧ 0 ≤ z := by
            rcases Nat.lt_or_ge P a with hh | hh
            · exact ⟨1, cmpI_gt (by omega), by decide⟩
            · exact ⟨0, cmpI_eq (by omega), by decide⟩
          rw [show decide (a < P) = false by simpa using hlt, Bool.false_and]
          exact vMayD_l h hn hm hz hw hP hz1 (by simp; omega)
end Go.Proofs.YtpmakljahhhnfaaDoor

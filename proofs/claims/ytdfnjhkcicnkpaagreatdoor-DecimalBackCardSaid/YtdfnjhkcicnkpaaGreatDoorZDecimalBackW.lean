/-
  The walk of DecimalBack: for all arguments, where the table lies as it was laid, the call answers true, and nothing that was there has turned.
-/
import Derived.Test.YtdfnjhkcicnkpaaGreatDoorZbf
import Derived.Test.YtdfnjhkcicnkpaaGreatDoorZbg
namespace Go.Proofs.YtdfnjhkcicnkpaaGreatDoor
open Go.RowKit
set_option linter.unusedVariables false
set_option linter.unusedSimpArgs false
set_option maxRecDepth 100000

theorem tparse_bad {l : List UInt8} {z t x : Int} (h : tparse l = ((z, t), x)) (hx : x ≠ 0) : z = 0 ∧ t = 0 := by
  unfold tparse at h
  repeat' split at h
  all_goals first
    | (simp only [Prod.mk.injEq] at h; obtain ⟨⟨rfl, rfl⟩, rfl⟩ := h; exact ⟨rfl, rfl⟩)
    | (exfalso; simp only [Prod.mk.injEq] at h; omega)

set_option maxHeartbeats 2000000 in
theorem decimalBack_far0 (s0 : Bool) (a0 : Option Addr) (len0 cap0 : Nat) (e0 : Int) (l1 : List UInt8) (w : World) (hT : Pt w) (hf : 10 < len0) :
    Calls Tryz.prog 6 #[.agg #[.bool s0, .slice a0 len0 cap0, .int .i64 e0], .string (st l1)] w (PB w true) := by
  have t0 : decide ((10 : Int) < (len0 : Int)) = true := by simp; omega
  go_enter Tryz.func6, Tryz.ntmps6
  go_upto_region 1 with (fail)
  have X0 := (Bo.newAt w (g := w.heap.size) (by simp) #[.bool s0, .slice a0 len0 cap0, .int .i64 e0] 27)
  have HB := Lib.hid (bel1 w (.cells #[.bool s0, .slice a0 len0 cap0, .int .i64 e0] 27))
  replace hT := hT.below HB.out
  generalize hW1 : (w.alloc (.cells #[.bool s0, .slice a0 len0 cap0, .int .i64 e0] 27)) = w1 at *
  clear hW1
  go_wp2_with fail
  refine (awake4 _ hT).mono ?_
  rintro ee w2 ⟨rfl, B⟩
  replace X0 := X0.below B
  replace hT := hT.below B
  replace HB := Lib.hid (bt HB.out B)
  clear B
  have xX00 := X0.at (i := 0) (v := .bool s0) rfl
  have xX01 := X0.at (i := 1) (v := .slice a0 len0 cap0) rfl
  have xX02 := X0.at (i := 2) (v := .int .i64 e0) rfl
  go_wp2
  go_ret
  exact ⟨rfl, HB.out⟩

set_option maxHeartbeats 2000000 in
theorem decimalBack_far1 (s0 : Bool) (a0 : Option Addr) (len0 cap0 : Nat) (e0 : Int) (l1 : List UInt8) (w : World) (hT : Pt w) (hf : len0 ≤ 10) (hg : 300 < l1.length) :
    Calls Tryz.prog 6 #[.agg #[.bool s0, .slice a0 len0 cap0, .int .i64 e0], .string (st l1)] w (PB w true) := by
  have t0 : decide ((10 : Int) < (len0 : Int)) = false := by simp; omega
  have hsz : (st l1).size = l1.length := st_size l1
  obtain ⟨d, hd⟩ : ∃ d, l1.length = d := ⟨_, rfl⟩
  rw [hd] at hsz hg
  have t1 : decide ((300 : Int) < (d : Int)) = true := by simp; omega
  clear hd
  go_enter Tryz.func6, Tryz.ntmps6
  go_upto_region 1 with (fail)
  have X0 := (Bo.newAt w (g := w.heap.size) (by simp) #[.bool s0, .slice a0 len0 cap0, .int .i64 e0] 27)
  have HB := Lib.hid (bel1 w (.cells #[.bool s0, .slice a0 len0 cap0, .int .i64 e0] 27))
  replace hT := hT.below HB.out
  generalize hW1 : (w.alloc (.cells #[.bool s0, .slice a0 len0 cap0, .int .i64 e0] 27)) = w1 at *
  clear hW1
  go_wp2_with fail
  refine (awake4 _ hT).mono ?_
  rintro ee w2 ⟨rfl, B⟩
  replace X0 := X0.below B
  replace hT := hT.below B
  replace HB := Lib.hid (bt HB.out B)
  clear B
  have xX00 := X0.at (i := 0) (v := .bool s0) rfl
  have xX01 := X0.at (i := 1) (v := .slice a0 len0 cap0) rfl
  have xX02 := X0.at (i := 2) (v := .int .i64 e0) rfl
  go_wp2
  go_ret
  exact ⟨rfl, HB.out⟩

set_option maxHeartbeats 4000000 in
theorem decimalBack_ty (s0 : Bool) (a0 : Option Addr) (len0 cap0 : Nat) (e0 : Int) (l1 : List UInt8) (w : World) (b0 : Nat) (z t x : Int) (hT : Pt w) (h0 : Rd w a0 len0 cap0 b0) (hf : len0 ≤ 10) (hg : l1.length ≤ 300) (hm : mayC s0 len0 b0 e0 = true) (hp : tparse l1 = ((z, t), x)) (hx : x = 0) :
    Calls Tryz.prog 6 #[.agg #[.bool s0, .slice a0 len0 cap0, .int .i64 e0], .string (st l1)] w (PB w true) := by
  have t0 : decide ((10 : Int) < (len0 : Int)) = false := by simp; omega
  have hsz : (st l1).size = l1.length := st_size l1
  obtain ⟨d, hd⟩ : ∃ d, l1.length = d := ⟨_, rfl⟩
  rw [hd] at hsz hg
  have t1 : decide ((300 : Int) < (d : Int)) = false := by simp; omega
  have l0 : len0 ≤ 20 := by omega
  have HM := Lib.hid hm
  have p0 := may_wn h0 hm
  have hmd : mayd (sg s0 b0) e0 = true := by rw [← wn_may p0, sg_natAbs]; exact hm
  obtain ⟨Z, hZ⟩ : ∃ Z, sg s0 b0 = Z := ⟨_, rfl⟩
  rw [hZ] at hmd p0
  obtain ⟨L, hL⟩ : ∃ L, shw Z e0 = L := ⟨_, rfl⟩
  have hpL : tparse L = ((Z, e0), 0) := by rw [← hL]; exact tparse_shw Z e0 hmd
  have HMD := Lib.hid hmd
  have HL := Lib.hid hL
  have HPL := Lib.hid (fun w => vParseE w hpL)
  clear hmd hL hpL hZ
  subst hx
  have hmz : mayd z t = true := may_parse hp
  obtain ⟨L2, hL2⟩ : ∃ L, shw z t = L := ⟨_, rfl⟩
  have hpL2 : tparse L2 = ((z, t), 0) := by rw [← hL2]; exact tparse_shw z t hmz
  have HMZ := Lib.hid hmz
  have HL2 := Lib.hid hL2
  have HPL2 := Lib.hid (fun w => vParseE w hpL2)
  have HP := Lib.hid (fun w => vParseE w hp)
  clear hmz hL2 hpL2 hp hd hm
  go_enter Tryz.func6, Tryz.ntmps6
  go_upto_region 1 with (fail)
  have X0 := (Bo.newAt w (g := w.heap.size) (by simp) #[.bool s0, .slice a0 len0 cap0, .int .i64 e0] 27)
  have HB := Lib.hid (bel1 w (.cells #[.bool s0, .slice a0 len0 cap0, .int .i64 e0] 27))
  replace hT := hT.below HB.out
  replace h0 := h0.below HB.out
  replace p0 := p0.below HB.out
  generalize hW1 : (w.alloc (.cells #[.bool s0, .slice a0 len0 cap0, .int .i64 e0] 27)) = w1 at *
  clear hW1
  go_wp2_with fail
  refine (awake4 _ hT).mono ?_
  rintro ee w2 ⟨rfl, B⟩
  replace X0 := X0.below B
  replace hT := hT.below B
  replace h0 := h0.below B
  replace p0 := p0.below B
  replace HB := Lib.hid (bt HB.out B)
  clear B
  have xX00 := X0.at (i := 0) (v := .bool s0) rfl
  have xX01 := X0.at (i := 1) (v := .slice a0 len0 cap0) rfl
  have xX02 := X0.at (i := 2) (v := .int .i64 e0) rfl
  go_wp2_with fail
  refine (vMayD h0 (by omega) HM.out).mono ?_
  rintro ee w3 ⟨rfl, B⟩
  clear xX00 xX01 xX02
  replace X0 := X0.below B
  replace hT := hT.below B
  replace h0 := h0.below B
  replace p0 := p0.below B
  replace HB := Lib.hid (bt HB.out B)
  clear B
  clear h0
  have xX00 := X0.at (i := 0) (v := .bool s0) rfl
  have xX01 := X0.at (i := 1) (v := .slice a0 len0 cap0) rfl
  have xX02 := X0.at (i := 2) (v := .int .i64 e0) rfl
  go_wp2_with fail
  refine (vShowW p0 l0 hT HMD.out HL.out).mono ?_
  rintro ee w4 ⟨rfl, B⟩
  clear xX00 xX01 xX02
  replace X0 := X0.below B
  replace hT := hT.below B
  replace p0 := p0.below B
  replace HB := Lib.hid (bt HB.out B)
  clear B
  go_wp2_with fail
  refine (HPL.out _).mono ?_
  rintro ee w5 ⟨s5, A5, n5, c5, rfl, p5, k5, B⟩
  replace X0 := X0.below B
  replace hT := hT.below B
  replace p0 := p0.below B
  replace HB := Lib.hid (bt HB.out B)
  clear B
  go_upto_region 6 with (fail)
  have lXa := Nat.le_refl (World.heap w5).size
  have nXaX0 := X0.lt
  replace X0 := X0.below (bel1 _ (.cells #[.bool s5, .slice A5 n5 c5, .int .i64 e0] 27))
  replace hT := hT.below (bel1 _ (.cells #[.bool s5, .slice A5 n5 c5, .int .i64 e0] 27))
  replace p0 := p0.below (bel1 _ (.cells #[.bool s5, .slice A5 n5 c5, .int .i64 e0] 27))
  replace p5 := p5.below (bel1 _ (.cells #[.bool s5, .slice A5 n5 c5, .int .i64 e0] 27))
  replace HB := Lib.hid (bt HB.out (bel1 _ (.cells #[.bool s5, .slice A5 n5 c5, .int .i64 e0] 27)))
  have Xa := Bo.new w5 #[.bool s5, .slice A5 n5 c5, .int .i64 e0] 27
  generalize hWn : World.alloc w5 (.cells #[.bool s5, .slice A5 n5 c5, .int .i64 e0] 27) = w6 at *
  clear hWn
  have xXa0 := Xa.at (i := 0) (v := .bool s5) rfl
  have xXa1 := Xa.at (i := 1) (v := .slice A5 n5 c5) rfl
  have xXa2 := Xa.at (i := 2) (v := .int .i64 e0) rfl
  have xX00 := X0.at (i := 0) (v := .bool s0) rfl
  have xX01 := X0.at (i := 1) (v := .slice a0 len0 cap0) rfl
  have xX02 := X0.at (i := 2) (v := .int .i64 e0) rfl
  go_wp2_with fail
  refine (uAlike p5 p0).mono ?_
  rintro ee w7 ⟨rfl, B⟩
  clear xXa0 xXa1 xXa2 xX00 xX01 xX02
  replace X0 := X0.below B
  replace Xa := Xa.below B
  replace hT := hT.below B
  replace p0 := p0.below B
  replace p5 := p5.below B
  replace HB := Lib.hid (bt HB.out B)
  clear B
  clear p5 p0
  go_wp2_with fail
  refine (HP.out _).mono ?_
  rintro ee w8 ⟨s8, A8, n8, c8, rfl, p8, k8, B⟩
  replace X0 := X0.below B
  replace Xa := Xa.below B
  replace hT := hT.below B
  replace HB := Lib.hid (bt HB.out B)
  clear B
  go_upto_region 10 with (fail)
  have lXb := Nat.le_refl (World.heap w8).size
  have nXbX0 := X0.lt
  have nXbXa := Xa.lt
  replace X0 := X0.below (bel1 _ (.cells #[.bool s8, .slice A8 n8 c8, .int .i64 t] 27))
  replace Xa := Xa.below (bel1 _ (.cells #[.bool s8, .slice A8 n8 c8, .int .i64 t] 27))
  replace hT := hT.below (bel1 _ (.cells #[.bool s8, .slice A8 n8 c8, .int .i64 t] 27))
  replace p8 := p8.below (bel1 _ (.cells #[.bool s8, .slice A8 n8 c8, .int .i64 t] 27))
  replace HB := Lib.hid (bt HB.out (bel1 _ (.cells #[.bool s8, .slice A8 n8 c8, .int .i64 t] 27)))
  have Xb := Bo.new w8 #[.bool s8, .slice A8 n8 c8, .int .i64 t] 27
  generalize hWn : World.alloc w8 (.cells #[.bool s8, .slice A8 n8 c8, .int .i64 t] 27) = w9 at *
  clear hWn
  have xXb0 := Xb.at (i := 0) (v := .bool s8) rfl
  have xXb1 := Xb.at (i := 1) (v := .slice A8 n8 c8) rfl
  have xXb2 := Xb.at (i := 2) (v := .int .i64 t) rfl
  go_wp2_with fail
  refine (vShowW p8 (by omega) hT HMZ.out HL2.out).mono ?_
  rintro ee w10 ⟨rfl, B⟩
  clear xXb0 xXb1 xXb2
  replace X0 := X0.below B
  replace Xa := Xa.below B
  replace Xb := Xb.below B
  replace hT := hT.below B
  replace p8 := p8.below B
  replace HB := Lib.hid (bt HB.out B)
  clear B
  go_wp2_with fail
  refine (HPL2.out _).mono ?_
  rintro ee w11 ⟨s11, A11, n11, c11, rfl, p11, k11, B⟩
  replace X0 := X0.below B
  replace Xa := Xa.below B
  replace Xb := Xb.below B
  replace hT := hT.below B
  replace p8 := p8.below B
  replace HB := Lib.hid (bt HB.out B)
  clear B
  go_upto_region 13 with (fail)
  have lXc := Nat.le_refl (World.heap w11).size
  have nXcX0 := X0.lt
  have nXcXa := Xa.lt
  have nXcXb := Xb.lt
  replace X0 := X0.below (bel1 _ (.cells #[.bool s11, .slice A11 n11 c11, .int .i64 t] 27))
  replace Xa := Xa.below (bel1 _ (.cells #[.bool s11, .slice A11 n11 c11, .int .i64 t] 27))
  replace Xb := Xb.below (bel1 _ (.cells #[.bool s11, .slice A11 n11 c11, .int .i64 t] 27))
  replace hT := hT.below (bel1 _ (.cells #[.bool s11, .slice A11 n11 c11, .int .i64 t] 27))
  replace p8 := p8.below (bel1 _ (.cells #[.bool s11, .slice A11 n11 c11, .int .i64 t] 27))
  replace p11 := p11.below (bel1 _ (.cells #[.bool s11, .slice A11 n11 c11, .int .i64 t] 27))
  replace HB := Lib.hid (bt HB.out (bel1 _ (.cells #[.bool s11, .slice A11 n11 c11, .int .i64 t] 27)))
  have Xc := Bo.new w11 #[.bool s11, .slice A11 n11 c11, .int .i64 t] 27
  generalize hWn : World.alloc w11 (.cells #[.bool s11, .slice A11 n11 c11, .int .i64 t] 27) = w12 at *
  clear hWn
  have xXb0 := Xb.at (i := 0) (v := .bool s8) rfl
  have xXb1 := Xb.at (i := 1) (v := .slice A8 n8 c8) rfl
  have xXb2 := Xb.at (i := 2) (v := .int .i64 t) rfl
  have xXc0 := Xc.at (i := 0) (v := .bool s11) rfl
  have xXc1 := Xc.at (i := 1) (v := .slice A11 n11 c11) rfl
  have xXc2 := Xc.at (i := 2) (v := .int .i64 t) rfl
  go_wp2_with fail
  refine (uAlike p8 p11).mono ?_
  rintro ee w13 ⟨rfl, B⟩
  clear xXb0 xXb1 xXb2 xXc0 xXc1 xXc2
  replace X0 := X0.below B
  replace Xa := Xa.below B
  replace Xb := Xb.below B
  replace Xc := Xc.below B
  replace hT := hT.below B
  replace p8 := p8.below B
  replace p11 := p11.below B
  replace HB := Lib.hid (bt HB.out B)
  clear B
  have xXb0 := Xb.at (i := 0) (v := .bool s8) rfl
  have xXb1 := Xb.at (i := 1) (v := .slice A8 n8 c8) rfl
  have xXb2 := Xb.at (i := 2) (v := .int .i64 t) rfl
  go_wp2_with fail
  refine (vMayW p8 (by omega) HMZ.out).mono ?_
  rintro ee w14 ⟨rfl, B⟩
  clear xXb0 xXb1 xXb2
  replace X0 := X0.below B
  replace Xa := Xa.below B
  replace Xb := Xb.below B
  replace Xc := Xc.below B
  replace hT := hT.below B
  replace p8 := p8.below B
  replace p11 := p11.below B
  replace HB := Lib.hid (bt HB.out B)
  clear B
  go_wp2
  go_ret
  exact ⟨rfl, HB.out⟩

set_option maxHeartbeats 4000000 in
theorem decimalBack_tn (s0 : Bool) (a0 : Option Addr) (len0 cap0 : Nat) (e0 : Int) (l1 : List UInt8) (w : World) (b0 : Nat) (z t x : Int) (hT : Pt w) (h0 : Rd w a0 len0 cap0 b0) (hf : len0 ≤ 10) (hg : l1.length ≤ 300) (hm : mayC s0 len0 b0 e0 = true) (hp : tparse l1 = ((z, t), x)) (hx : x ≠ 0) :
    Calls Tryz.prog 6 #[.agg #[.bool s0, .slice a0 len0 cap0, .int .i64 e0], .string (st l1)] w (PB w true) := by
  have t0 : decide ((10 : Int) < (len0 : Int)) = false := by simp; omega
  have hsz : (st l1).size = l1.length := st_size l1
  obtain ⟨d, hd⟩ : ∃ d, l1.length = d := ⟨_, rfl⟩
  rw [hd] at hsz hg
  have t1 : decide ((300 : Int) < (d : Int)) = false := by simp; omega
  have l0 : len0 ≤ 20 := by omega
  have HM := Lib.hid hm
  have p0 := may_wn h0 hm
  have hmd : mayd (sg s0 b0) e0 = true := by rw [← wn_may p0, sg_natAbs]; exact hm
  obtain ⟨Z, hZ⟩ : ∃ Z, sg s0 b0 = Z := ⟨_, rfl⟩
  rw [hZ] at hmd p0
  obtain ⟨L, hL⟩ : ∃ L, shw Z e0 = L := ⟨_, rfl⟩
  have hpL : tparse L = ((Z, e0), 0) := by rw [← hL]; exact tparse_shw Z e0 hmd
  have HMD := Lib.hid hmd
  have HL := Lib.hid hL
  have HPL := Lib.hid (fun w => vParseE w hpL)
  clear hmd hL hpL hZ
  obtain ⟨rfl, rfl⟩ := tparse_bad hp hx
  have tx : (x == 0) = false := by simpa using hx
  have HP := Lib.hid (fun w => vParseE w hp)
  clear hp hd hm hx
  go_enter Tryz.func6, Tryz.ntmps6
  go_upto_region 1 with (fail)
  have X0 := (Bo.newAt w (g := w.heap.size) (by simp) #[.bool s0, .slice a0 len0 cap0, .int .i64 e0] 27)
  have HB := Lib.hid (bel1 w (.cells #[.bool s0, .slice a0 len0 cap0, .int .i64 e0] 27))
  replace hT := hT.below HB.out
  replace h0 := h0.below HB.out
  replace p0 := p0.below HB.out
  generalize hW1 : (w.alloc (.cells #[.bool s0, .slice a0 len0 cap0, .int .i64 e0] 27)) = w1 at *
  clear hW1
  go_wp2_with fail
  refine (awake4 _ hT).mono ?_
  rintro ee w2 ⟨rfl, B⟩
  replace X0 := X0.below B
  replace hT := hT.below B
  replace h0 := h0.below B
  replace p0 := p0.below B
  replace HB := Lib.hid (bt HB.out B)
  clear B
  have xX00 := X0.at (i := 0) (v := .bool s0) rfl
  have xX01 := X0.at (i := 1) (v := .slice a0 len0 cap0) rfl
  have xX02 := X0.at (i := 2) (v := .int .i64 e0) rfl
  go_wp2_with fail
  refine (vMayD h0 (by omega) HM.out).mono ?_
  rintro ee w3 ⟨rfl, B⟩
  clear xX00 xX01 xX02
  replace X0 := X0.below B
  replace hT := hT.below B
  replace h0 := h0.below B
  replace p0 := p0.below B
  replace HB := Lib.hid (bt HB.out B)
  clear B
  clear h0
  have xX00 := X0.at (i := 0) (v := .bool s0) rfl
  have xX01 := X0.at (i := 1) (v := .slice a0 len0 cap0) rfl
  have xX02 := X0.at (i := 2) (v := .int .i64 e0) rfl
  go_wp2_with fail
  refine (vShowW p0 l0 hT HMD.out HL.out).mono ?_
  rintro ee w4 ⟨rfl, B⟩
  clear xX00 xX01 xX02
  replace X0 := X0.below B
  replace hT := hT.below B
  replace p0 := p0.below B
  replace HB := Lib.hid (bt HB.out B)
  clear B
  go_wp2_with fail
  refine (HPL.out _).mono ?_
  rintro ee w5 ⟨s5, A5, n5, c5, rfl, p5, k5, B⟩
  replace X0 := X0.below B
  replace hT := hT.below B
  replace p0 := p0.below B
  replace HB := Lib.hid (bt HB.out B)
  clear B
  go_upto_region 6 with (fail)
  have lXa := Nat.le_refl (World.heap w5).size
  have nXaX0 := X0.lt
  replace X0 := X0.below (bel1 _ (.cells #[.bool s5, .slice A5 n5 c5, .int .i64 e0] 27))
  replace hT := hT.below (bel1 _ (.cells #[.bool s5, .slice A5 n5 c5, .int .i64 e0] 27))
  replace p0 := p0.below (bel1 _ (.cells #[.bool s5, .slice A5 n5 c5, .int .i64 e0] 27))
  replace p5 := p5.below (bel1 _ (.cells #[.bool s5, .slice A5 n5 c5, .int .i64 e0] 27))
  replace HB := Lib.hid (bt HB.out (bel1 _ (.cells #[.bool s5, .slice A5 n5 c5, .int .i64 e0] 27)))
  have Xa := Bo.new w5 #[.bool s5, .slice A5 n5 c5, .int .i64 e0] 27
  generalize hWn : World.alloc w5 (.cells #[.bool s5, .slice A5 n5 c5, .int .i64 e0] 27) = w6 at *
  clear hWn
  have xXa0 := Xa.at (i := 0) (v := .bool s5) rfl
  have xXa1 := Xa.at (i := 1) (v := .slice A5 n5 c5) rfl
  have xXa2 := Xa.at (i := 2) (v := .int .i64 e0) rfl
  have xX00 := X0.at (i := 0) (v := .bool s0) rfl
  have xX01 := X0.at (i := 1) (v := .slice a0 len0 cap0) rfl
  have xX02 := X0.at (i := 2) (v := .int .i64 e0) rfl
  go_wp2_with fail
  refine (uAlike p5 p0).mono ?_
  rintro ee w7 ⟨rfl, B⟩
  clear xXa0 xXa1 xXa2 xX00 xX01 xX02
  replace X0 := X0.below B
  replace Xa := Xa.below B
  replace hT := hT.below B
  replace p0 := p0.below B
  replace p5 := p5.below B
  replace HB := Lib.hid (bt HB.out B)
  clear B
  clear p5 p0
  go_wp2_with fail
  refine (HP.out _).mono ?_
  rintro ee w8 ⟨s8, A8, n8, c8, rfl, p8, k8, B⟩
  replace X0 := X0.below B
  replace Xa := Xa.below B
  replace hT := hT.below B
  replace HB := Lib.hid (bt HB.out B)
  clear B
  go_upto_region 10 with (fail)
  have hz : n8 = 0 := by have := p8.1.pos; omega
  subst hz
  clear p8
  have lXb := Nat.le_refl (World.heap w8).size
  have nXbX0 := X0.lt
  have nXbXa := Xa.lt
  replace X0 := X0.below (bel1 _ (.cells #[.bool s8, .slice A8 0 c8, .int .i64 0] 27))
  replace Xa := Xa.below (bel1 _ (.cells #[.bool s8, .slice A8 0 c8, .int .i64 0] 27))
  replace hT := hT.below (bel1 _ (.cells #[.bool s8, .slice A8 0 c8, .int .i64 0] 27))
  replace HB := Lib.hid (bt HB.out (bel1 _ (.cells #[.bool s8, .slice A8 0 c8, .int .i64 0] 27)))
  have Xb := Bo.new w8 #[.bool s8, .slice A8 0 c8, .int .i64 0] 27
  generalize hWn : World.alloc w8 (.cells #[.bool s8, .slice A8 0 c8, .int .i64 0] 27) = w9 at *
  clear hWn
  have xXb0 := Xb.at (i := 0) (v := .bool s8) rfl
  have xXb1 := Xb.at (i := 1) (v := .slice A8 0 c8) rfl
  have xXb2 := Xb.at (i := 2) (v := .int .i64 0) rfl
  go_wp2
  go_ret
  exact ⟨rfl, HB.out⟩

set_option maxHeartbeats 4000000 in
theorem decimalBack_fy (s0 : Bool) (a0 : Option Addr) (len0 cap0 : Nat) (e0 : Int) (l1 : List UInt8) (w : World) (b0 : Nat) (z t x : Int) (hT : Pt w) (h0 : Rd w a0 len0 cap0 b0) (hf : len0 ≤ 10) (hg : l1.length ≤ 300) (hm : mayC s0 len0 b0 e0 = false) (hp : tparse l1 = ((z, t), x)) (hx : x = 0) :
    Calls Tryz.prog 6 #[.agg #[.bool s0, .slice a0 len0 cap0, .int .i64 e0], .string (st l1)] w (PB w true) := by
  have t0 : decide ((10 : Int) < (len0 : Int)) = false := by simp; omega
  have hsz : (st l1).size = l1.length := st_size l1
  obtain ⟨d, hd⟩ : ∃ d, l1.length = d := ⟨_, rfl⟩
  rw [hd] at hsz hg
  have t1 : decide ((300 : Int) < (d : Int)) = false := by simp; omega
  have l0 : len0 ≤ 20 := by omega
  have HM := Lib.hid hm
  subst hx
  have hmz : mayd z t = true := may_parse hp
  obtain ⟨L2, hL2⟩ : ∃ L, shw z t = L := ⟨_, rfl⟩
  have hpL2 : tparse L2 = ((z, t), 0) := by rw [← hL2]; exact tparse_shw z t hmz
  have HMZ := Lib.hid hmz
  have HL2 := Lib.hid hL2
  have HPL2 := Lib.hid (fun w => vParseE w hpL2)
  have HP := Lib.hid (fun w => vParseE w hp)
  clear hmz hL2 hpL2 hp hd hm
  go_enter Tryz.func6, Tryz.ntmps6
  go_upto_region 1 with (fail)
  have X0 := (Bo.newAt w (g := w.heap.size) (by simp) #[.bool s0, .slice a0 len0 cap0, .int .i64 e0] 27)
  have HB := Lib.hid (bel1 w (.cells #[.bool s0, .slice a0 len0 cap0, .int .i64 e0] 27))
  replace hT := hT.below HB.out
  replace h0 := h0.below HB.out
  generalize hW1 : (w.alloc (.cells #[.bool s0, .slice a0 len0 cap0, .int .i64 e0] 27)) = w1 at *
  clear hW1
  go_wp2_with fail
  refine (awake4 _ hT).mono ?_
  rintro ee w2 ⟨rfl, B⟩
  replace X0 := X0.below B
  replace hT := hT.below B
  replace h0 := h0.below B
  replace HB := Lib.hid (bt HB.out B)
  clear B
  have xX00 := X0.at (i := 0) (v := .bool s0) rfl
  have xX01 := X0.at (i := 1) (v := .slice a0 len0 cap0) rfl
  have xX02 := X0.at (i := 2) (v := .int .i64 e0) rfl
  go_wp2_with fail
  refine (vMayD h0 (by omega) HM.out).mono ?_
  rintro ee w3 ⟨rfl, B⟩
  clear xX00 xX01 xX02
  replace X0 := X0.below B
  replace hT := hT.below B
  replace h0 := h0.below B
  replace HB := Lib.hid (bt HB.out B)
  clear B
  clear h0
  go_wp2_with fail
  refine (HP.out _).mono ?_
  rintro ee w8 ⟨s8, A8, n8, c8, rfl, p8, k8, B⟩
  replace X0 := X0.below B
  replace hT := hT.below B
  replace HB := Lib.hid (bt HB.out B)
  clear B
  go_upto_region 10 with (fail)
  have lXb := Nat.le_refl (World.heap w8).size
  have nXbX0 := X0.lt
  replace X0 := X0.below (bel1 _ (.cells #[.bool s8, .slice A8 n8 c8, .int .i64 t] 27))
  replace hT := hT.below (bel1 _ (.cells #[.bool s8, .slice A8 n8 c8, .int .i64 t] 27))
  replace p8 := p8.below (bel1 _ (.cells #[.bool s8, .slice A8 n8 c8, .int .i64 t] 27))
  replace HB := Lib.hid (bt HB.out (bel1 _ (.cells #[.bool s8, .slice A8 n8 c8, .int .i64 t] 27)))
  have Xb := Bo.new w8 #[.bool s8, .slice A8 n8 c8, .int .i64 t] 27
  generalize hWn : World.alloc w8 (.cells #[.bool s8, .slice A8 n8 c8, .int .i64 t] 27) = w9 at *
  clear hWn
  have xXb0 := Xb.at (i := 0) (v := .bool s8) rfl
  have xXb1 := Xb.at (i := 1) (v := .slice A8 n8 c8) rfl
  have xXb2 := Xb.at (i := 2) (v := .int .i64 t) rfl
  go_wp2_with fail
  refine (vShowW p8 (by omega) hT HMZ.out HL2.out).mono ?_
  rintro ee w10 ⟨rfl, B⟩
  clear xXb0 xXb1 xXb2
  replace X0 := X0.below B
  replace Xb := Xb.below B
  replace hT := hT.below B
  replace p8 := p8.below B
  replace HB := Lib.hid (bt HB.out B)
  clear B
  go_wp2_with fail
  refine (HPL2.out _).mono ?_
  rintro ee w11 ⟨s11, A11, n11, c11, rfl, p11, k11, B⟩
  replace X0 := X0.below B
  replace Xb := Xb.below B
  replace hT := hT.below B
  replace p8 := p8.below B
  replace HB := Lib.hid (bt HB.out B)
  clear B
  go_upto_region 13 with (fail)
  have lXc := Nat.le_refl (World.heap w11).size
  have nXcX0 := X0.lt
  have nXcXb := Xb.lt
  replace X0 := X0.below (bel1 _ (.cells #[.bool s11, .slice A11 n11 c11, .int .i64 t] 27))
  replace Xb := Xb.below (bel1 _ (.cells #[.bool s11, .slice A11 n11 c11, .int .i64 t] 27))
  replace hT := hT.below (bel1 _ (.cells #[.bool s11, .slice A11 n11 c11, .int .i64 t] 27))
  replace p8 := p8.below (bel1 _ (.cells #[.bool s11, .slice A11 n11 c11, .int .i64 t] 27))
  replace p11 := p11.below (bel1 _ (.cells #[.bool s11, .slice A11 n11 c11, .int .i64 t] 27))
  replace HB := Lib.hid (bt HB.out (bel1 _ (.cells #[.bool s11, .slice A11 n11 c11, .int .i64 t] 27)))
  have Xc := Bo.new w11 #[.bool s11, .slice A11 n11 c11, .int .i64 t] 27
  generalize hWn : World.alloc w11 (.cells #[.bool s11, .slice A11 n11 c11, .int .i64 t] 27) = w12 at *
  clear hWn
  have xXb0 := Xb.at (i := 0) (v := .bool s8) rfl
  have xXb1 := Xb.at (i := 1) (v := .slice A8 n8 c8) rfl
  have xXb2 := Xb.at (i := 2) (v := .int .i64 t) rfl
  have xXc0 := Xc.at (i := 0) (v := .bool s11) rfl
  have xXc1 := Xc.at (i := 1) (v := .slice A11 n11 c11) rfl
  have xXc2 := Xc.at (i := 2) (v := .int .i64 t) rfl
  go_wp2_with fail
  refine (uAlike p8 p11).mono ?_
  rintro ee w13 ⟨rfl, B⟩
  clear xXb0 xXb1 xXb2 xXc0 xXc1 xXc2
  replace X0 := X0.below B
  replace Xb := Xb.below B
  replace Xc := Xc.below B
  replace hT := hT.below B
  replace p8 := p8.below B
  replace p11 := p11.below B
  replace HB := Lib.hid (bt HB.out B)
  clear B
  have xXb0 := Xb.at (i := 0) (v := .bool s8) rfl
  have xXb1 := Xb.at (i := 1) (v := .slice A8 n8 c8) rfl
  have xXb2 := Xb.at (i := 2) (v := .int .i64 t) rfl
  go_wp2_with fail
  refine (vMayW p8 (by omega) HMZ.out).mono ?_
  rintro ee w14 ⟨rfl, B⟩
  clear xXb0 xXb1 xXb2
  replace X0 := X0.below B
  replace Xb := Xb.below B
  replace Xc := Xc.below B
  replace hT := hT.below B
  replace p8 := p8.below B
  replace p11 := p11.below B
  replace HB := Lib.hid (bt HB.out B)
  clear B
  go_wp2
  go_ret
  exact ⟨rfl, HB.out⟩

set_option maxHeartbeats 4000000 in
theorem decimalBack_fn (s0 : Bool) (a0 : Option Addr) (len0 cap0 : Nat) (e0 : Int) (l1 : List UInt8) (w : World) (b0 : Nat) (z t x : Int) (hT : Pt w) (h0 : Rd w a0 len0 cap0 b0) (hf : len0 ≤ 10) (hg : l1.length ≤ 300) (hm : mayC s0 len0 b0 e0 = false) (hp : tparse l1 = ((z, t), x)) (hx : x ≠ 0) :
    Calls Tryz.prog 6 #[.agg #[.bool s0, .slice a0 len0 cap0, .int .i64 e0], .string (st l1)] w (PB w true) := by
  have t0 : decide ((10 : Int) < (len0 : Int)) = false := by simp; omega
  have hsz : (st l1).size = l1.length := st_size l1
  obtain ⟨d, hd⟩ : ∃ d, l1.length = d := ⟨_, rfl⟩
  rw [hd] at hsz hg
  have t1 : decide ((300 : Int) < (d : Int)) = false := by simp; omega
  have l0 : len0 ≤ 20 := by omega
  have HM := Lib.hid hm
  obtain ⟨rfl, rfl⟩ := tparse_bad hp hx
  have tx : (x == 0) = false := by simpa using hx
  have HP := Lib.hid (fun w => vParseE w hp)
  clear hp hd hm hx
  go_enter Tryz.func6, Tryz.ntmps6
  go_upto_region 1 with (fail)
  have X0 := (Bo.newAt w (g := w.heap.size) (by simp) #[.bool s0, .slice a0 len0 cap0, .int .i64 e0] 27)
  have HB := Lib.hid (bel1 w (.cells #[.bool s0, .slice a0 len0 cap0, .int .i64 e0] 27))
  replace hT := hT.below HB.out
  replace h0 := h0.below HB.out
  generalize hW1 : (w.alloc (.cells #[.bool s0, .slice a0 len0 cap0, .int .i64 e0] 27)) = w1 at *
  clear hW1
  go_wp2_with fail
  refine (awake4 _ hT).mono ?_
  rintro ee w2 ⟨rfl, B⟩
  replace X0 := X0.below B
  replace hT := hT.below B
  replace h0 := h0.below B
  replace HB := Lib.hid (bt HB.out B)
  clear B
  have xX00 := X0.at (i := 0) (v := .bool s0) rfl
  have xX01 := X0.at (i := 1) (v := .slice a0 len0 cap0) rfl
  have xX02 := X0.at (i := 2) (v := .int .i64 e0) rfl
  go_wp2_with fail
  refine (vMayD h0 (by omega) HM.out).mono ?_
  rintro ee w3 ⟨rfl, B⟩
  clear xX00 xX01 xX02
  replace X0 := X0.below B
  replace hT := hT.below B
  replace h0 := h0.below B
  replace HB := Lib.hid (bt HB.out B)
  clear B
  clear h0
  go_wp2_with fail
  refine (HP.out _).mono ?_
  rintro ee w8 ⟨s8, A8, n8, c8, rfl, p8, k8, B⟩
  replace X0 := X0.below B
  replace hT := hT.below B
  replace HB := Lib.hid (bt HB.out B)
  clear B
  go_upto_region 10 with (fail)
  have hz : n8 = 0 := by have := p8.1.pos; omega
  subst hz
  clear p8
  have lXb := Nat.le_refl (World.heap w8).size
  have nXbX0 := X0.lt
  replace X0 := X0.below (bel1 _ (.cells #[.bool s8, .slice A8 0 c8, .int .i64 0] 27))
  replace hT := hT.below (bel1 _ (.cells #[.bool s8, .slice A8 0 c8, .int .i64 0] 27))
  replace HB := Lib.hid (bt HB.out (bel1 _ (.cells #[.bool s8, .slice A8 0 c8, .int .i64 0] 27)))
  have Xb := Bo.new w8 #[.bool s8, .slice A8 0 c8, .int .i64 0] 27
  generalize hWn : World.alloc w8 (.cells #[.bool s8, .slice A8 0 c8, .int .i64 0] 27) = w9 at *
  clear hWn
  have xXb0 := Xb.at (i := 0) (v := .bool s8) rfl
  have xXb1 := Xb.at (i := 1) (v := .slice A8 0 c8) rfl
  have xXb2 := Xb.at (i := 2) (v := .int .i64 0) rfl
  go_wp2
  go_ret
  exact ⟨rfl, HB.out⟩


theorem decimalBack_walk (s0 : Bool) (a0 : Option Addr) (len0 cap0 : Nat) (y0 : List Int) (e0 : Int) (l1 : List UInt8) (w : World) (hT : Pt w) (w0 : RowIn w a0 len0 cap0 y0) (f0 : -9223372036854775808 ≤ e0) (g0 : e0 ≤ 9223372036854775807)  :
    Calls Tryz.prog 6 #[.agg #[.bool s0, .slice a0 len0 cap0, .int .i64 e0], .string (st l1)] w fun e w' => e = .returned (.bool true) ∧ Below w.heap.size w w' := by
  by_cases hf : len0 ≤ 10
  · by_cases hg : l1.length ≤ 300
    · obtain ⟨u, r0⟩ := w0.rd (by omega)
      obtain ⟨z, t, x, hp⟩ : ∃ z t x, tparse l1 = ((z, t), x) := ⟨_, _, _, rfl⟩
      cases hm : mayC s0 len0 u e0
      · by_cases hx : x = 0
        · exact decimalBack_fy s0 a0 len0 cap0 e0 l1 w u z t x hT r0 hf hg hm hp hx
        · exact decimalBack_fn s0 a0 len0 cap0 e0 l1 w u z t x hT r0 hf hg hm hp hx
      · by_cases hx : x = 0
        · exact decimalBack_ty s0 a0 len0 cap0 e0 l1 w u z t x hT r0 hf hg hm hp hx
        · exact decimalBack_tn s0 a0 len0 cap0 e0 l1 w u z t x hT r0 hf hg hm hp hx
    · exact decimalBack_far1 s0 a0 len0 cap0 e0 l1 w hT hf (by omega)
  · exact decimalBack_far0 s0 a0 len0 cap0 e0 l1 w hT (by omega)
end Go.Proofs.YtdfnjhkcicnkpaaGreatDoor

/-
  Contracts and words that the statement's proof rests on, several texts in one: If, Ik.
-/
import Derived.Below
import Derived.BigCall
import Derived.BigGuard
import Derived.BigQuiet
import Derived.Carry
import Derived.Deep.DeepCutAuto
import Derived.Deep.Draws
import Derived.Deep.MidRow
import Derived.Deep.QuietTactic
import Derived.Deep.RegionHeld3
import Derived.Deep.RegionWith
import Derived.IntWalk
import Derived.Laws.AppendOwn
import Derived.Laws.Bits64b
import Derived.Laws.CopyOwn
import Derived.Laws.Externs
import Derived.Laws.MakeOwn
import Derived.Laws.OwnMore
import Derived.Laws.RangeAny
import Derived.Laws.Rows
import Derived.Lib.AppendIntMem
import Derived.Lib.Atoi
import Derived.Lib.AtoiErrMem
import Derived.Lib.BitFns
import Derived.Lib.FrozenHead2
import Derived.Lib.Hide
import Derived.Lib.ItoaMem
import Derived.Lib.ItoaNum
import Derived.Lib.Mul64
import Derived.Lib.OthersKept
import Derived.Lib.Repeat
import Derived.Lib.Strings
import Derived.Lib.TrailingZeros
import Derived.Lib.TrimByte
import Derived.Lib.UnsafeStr
import Derived.Maps.AppendAt
import Derived.RegionTactic
import Derived.StillTailTactics
import Derived.Test.YtpmakljahhhnfaaGreatDoorRows
import Derived.WalkKit
import Derived.WalkLawsBesides
import Derived.WalkMore
import Derived.WalkSpells
import Derived.Test.YtpmakljahhhnfaaGreatDoorYAal
import Derived.Test.YtpmakljahhhnfaaGreatDoorYAay
import Derived.Test.YtpmakljahhhnfaaGreatDoorYAaz
import Derived.Test.YtpmakljahhhnfaaGreatDoorYAbk
/-
  What the document's From of layer 7 does.
-/
namespace Go.Proofs.YtpmakljahhhnfaaGreatDoor
open Go.RowKit
set_option linter.unusedVariables false
set_option linter.unusedSimpArgs false
set_option maxRecDepth 100000

/-- The place of a decimal number. -/
def Fm (up : Bool) (may : Bool) (z t r : Int) : Prop := if may = false then r = 0 else if 0 ≤ t then Rq up (z * ((10 ^ t.toNat : Nat) : Int)) 1 r else Rq up z ((10 ^ (-t).toNat : Nat) : Int) r
theorem fm_no {up : Bool} {z t r : Int} : Fm up false z t r ↔ r = 0 := by
  unfold Fm
  rw [if_pos rfl]
theorem fm_up {up : Bool} {z t r : Int} (h : 0 ≤ t) : Fm up true z t r ↔ Rq up (z * ((10 ^ t.toNat : Nat) : Int)) 1 r := by
  unfold Fm
  rw [if_neg (by decide), if_pos h]
theorem fm_dn {up : Bool} {z t r : Int} (h : ¬ 0 ≤ t) : Fm up true z t r ↔ Rq up z ((10 ^ (-t).toNat : Nat) : Int) r := by
  unfold Fm
  rw [if_neg (by decide), if_neg h]
theorem fm_ex (up may : Bool) (z t : Int) : ∃ r, Fm up may z t r := by
  cases may
  · exact ⟨0, fm_no.2 rfl⟩
  · by_cases c : 0 ≤ t
    · obtain ⟨r, h⟩ := rq_ex up (z * ((10 ^ t.toNat : Nat) : Int)) 1
      exact ⟨r, (fm_up c).2 h⟩
    · obtain ⟨r, h⟩ := rq_ex up z ((10 ^ (-t).toNat : Nat) : Int)
      exact ⟨r, (fm_dn c).2 h⟩
theorem fm_tens {s : Bool} {n a : Nat} {t : Int} (h : mayC s n a t = true) : -400 ≤ t ∧ t ≤ 400 := by
  unfold mayC at h
  by_cases h0 : n = 0
  · rw [if_pos h0] at h
    simp at h
    omega
  · rw [if_neg h0] at h
    simp at h
    omega
set_option maxHeartbeats 4000000 in
theorem jfrom_no {w : World} {A : Option Addr} {n c a : Nat} {s up : Bool} {t r : Int} (h : Rd w A n c a) (hn : n ≤ 1000) (hm : mayC s n a t = false) (hr : r = 0) : Calls Tryz.prog 15 #[.agg #[.bool s, .slice A n c, .int .i64 t], .bool up] w (PN w r) := by
  subst hr
  have HM := Lib.hid hm
  clear hm
  go_enter Tryz.func15, Tryz.ntmps15
  go_upto_region 1 with (fail)
  have X2 := (Bo.newAt w (g := w.heap.size) (by simp) #[.bool s, .slice A n c, .int .i64 t] 36).below (bel1 _ (.cells #[.int .i64 0, .bool false, .int .u64 0, .int .i64 0] 24))
  have XR := (Bo.newAt (w.alloc (.cells #[.bool s, .slice A n c, .int .i64 t] 36)) (g := w.heap.size + 1) (by simp) #[.int .i64 0, .bool false, .int .u64 0, .int .i64 0] 24)
  have HB := Lib.hid (bel2 w (.cells #[.bool s, .slice A n c, .int .i64 t] 36) (.cells #[.int .i64 0, .bool false, .int .u64 0, .int .i64 0] 24))
  replace h := h.below HB.out
  generalize hW1 : ((w.alloc (.cells #[.bool s, .slice A n c, .int .i64 t] 36)).alloc (.cells #[.int .i64 0, .bool false, .int .u64 0, .int .i64 0] 24)) = w1 at *
  clear hW1
  have xX20 := X2.a 0 (.bool s) rfl
  have xX21 := X2.a 1 (.slice A n c) rfl
  have xX22 := X2.a 2 (.int .i64 t) rfl
  go_wp2_with fail
  refine (uMay h hn HM.out).mono ?_
  rintro ee w2 ⟨rfl, B⟩
  clear xX20 xX21 xX22
  replace X2 := X2.below B
  replace XR := XR.below B
  replace h := h.below B
  replace HB := Lib.hid (bt HB.out B)
  clear B
  have xXR0 := XR.a 0 (.int .i64 0) rfl
  have zXR0 := XR.frozen 0
  have xXR1 := XR.a 1 (.bool false) rfl
  have zXR1 := XR.frozen 1
  have xXR2 := XR.a 2 (.int .u64 0) rfl
  have zXR2 := XR.frozen 2
  have xXR3 := XR.a 3 (.int .i64 0) rfl
  have zXR3 := XR.frozen 3
  go_wp2
  clear xXR0 zXR0 xXR1 zXR1 xXR2 zXR2 xXR3 zXR3
  have SX := StN.mk4 XR (.int .i64 0) (.bool false) (.int .u64 0) (.int .i64 0)
  replace X2 := X2.stn SX (by omega)
  replace HB := Lib.hid (SX.below HB.out (by omega))
  replace XR := SX.box
  clear SX
  generalize (World.setCell (World.setCell (World.setCell (World.setCell w2 ⟨w.heap.size + 1, 0, none⟩ (.int .i64 0)) ⟨w.heap.size + 1, 1, none⟩ (.bool false)) ⟨w.heap.size + 1, 2, none⟩ (.int .u64 0)) ⟨w.heap.size + 1, 3, none⟩ (.int .i64 0)) = w3 at *
  have r0 := XR.cell 0
  have r1 := XR.cell 1
  have r2 := XR.cell 2
  have r3 := XR.cell 3
  exact bodyPost_ret (v := .agg #[.int .i64 0, .bool false, .int .u64 0, .int .i64 0]) (by simp [results, Tryz.results15, go_sem, r0, r1, r2, r3]) rfl ⟨_, _, _, _, rfl, Fq.nought, HB.out⟩
set_option maxHeartbeats 4000000 in
theorem jfrom_up {w : World} {A : Option Addr} {n c a : Nat} {s up : Bool} {t r : Int} (h : Rd w A n c a) (hn : n ≤ 1000) (hm : mayC s n a t = true) (ht : 0 ≤ t) (hr : Rq up (sg s a * ((10 ^ t.toNat : Nat) : Int)) 1 r) : Calls Tryz.prog 15 #[.agg #[.bool s, .slice A n c, .int .i64 t], .bool up] w (PN w r) := by
  have hb := fm_tens hm
  have HM := Lib.hid hm
  obtain ⟨k, hk⟩ : ∃ k : Nat, t = (k : Int) := ⟨(t).toNat, by omega⟩
  have e1 : (t).toNat = k := by omega
  rw [e1] at hr
  have k2 : k ≤ 1000 := by omega
  obtain ⟨z, hz⟩ : ∃ z, sg s a * ((10 ^ k : Nat) : Int) = z := ⟨_, rfl⟩
  rw [hz] at hr
  
  have HZ := Lib.hid hz
  have HR := Lib.hid hr
  have hng : True := trivial
  have HK := Lib.hid hk
  clear hm hr hz e1 hk
  go_enter Tryz.func15, Tryz.ntmps15
  go_upto_region 1 with (fail)
  have X2 := (Bo.newAt w (g := w.heap.size) (by simp) #[.bool s, .slice A n c, .int .i64 t] 36).below (bel1 _ (.cells #[.int .i64 0, .bool false, .int .u64 0, .int .i64 0] 24))
  have XR := (Bo.newAt (w.alloc (.cells #[.bool s, .slice A n c, .int .i64 t] 36)) (g := w.heap.size + 1) (by simp) #[.int .i64 0, .bool false, .int .u64 0, .int .i64 0] 24)
  have HB := Lib.hid (bel2 w (.cells #[.bool s, .slice A n c, .int .i64 t] 36) (.cells #[.int .i64 0, .bool false, .int .u64 0, .int .i64 0] 24))
  replace h := h.below HB.out
  generalize hW1 : ((w.alloc (.cells #[.bool s, .slice A n c, .int .i64 t] 36)).alloc (.cells #[.int .i64 0, .bool false, .int .u64 0, .int .i64 0] 24)) = w1 at *
  clear hW1
  have xX20 := X2.a 0 (.bool s) rfl
  have xX21 := X2.a 1 (.slice A n c) rfl
  have xX22 := X2.a 2 (.int .i64 t) rfl
  go_wp2_with fail
  refine (uMay h hn HM.out).mono ?_
  rintro ee w2 ⟨rfl, B⟩
  clear xX20 xX21 xX22
  replace X2 := X2.below B
  replace XR := XR.below B
  replace h := h.below B
  replace HB := Lib.hid (bt HB.out B)
  clear B
  have xX20 := X2.a 0 (.bool s) rfl
  have xX21 := X2.a 1 (.slice A n c) rfl
  have xX22 := X2.a 2 (.int .i64 t) rfl
  go_wp2_with fail
  refine (qFrom 1 _ (by decide) (by decide)).mono ?_
  rintro ee w3 ⟨s1, A1, n1, c1, rfl, p1, k1, B⟩
  clear xX20 xX21 xX22
  replace X2 := X2.below B
  replace XR := XR.below B
  replace h := h.below B
  replace HB := Lib.hid (bt HB.out B)
  clear B
  go_upto_region 5 with (fail)
  have lX6 := Nat.le_refl (World.heap w3).size
  have nX6X2 := X2.lt
  have nX6XR := XR.lt
  replace X2 := X2.below (bel1 _ (.cells #[.bool s1, .slice A1 n1 c1] 34))
  replace XR := XR.below (bel1 _ (.cells #[.bool s1, .slice A1 n1 c1] 34))
  replace h := h.below (bel1 _ (.cells #[.bool s1, .slice A1 n1 c1] 34))
  replace p1 := p1.below (bel1 _ (.cells #[.bool s1, .slice A1 n1 c1] 34))
  replace HB := Lib.hid (bt HB.out (bel1 _ (.cells #[.bool s1, .slice A1 n1 c1] 34)))
  have X6 := Bo.new w3 #[.bool s1, .slice A1 n1 c1] 34
  generalize hWn : World.alloc w3 (.cells #[.bool s1, .slice A1 n1 c1] 34) = w4 at *
  clear hWn
  clear lX6
  have xX20 := X2.a 0 (.bool s) rfl
  have xX21 := X2.a 1 (.slice A n c) rfl
  have xX22 := X2.a 2 (.int .i64 t) rfl
  have xX60 := X6.a 0 (.bool s1) rfl
  have xX61 := X6.a 1 (.slice A1 n1 c1) rfl
  go_upto_region 6 with (fail)
  clear xX20 xX21 xX22 xX60 xX61
  refine Jo.region_joint (T := [0, 1, 2, 3, 4, 5, 6, 7]) (ds := [some 16, some 17, some 18, some 19, some 20, some 21, some 22, some 23, none]) (ls := [[], [0], [], [2], [1, 3], [], [], [4, 5, 6], []]) (k := 9) (L := [(some 16, 0), (some 17, 1), (some 18, 2), (some 19, 3), (some 20, 4), (some 21, 5), (some 22, 6), (some 23, 7)]) (fuel := 1) (J := fun wj => Below (World.heap w4).size w4 wj)
    (F := [Jo.Fact.eq (.pointer (some ⟨w.heap.size, 0, none⟩)), Jo.Fact.eq (.agg #[.bool s, .slice A n c]), Jo.Fact.eq (.pointer (some ⟨w.heap.size, 2, none⟩)), Jo.Fact.eq (.int .i64 t), Jo.Fact.wr z 3000, Jo.Fact.eq (.agg #[.bool s1, .slice A1 n1 c1]), Jo.Fact.eq (.bool up), Jo.Fact.num r, Jo.Fact.any])
    (by kernel_rfl) (by kernel_rfl) (by decide) rfl rfl (fun _ _ h b => bt h b) ((Below.refl _ _).drew) ?_ (fun vs w5 hJ hd => ?_)
  · refine Jo.jd 0 (some 16) [] (Jo.Fact.eq (.pointer (some ⟨w.heap.size, 0, none⟩))) rfl rfl rfl rfl (fun vs wj hJ hd K hK => ?_) ?_
    · simp only [Jo.putl, Jo.ze, Act.put, Jo.za, Jo.zb, Jo.zc] at hK ⊢
      clear hd
      go_simp
      exact hK.out _ _ rfl (Below.refl _ _)
    refine Jo.jd 1 (some 17) [(some 16, 0)] (Jo.Fact.eq (.agg #[.bool s, .slice A n c])) rfl rfl rfl rfl (fun vs wj hJ hd K hK => ?_) ?_
    · simp only [Jo.putl, Jo.zd, Jo.ze, Act.put, Jo.za, Jo.zb, Jo.zc] at hK ⊢
      rw [show vs 0 = _ from hd 0 (by decide)] at hK ⊢
      clear hd
      have xX20 := (X2.below hJ).a 0 (.bool s) rfl
      have xX21 := (X2.below hJ).a 1 (.slice A n c) rfl
      have xX22 := (X2.below hJ).a 2 (.int .i64 t) rfl
      go_simp
      exact hK.out _ _ rfl (Below.refl _ _)
    refine Jo.jd 2 (some 18) [] (Jo.Fact.eq (.pointer (some ⟨w.heap.size, 2, none⟩))) rfl rfl rfl rfl (fun vs wj hJ hd K hK => ?_) ?_
    · simp only [Jo.putl, Jo.ze, Act.put, Jo.za, Jo.zb, Jo.zc] at hK ⊢
      clear hd
      go_simp
      exact hK.out _ _ rfl (Below.refl _ _)
    refine Jo.jd 3 (some 19) [(some 18, 2)] (Jo.Fact.eq (.int .i64 t)) rfl rfl rfl rfl (fun vs wj hJ hd K hK => ?_) ?_
    · simp only [Jo.putl, Jo.zd, Jo.ze, Act.put, Jo.za, Jo.zb, Jo.zc] at hK ⊢
      rw [show vs 2 = _ from hd 2 (by decide)] at hK ⊢
      clear hd
      have xX22 := (X2.below hJ).a 2 (.int .i64 t) rfl
      go_simp
      exact hK.out _ _ rfl (Below.refl _ _)
    refine Jo.jd 4 (some 20) [(some 17, 1), (some 19, 3)] (Jo.Fact.wr z 3000) rfl rfl rfl rfl (fun vs wj hJ hd K hK => ?_) ?_
    · simp only [Jo.putl, Jo.zd, Jo.ze, Act.put, Jo.za, Jo.zb, Jo.zc] at hK ⊢
      rw [show vs 1 = _ from hd 1 (by decide), show vs 3 = _ from hd 3 (by decide)] at hK ⊢
      clear hd
      go_simp
      refine (uUp ((h.below hJ).wr s) hn HK.out k2 HZ.out).mono ?_
      rintro ee wk ⟨s4, A4, n4, c4, rfl, p4, k4, B⟩
      exact hK.out _ _ ⟨s4, A4, n4, c4, rfl, p4, k4⟩ B
    refine Jo.jd 5 (some 21) [] (Jo.Fact.eq (.agg #[.bool s1, .slice A1 n1 c1])) rfl rfl rfl rfl (fun vs wj hJ hd K hK => ?_) ?_
    · simp only [Jo.putl, Jo.ze, Act.put, Jo.za, Jo.zb, Jo.zc] at hK ⊢
      clear hd
      have xX60 := (X6.below hJ).a 0 (.bool s1) rfl
      have xX61 := (X6.below hJ).a 1 (.slice A1 n1 c1) rfl
      go_simp
      exact hK.out _ _ rfl (Below.refl _ _)
    refine Jo.jd 6 (some 22) [] (Jo.Fact.eq (.bool up)) rfl rfl rfl rfl (fun vs wj hJ hd K hK => ?_) ?_
    · simp only [Jo.putl, Jo.ze, Act.put, Jo.za, Jo.zb, Jo.zc] at hK ⊢
      clear hd
      go_simp
      exact hK.out _ _ rfl (Below.refl _ _)
    refine Jo.jd 7 (some 23) [(some 20, 4), (some 21, 5), (some 22, 6)] (Jo.Fact.num r) rfl rfl rfl rfl (fun vs wj hJ hd K hK => ?_) ?_
    · have d4 : (Jo.Fact.wr z 3000).P (vs 4) wj := hd 4 (by decide)
      simp only [Jo.putl, Jo.zd, Jo.ze, Act.put, Jo.za, Jo.zb, Jo.zc] at hK ⊢
      rw [show vs 5 = _ from hd 5 (by decide), show vs 6 = _ from hd 6 (by decide)] at hK ⊢
      clear hd
      generalize vs 4 = u4 at hK d4 ⊢
      obtain ⟨s4, A4, n4, c4, rfl, p4, k4⟩ := d4
      go_simp
      refine (jRatio p4 (p1.below hJ).wr (by omega) (by omega) HR.out).mono ?_
      rintro ee wk ⟨K5, s5, M5, E5, rfl, q5, B⟩
      exact hK.out _ _ ⟨K5, s5, M5, E5, rfl, q5⟩ B
    exact Jo.Steps.nil
  have d4 : (Jo.Fact.wr z 3000).P (vs 4) w5 := hd 4 (by decide)
  have d7 : (Jo.Fact.num r).P (vs 7) w5 := hd 7 (by decide)
  simp only [Jo.putl, Jo.zd, Jo.ze, Act.put, Jo.za, Jo.zb, Jo.zc]
  rw [show vs 1 = _ from hd 1 (by decide), show vs 3 = _ from hd 3 (by decide), show vs 5 = _ from hd 5 (by decide), show vs 6 = _ from hd 6 (by decide)]
  clear hd
  generalize vs 4 = u4 at d4 ⊢
  generalize vs 7 = u7 at d7 ⊢
  obtain ⟨_, _, _, _, rfl, _⟩ := d4
  obtain ⟨K5, s5, M5, E5, rfl, q5⟩ := d7
  replace X2 := X2.below hJ
  replace XR := XR.below hJ
  replace X6 := X6.below hJ
  replace h := h.below hJ
  replace p1 := p1.below hJ
  replace HB := Lib.hid (bt HB.out hJ)
  have xXR0 := XR.a 0 (.int .i64 0) rfl
  have zXR0 := XR.frozen 0
  have xXR1 := XR.a 1 (.bool false) rfl
  have zXR1 := XR.frozen 1
  have xXR2 := XR.a 2 (.int .u64 0) rfl
  have zXR2 := XR.frozen 2
  have xXR3 := XR.a 3 (.int .i64 0) rfl
  have zXR3 := XR.frozen 3
  refine Jo.jnext (i := 8) (o := ⟨none, _, _, _, _, _⟩) (by kernel_rfl) rfl (fun K hK => ?_)
  go_simp
  refine hK.out _ _ ?_
  clear hK K xXR0 zXR0 xXR1 zXR1 xXR2 zXR2 xXR3 zXR3
  have SX := StN.mk4 XR (.int .i64 K5) (.bool s5) (.int .u64 M5) (.int .i64 E5)
  replace X2 := X2.stn SX (by omega)
  replace X6 := X6.stn SX (by omega)
  replace HB := Lib.hid (SX.below HB.out (by omega))
  replace XR := SX.box
  clear SX
  generalize (World.setCell (World.setCell (World.setCell (World.setCell w5 ⟨w.heap.size + 1, 0, none⟩ (.int .i64 K5)) ⟨w.heap.size + 1, 1, none⟩ (.bool s5)) ⟨w.heap.size + 1, 2, none⟩ (.int .u64 M5)) ⟨w.heap.size + 1, 3, none⟩ (.int .i64 E5)) = w6 at *
  refine Jo.jdone (by kernel_rfl) ?_
  go_wp2
  have r0 := XR.cell 0
  have r1 := XR.cell 1
  have r2 := XR.cell 2
  have r3 := XR.cell 3
  exact bodyPost_ret (v := .agg #[.int .i64 K5, .bool s5, .int .u64 M5, .int .i64 E5]) (by simp [results, Tryz.results15, go_sem, r0, r1, r2, r3]) rfl ⟨_, _, _, _, rfl, q5, HB.out⟩
set_option maxHeartbeats 4000000 in
theorem jfrom_dn {w : World} {A : Option Addr} {n c a : Nat} {s up : Bool} {t r : Int} (h : Rd w A n c a) (hn : n ≤ 1000) (hm : mayC s n a t = true) (ht : ¬ 0 ≤ t) (hr : Rq up (sg s a) ((10 ^ (-t).toNat : Nat) : Int) r) : Calls Tryz.prog 15 #[.agg #[.bool s, .slice A n c, .int .i64 t], .bool up] w (PN w r) := by
  have hb := fm_tens hm
  have HM := Lib.hid hm
  obtain ⟨k, hk⟩ : ∃ k : Nat, -t = (k : Int) := ⟨(-t).toNat, by omega⟩
  have e1 : (-t).toNat = k := by omega
  rw [e1] at hr
  have k2 : k ≤ 1000 := by omega
  obtain ⟨z, hz⟩ : ∃ z, (1 : Int) * ((10 ^ k : Nat) : Int) = z := ⟨_, rfl⟩
  rw [Int.one_mul] at hz
  rw [hz] at hr
  have HZ := Lib.hid (show (1 : Int) * ((10 ^ k : Nat) : Int) = z by rw [Int.one_mul]; exact hz)
  have HR := Lib.hid hr
  have hng : IntKind.i64.wrap (-t) = -t := IntWalk.i64_in _ (by omega)
  have HK := Lib.hid hk
  clear hm hr hz e1 hk
  go_enter Tryz.func15, Tryz.ntmps15
  go_upto_region 1 with (fail)
  have X2 := (Bo.newAt w (g := w.heap.size) (by simp) #[.bool s, .slice A n c, .int .i64 t] 36).below (bel1 _ (.cells #[.int .i64 0, .bool false, .int .u64 0, .int .i64 0] 24))
  have XR := (Bo.newAt (w.alloc (.cells #[.bool s, .slice A n c, .int .i64 t] 36)) (g := w.heap.size + 1) (by simp) #[.int .i64 0, .bool false, .int .u64 0, .int .i64 0] 24)
  have HB := Lib.hid (bel2 w (.cells #[.bool s, .slice A n c, .int .i64 t] 36) (.cells #[.int .i64 0, .bool false, .int .u64 0, .int .i64 0] 24))
  replace h := h.below HB.out
  generalize hW1 : ((w.alloc (.cells #[.bool s, .slice A n c, .int .i64 t] 36)).alloc (.cells #[.int .i64 0, .bool false, .int .u64 0, .int .i64 0] 24)) = w1 at *
  clear hW1
  have xX20 := X2.a 0 (.bool s) rfl
  have xX21 := X2.a 1 (.slice A n c) rfl
  have xX22 := X2.a 2 (.int .i64 t) rfl
  go_wp2_with fail
  refine (uMay h hn HM.out).mono ?_
  rintro ee w2 ⟨rfl, B⟩
  clear xX20 xX21 xX22
  replace X2 := X2.below B
  replace XR := XR.below B
  replace h := h.below B
  replace HB := Lib.hid (bt HB.out B)
  clear B
  have xX20 := X2.a 0 (.bool s) rfl
  have xX21 := X2.a 1 (.slice A n c) rfl
  have xX22 := X2.a 2 (.int .i64 t) rfl
  go_wp2_with fail
  refine (qFrom 1 _ (by decide) (by decide)).mono ?_
  rintro ee w3 ⟨s1, A1, n1, c1, rfl, p1, k1, B⟩
  clear xX20 xX21 xX22
  replace X2 := X2.below B
  replace XR := XR.below B
  replace h := h.below B
  replace HB := Lib.hid (bt HB.out B)
  clear B
  go_upto_region 5 with (fail)
  have lX6 := Nat.le_refl (World.heap w3).size
  have nX6X2 := X2.lt
  have nX6XR := XR.lt
  replace X2 := X2.below (bel1 _ (.cells #[.bool s1, .slice A1 n1 c1] 34))
  replace XR := XR.below (bel1 _ (.cells #[.bool s1, .slice A1 n1 c1] 34))
  replace h := h.below (bel1 _ (.cells #[.bool s1, .slice A1 n1 c1] 34))
  replace p1 := p1.below (bel1 _ (.cells #[.bool s1, .slice A1 n1 c1] 34))
  replace HB := Lib.hid (bt HB.out (bel1 _ (.cells #[.bool s1, .slice A1 n1 c1] 34)))
  have X6 := Bo.new w3 #[.bool s1, .slice A1 n1 c1] 34
  generalize hWn : World.alloc w3 (.cells #[.bool s1, .slice A1 n1 c1] 34) = w4 at *
  clear hWn
  clear lX6
  have xX20 := X2.a 0 (.bool s) rfl
  have xX21 := X2.a 1 (.slice A n c) rfl
  have xX22 := X2.a 2 (.int .i64 t) rfl
  have xX60 := X6.a 0 (.bool s1) rfl
  have xX61 := X6.a 1 (.slice A1 n1 c1) rfl
  go_upto_region 7 with (fail)
  clear xX20 xX21 xX22 xX60 xX61
  refine Jo.region_joint (T := [0, 1, 2, 3, 4, 5, 6, 7, 8]) (ds := [some 24, some 25, some 26, some 27, some 28, some 29, some 30, some 31, some 32, none]) (ls := [[], [0], [], [], [3], [4], [2, 5], [], [1, 6, 7], []]) (k := 10) (L := [(some 24, 0), (some 25, 1), (some 26, 2), (some 27, 3), (some 28, 4), (some 29, 5), (some 30, 6), (some 31, 7), (some 32, 8)]) (fuel := 1) (J := fun wj => Below (World.heap w4).size w4 wj)
    (F := [Jo.Fact.eq (.pointer (some ⟨w.heap.size, 0, none⟩)), Jo.Fact.eq (.agg #[.bool s, .slice A n c]), Jo.Fact.eq (.agg #[.bool s1, .slice A1 n1 c1]), Jo.Fact.eq (.pointer (some ⟨w.heap.size, 2, none⟩)), Jo.Fact.eq (.int .i64 t), Jo.Fact.eq (.int .i64 (-t)), Jo.Fact.wr z 3000, Jo.Fact.eq (.bool up), Jo.Fact.num r, Jo.Fact.any])
    (by kernel_rfl) (by kernel_rfl) (by decide) rfl rfl (fun _ _ h b => bt h b) ((Below.refl _ _).drew) ?_ (fun vs w5 hJ hd => ?_)
  · refine Jo.jd 0 (some 24) [] (Jo.Fact.eq (.pointer (some ⟨w.heap.size, 0, none⟩))) rfl rfl rfl rfl (fun vs wj hJ hd K hK => ?_) ?_
    · simp only [Jo.putl, Jo.ze, Act.put, Jo.za, Jo.zb, Jo.zc] at hK ⊢
      clear hd
      go_simp
      exact hK.out _ _ rfl (Below.refl _ _)
    refine Jo.jd 1 (some 25) [(some 24, 0)] (Jo.Fact.eq (.agg #[.bool s, .slice A n c])) rfl rfl rfl rfl (fun vs wj hJ hd K hK => ?_) ?_
    · simp only [Jo.putl, Jo.zd, Jo.ze, Act.put, Jo.za, Jo.zb, Jo.zc] at hK ⊢
      rw [show vs 0 = _ from hd 0 (by decide)] at hK ⊢
      clear hd
      have xX20 := (X2.below hJ).a 0 (.bool s) rfl
      have xX21 := (X2.below hJ).a 1 (.slice A n c) rfl
      have xX22 := (X2.below hJ).a 2 (.int .i64 t) rfl
      go_simp
      exact hK.out _ _ rfl (Below.refl _ _)
    refine Jo.jd 2 (some 26) [] (Jo.Fact.eq (.agg #[.bool s1, .slice A1 n1 c1])) rfl rfl rfl rfl (fun vs wj hJ hd K hK => ?_) ?_
    · simp only [Jo.putl, Jo.ze, Act.put, Jo.za, Jo.zb, Jo.zc] at hK ⊢
      clear hd
      have xX60 := (X6.below hJ).a 0 (.bool s1) rfl
      have xX61 := (X6.below hJ).a 1 (.slice A1 n1 c1) rfl
      go_simp
      exact hK.out _ _ rfl (Below.refl _ _)
    refine Jo.jd 3 (some 27) [] (Jo.Fact.eq (.pointer (some ⟨w.heap.size, 2, none⟩))) rfl rfl rfl rfl (fun vs wj hJ hd K hK => ?_) ?_
    · simp only [Jo.putl, Jo.ze, Act.put, Jo.za, Jo.zb, Jo.zc] at hK ⊢
      clear hd
      go_simp
      exact hK.out _ _ rfl (Below.refl _ _)
    refine Jo.jd 4 (some 28) [(some 27, 3)] (Jo.Fact.eq (.int .i64 t)) rfl rfl rfl rfl (fun vs wj hJ hd K hK => ?_) ?_
    · simp only [Jo.putl, Jo.zd, Jo.ze, Act.put, Jo.za, Jo.zb, Jo.zc] at hK ⊢
      rw [show vs 3 = _ from hd 3 (by decide)] at hK ⊢
      clear hd
      have xX22 := (X2.below hJ).a 2 (.int .i64 t) rfl
      go_simp
      exact hK.out _ _ rfl (Below.refl _ _)
    refine Jo.jd 5 (some 29) [(some 28, 4)] (Jo.Fact.eq (.int .i64 (-t))) rfl rfl rfl rfl (fun vs wj hJ hd K hK => ?_) ?_
    · simp only [Jo.putl, Jo.zd, Jo.ze, Act.put, Jo.za, Jo.zb, Jo.zc] at hK ⊢
      rw [show vs 4 = _ from hd 4 (by decide)] at hK ⊢
      clear hd
      go_simp
      exact hK.out _ _ rfl (Below.refl _ _)
    refine Jo.jd 6 (some 30) [(some 26, 2), (some 29, 5)] (Jo.Fact.wr z 3000) rfl rfl rfl rfl (fun vs wj hJ hd K hK => ?_) ?_
    · simp only [Jo.putl, Jo.zd, Jo.ze, Act.put, Jo.za, Jo.zb, Jo.zc] at hK ⊢
      rw [show vs 2 = _ from hd 2 (by decide), show vs 5 = _ from hd 5 (by decide)] at hK ⊢
      clear hd
      go_simp
      refine (uUp (p1.below hJ).wr (by omega) HK.out k2 HZ.out).mono ?_
      rintro ee wk ⟨s4, A4, n4, c4, rfl, p4, k4, B⟩
      exact hK.out _ _ ⟨s4, A4, n4, c4, rfl, p4, k4⟩ B
    refine Jo.jd 7 (some 31) [] (Jo.Fact.eq (.bool up)) rfl rfl rfl rfl (fun vs wj hJ hd K hK => ?_) ?_
    · simp only [Jo.putl, Jo.ze, Act.put, Jo.za, Jo.zb, Jo.zc] at hK ⊢
      clear hd
      go_simp
      exact hK.out _ _ rfl (Below.refl _ _)
    refine Jo.jd 8 (some 32) [(some 25, 1), (some 30, 6), (some 31, 7)] (Jo.Fact.num r) rfl rfl rfl rfl (fun vs wj hJ hd K hK => ?_) ?_
    · have d6 : (Jo.Fact.wr z 3000).P (vs 6) wj := hd 6 (by decide)
      simp only [Jo.putl, Jo.zd, Jo.ze, Act.put, Jo.za, Jo.zb, Jo.zc] at hK ⊢
      rw [show vs 1 = _ from hd 1 (by decide), show vs 7 = _ from hd 7 (by decide)] at hK ⊢
      clear hd
      generalize vs 6 = u6 at hK d6 ⊢
      obtain ⟨s4, A4, n4, c4, rfl, p4, k4⟩ := d6
      go_simp
      refine (jRatio ((h.below hJ).wr s) p4 (by omega) (by omega) HR.out).mono ?_
      rintro ee wk ⟨K5, s5, M5, E5, rfl, q5, B⟩
      exact hK.out _ _ ⟨K5, s5, M5, E5, rfl, q5⟩ B
    exact Jo.Steps.nil
  have d6 : (Jo.Fact.wr z 3000).P (vs 6) w5 := hd 6 (by decide)
  have d8 : (Jo.Fact.num r).P (vs 8) w5 := hd 8 (by decide)
  simp only [Jo.putl, Jo.zd, Jo.ze, Act.put, Jo.za, Jo.zb, Jo.zc]
  rw [show vs 1 = _ from hd 1 (by decide), show vs 2 = _ from hd 2 (by decide), show vs 4 = _ from hd 4 (by decide), show vs 5 = _ from hd 5 (by decide), show vs 7 = _ from hd 7 (by decide)]
  clear hd
  generalize vs 6 = u6 at d6 ⊢
  generalize vs 8 = u8 at d8 ⊢
  obtain ⟨_, _, _, _, rfl, _⟩ := d6
  obtain ⟨K5, s5, M5, E5, rfl, q5⟩ := d8
  replace X2 := X2.below hJ
  replace XR := XR.below hJ
  replace X6 := X6.below hJ
  replace h := h.below hJ
  replace p1 := p1.below hJ
  replace HB := Lib.hid (bt HB.out hJ)
  have xXR0 := XR.a 0 (.int .i64 0) rfl
  have zXR0 := XR.frozen 0
  have xXR1 := XR.a 1 (.bool false) rfl
  have zXR1 := XR.frozen 1
  have xXR2 := XR.a 2 (.int .u64 0) rfl
  have zXR2 := XR.frozen 2
  have xXR3 := XR.a 3 (.int .i64 0) rfl
  have zXR3 := XR.frozen 3
  refine Jo.jnext (i := 9) (o := ⟨none, _, _, _, _, _⟩) (by kernel_rfl) rfl (fun K hK => ?_)
  go_simp
  refine hK.out _ _ ?_
  clear hK K xXR0 zXR0 xXR1 zXR1 xXR2 zXR2 xXR3 zXR3
  have SX := StN.mk4 XR (.int .i64 K5) (.bool s5) (.int .u64 M5) (.int .i64 E5)
  replace X2 := X2.stn SX (by omega)
  replace X6 := X6.stn SX (by omega)
  replace HB := Lib.hid (SX.below HB.out (by omega))
  replace XR := SX.box
  clear SX
  generalize (World.setCell (World.setCell (World.setCell (World.setCell w5 ⟨w.heap.size + 1, 0, none⟩ (.int .i64 K5)) ⟨w.heap.size + 1, 1, none⟩ (.bool s5)) ⟨w.heap.size + 1, 2, none⟩ (.int .u64 M5)) ⟨w.heap.size + 1, 3, none⟩ (.int .i64 E5)) = w6 at *
  refine Jo.jdone (by kernel_rfl) ?_
  go_wp2
  have r0 := XR.cell 0
  have r1 := XR.cell 1
  have r2 := XR.cell 2
  have r3 := XR.cell 3
  exact bodyPost_ret (v := .agg #[.int .i64 K5, .bool s5, .int .u64 M5, .int .i64 E5]) (by simp [results, Tryz.results15, go_sem, r0, r1, r2, r3]) rfl ⟨_, _, _, _, rfl, q5, HB.out⟩
theorem jFrom {w : World} {A : Option Addr} {n c a : Nat} {s up m : Bool} {t r : Int} (h : Rd w A n c a) (hn : n ≤ 1000) (hm : mayC s n a t = m) (hr : Fm up m (sg s a) t r) : Calls Tryz.prog 15 #[.agg #[.bool s, .slice A n c, .int .i64 t], .bool up] w (PN w r) := by
  cases m
  · exact jfrom_no h hn hm (fm_no.1 hr)
  · by_cases ht : 0 ≤ t
    · exact jfrom_up h hn hm ht ((fm_up ht).1 hr)
    · exact jfrom_dn h hn hm ht ((fm_dn ht).1 hr)
end Go.Proofs.YtpmakljahhhnfaaGreatDoor

/-
  What the examples of layer 7 rest on: a third, a half, the root of four. Plain arithmetic; no Go text.
-/
namespace Go.Proofs.YtpmakljahhhnfaaGreatDoor
open Go.RowKit
set_option linter.unusedVariables false

theorem opl_fz {n : Int} (h0 : n ≠ 0) (h1 : -9223372036854775808 ≤ n) (h2 : n ≤ 9223372036854775807) : Fz (opl n) 1600 := by
  have q := of_fq h0 h1 h2
  have hb := blen_mono_le (n := n.natAbs) (k := 64) (by omega)
  have hf : fewq 1 (-(64 - (blen n.natAbs : Int))) = true := by
    unfold fewq
    rw [decide_eq_true (show -1500 ≤ -(64 - (blen n.natAbs : Int)) by omega), decide_eq_true (show -(64 - (blen n.natAbs : Int)) ≤ 1500 by omega)]
    rfl
  have := few_fz (s := decide (n < 0)) q.top hf
  rw [q.rk] at this
  exact this
theorem fz_fit {x : Int} {h : Nat} (f : Fz x h) (hi : infp x = false) : Fit h (ep x) := by
  rcases f with f | f
  · rw [hi] at f; cases f
  · exact f
theorem pow_three : ∀ k : Nat, (2 : Int) ^ k % 3 ≠ 0
  | 0 => by decide
  | k + 1 => by
    have := pow_three k
    rw [Int.pow_succ]
    omega
def qtr : Int := 9670807037734637837221889
theorem fq_qtr : Fq 1 false 9223372036854775808 (-65) qtr := Fq.fin (by decide) (by decide) (by decide) (by decide) (by decide)
theorem qtr_vr : vr qtr * 4 = 2 ^ KK := by
  have hk := KK_eq
  obtain ⟨_, _, _, _, _, _, _, hv, _⟩ := fq_vr fq_qtr
  rw [hv, wsg_f, show (9223372036854775808 : Int) = 2 ^ 63 by decide, show (4 : Int) = 2 ^ 2 by decide, ← Int.pow_add, ← Int.pow_add]
  congr 1
theorem fin_one {D : Int} {s : Bool} {M E r : Int} (q : Fq D s M E r) (h0 : 0 < r) (h1 : r < 19342822337206103650074625) : D = 1 := by
  rcases q.cases with ⟨_, _, _, _, h⟩ | ⟨h, _⟩ | ⟨_, _, _, ⟨_, h⟩ | ⟨_, h⟩⟩
  · omega
  · exact h
  · omega
  · omega
/-- A third is none of the numbers, so both sides are neighbours, above nought. -/
theorem third : ∃ l h, Qt false (opl 1) (opl 3) l ∧ Qt true (opl 1) (opl 3) h ∧ nx true l = h ∧ 0 < l ∧ l < 19342822337206103650074625 := by
  have htp := TP_eq
  obtain ⟨l, hl⟩ := qt_ex false (opl 1) (opl 3)
  obtain ⟨h, hh⟩ := qt_ex true (opl 1) (opl 3)
  obtain ⟨a1, a2⟩ := opl_pos (n := 1) (by decide) (by decide)
  obtain ⟨b1, b2⟩ := opl_pos (n := 3) (by decide) (by decide)
  have va := opl_vr (n := 1) (by decide) (by decide)
  have vb := opl_vr (n := 3) (by decide) (by decide)
  have ia := infp_fin (show -19342822337206103650074625 < opl 1 by omega) a2
  have ib := infp_fin (show -19342822337206103650074625 < opl 3 by omega) b2
  have fa := fz_fit (opl_fz (n := 1) (by decide) (by decide) (by decide)) ia
  have fb := fz_fit (opl_fz (n := 3) (by decide) (by decide) (by decide)) ib
  obtain ⟨c1, c2, c3, c4, c5, c6, c7⟩ := qt_holds (by omega) a2 b1 b2 fa fb hl hh
  rw [va, vb] at c5 c6
  have hz := p2pos KK
  have hne : h ≠ l := by
    intro e
    rw [e] at c6
    have e1 : vr l * (3 * 2 ^ KK) = 1 * 2 ^ KK * 2 ^ KK := by omega
    have e2 : vr l * 3 = 2 ^ KK := by
      refine Int.eq_of_mul_eq_mul_right (Int.ne_of_gt hz) ?_
      rw [Int.mul_assoc, e1, Int.one_mul]
    have := pow_three KK
    omega
  have el : h = l + 1 := by omega
  have hn : ¬ (opl 1 = 0 ∨ infp (opl 3) = true) := by
    rw [ib]
    rintro (c | c)
    · omega
    · cases c
  have sl := (qt_fin (by omega) hn ia).1 hl
  rw [decide_eq_false (show ¬ opl 3 < 0 by omega), wsg_f, wsg_f, va, vb] at sl
  have sq : Sid false (vr qtr) 1 qtr := sid_exact (by decide) (by decide) (by decide) (Int.mul_one _)
  have hq := qtr_vr
  have hlow := sq.mono (by decide) (show (0 : Int) < 3 * 2 ^ KK by omega) sl (by
    rw [Int.mul_one, Int.one_mul, ← Int.mul_assoc]
    refine Int.mul_le_mul_of_nonneg_right ?_ (Int.le_of_lt hz)
    omega)
  have hqp : 0 < qtr := by decide
  refine ⟨l, h, hl, hh, ?_, by omega, c2⟩
  unfold nx
  rw [if_pos rfl]
  omega
theorem root_four : Ro true (opl 4) (opl 2) true := by
  obtain ⟨a1, a2⟩ := opl_pos (n := 4) (by decide) (by decide)
  have ia := infp_fin (show -19342822337206103650074625 < opl 4 by omega) a2
  refine (ro_fin (by omega) ?_).2 ⟨?_, rfl⟩
  · rw [ia]
    rintro (c | c)
    · omega
    · cases c
  · have := rt_square (up := true) (n := 2) (by decide) (by decide)
    rw [show (2 : Int) * 2 = 4 by decide] at this
    exact this
theorem limbs_five : limbs 5 = [5] := by
  rw [limbs_pos (by decide), show (5 : Nat) / 4294967296 = 0 by decide, limbs_zero]
theorem may_half : mayC false 1 5 (-1) = true := by
  unfold mayC mayB
  rw [limbs_five]
  decide
theorem from_half : Fm false true 5 (-1) hlf := by
  refine (fm_dn (by decide)).2 ?_
  rw [show (-(-1 : Int)).toNat = 1 by decide, show ((10 ^ 1 : Nat) : Int) = 10 by decide]
  refine (rq_some (by decide)).2 ?_
  rw [decide_eq_false (by decide), wsg_f, wsg_f]
  have h := hlf_vr
  refine sid_exact (by decide) (by decide) (by decide) ?_
  omega
theorem half_one : mulp true (opl 1) hlf = hlf := by
  rw [mulp_comm]
  exact mulp_one true (by decide) (by decide)
end Go.Proofs.YtpmakljahhhnfaaGreatDoor

/-
  Contracts and words that the statement's proof rests on, several texts in one: Kj, Lm, Kl, Kq, Gm, Gn, Gq, Gr.
-/
import Derived.Below
import Derived.BigQuiet
import Derived.Carry
import Derived.Deep.DeepCutAuto
import Derived.Deep.Draws
import Derived.Deep.MidRow
import Derived.Deep.QuietTactic
import Derived.Deep.RegionHeld3
import Derived.Deep.RegionWith
import Derived.IntWalk
import Derived.Laws.CopyOwn
import Derived.Laws.MakeOwn
import Derived.Laws.OwnMore
import Derived.Laws.Rows
import Derived.Lib.BitFns
import Derived.Lib.Hide
import Derived.Maps.AppendAt
import Derived.StillTailTactics
import Derived.Test.YtpmakljahhhnfaaGreatDoorRows
import Derived.WalkKit
import Derived.WalkLawsBesides
import Derived.WalkSpells
import Derived.Test.YtpmakljahhhnfaaGreatDoorYAah
import Derived.Test.YtpmakljahhhnfaaGreatDoorYAaj
import Derived.Test.YtpmakljahhhnfaaGreatDoorYAak
import Derived.Test.YtpmakljahhhnfaaGreatDoorYAal
import Derived.Test.YtpmakljahhhnfaaGreatDoorYAam
import Derived.Test.YtpmakljahhhnfaaGreatDoorYAaq
import Derived.Test.YtpmakljahhhnfaaGreatDoorYAat
/-
  What the document's Round and Of do.
-/
namespace Go.Proofs.YtpmakljahhhnfaaGreatDoor
open Go.RowKit
set_option linter.unusedVariables false
set_option linter.unusedSimpArgs false
set_option maxRecDepth 100000

theorem fin_nc {a : Nat} {E : Int} (s : Bool) (h : a ≠ 0) : fin s (tp a) (xp a E) false = sgi s (lo a E) := by
  have := TP_eq
  unfold fin lo
  rw [if_neg h]
  refine congrArg (sgi s) ?_
  by_cases c1 : 1048576 < xp a E
  · rw [if_pos c1, if_pos c1, if_neg (by decide)]
    omega
  · rw [if_neg c1, if_neg c1]
    by_cases c2 : xp a E < -1048576
    · rw [if_pos c2, if_pos c2, if_neg (by decide)]
    · rw [if_neg c2, if_neg c2]
theorem fin_small {a : Nat} {E : Int} (s : Bool) (h : a ≠ 0) (hl : blen a ≤ 64) : fin s (tp a) (xp a E) true = sgi s (hi a E) := by
  have := TP_eq
  have e0 : (a == 0) = false := by simpa using h
  unfold fin hi ext lo
  rw [if_neg h, e0, Bool.false_or, decide_eq_true hl, Bool.and_true]
  congr 1
  by_cases c1 : 1048576 < xp a E
  · rw [if_pos c1, if_pos rfl, decide_eq_false (show ¬ xp a E ≤ 1048576 by omega), Bool.false_and, if_neg (by decide), if_pos c1]
    omega
  · rw [if_neg c1, if_neg c1, decide_eq_true (show xp a E ≤ 1048576 by omega), Bool.true_and]
    by_cases c2 : xp a E < -1048576
    · rw [if_pos c2, if_pos rfl, decide_eq_false (show ¬ -1048576 ≤ xp a E by omega), if_neg (by decide), if_pos c2]
      rfl
    · rw [if_neg c2, decide_eq_true (show -1048576 ≤ xp a E by omega), if_pos rfl, if_neg c2]
theorem hi_big {a : Nat} {E : Int} (hl : 64 < blen a) : hi a E = lo a E + 1 := by
  have h0 : a ≠ 0 := fun e => by rw [e] at hl; exact absurd hl (by decide)
  have e0 : (a == 0) = false := by simpa using h0
  have : ext a E = false := by
    unfold ext
    rw [e0, decide_eq_false (show ¬ blen a ≤ 64 by omega)]
    simp
  unfold hi
  rw [this, if_neg (by decide)]
theorem fin_up {a : Nat} {E : Int} (s : Bool) (hl : 64 < blen a) (ht : tp a + 1 < 2 ^ 64) : fin s ((tp a + 1 : Nat) : Int) (xp a E) true = sgi s (hi a E) := by
  have := TP_eq
  have h0 : a ≠ 0 := fun e => by rw [e] at hl; exact absurd hl (by decide)
  rw [hi_big hl]
  unfold fin lo
  rw [if_neg h0]
  congr 1
  by_cases c1 : 1048576 < xp a E
  · rw [if_pos c1, if_pos c1, if_pos rfl]
    omega
  · rw [if_neg c1, if_neg c1]
    by_cases c2 : xp a E < -1048576
    · rw [if_pos c2, if_pos c2, if_pos rfl]
      rfl
    · rw [if_neg c2, if_neg c2]
      omega
theorem fin_carry {a : Nat} {E : Int} (s : Bool) (hl : 64 < blen a) (ht : tp a + 1 = 2 ^ 64) : fin s 9223372036854775808 (xp a E + 1) true = sgi s (hi a E) := by
  have := TP_eq
  have h0 : a ≠ 0 := fun e => by rw [e] at hl; exact absurd hl (by decide)
  rw [hi_big hl]
  unfold fin lo
  rw [if_neg h0]
  congr 1
  by_cases c1 : 1048576 < xp a E
  · rw [if_pos (show 1048576 < xp a E + 1 by omega), if_pos c1, if_pos rfl]
    omega
  · rw [if_neg c1]
    by_cases c3 : 1048576 < xp a E + 1
    · rw [if_pos c3, if_pos rfl, if_neg (show ¬ xp a E < -1048576 by omega)]
      omega
    · rw [if_neg c3]
      by_cases c2 : xp a E < -1048576
      · rw [if_pos c2]
        by_cases c4 : xp a E + 1 < -1048576
        · rw [if_pos c4, if_pos rfl]
          rfl
        · rw [if_neg c4]
          omega
      · rw [if_neg c2, if_neg (by omega)]
        omega
theorem tp_one {a : Nat} (h : 64 < blen a) : a / 2 ^ ((blen a : Int) - 64).toNat = tp a := by
  rw [tp_big (by omega), show ((blen a : Int) - 64).toNat = blen a - 64 by omega]
theorem tp_shl {a : Nat} (h : blen a ≤ 64) : a * 2 ^ (64 - (blen a : Int)).toNat = tp a := by
  rw [tp_small h, show (64 - (blen a : Int)).toNat = 64 - blen a by omega]
set_option maxHeartbeats 4000000 in
theorem yround_zero {w : World} {A : Option Addr} {n c a : Nat} {s sg0 up : Bool} {z e N E : Int} (h : Wr w s A n c z) (hn : n ≤ 100000) (hN : (mk z e).1 = N) (hE : (mk z e).2 = E) (ha : N.natAbs = a) (hs : decide (N < 0) = sg0) (h0 : a = 0) :
    Calls Tryz.prog 33 #[.agg #[.bool s, .slice A n c, .int .i64 e], .bool up] w (PN w 0) := by
  obtain ⟨b1, b2⟩ := mk_bd z e
  rw [hE] at b1 b2
  have HN := Lib.hid hN
  have HE := Lib.hid hE
  have HA := Lib.hid ha
  have HSG := Lib.hid hs
  clear hN hE ha hs
  subst h0
  go_enter Tryz.func33, Tryz.ntmps33
  go_upto_region 1 with (fail)
  have X1 := (Bo.newAt w (g := w.heap.size) (by simp) #[.bool s, .slice A n c, .int .i64 e] 51).below (bel1 _ (.cells #[.int .i64 0, .bool false, .int .u64 0, .int .i64 0] 24))
  have XR := (Bo.newAt (w.alloc (.cells #[.bool s, .slice A n c, .int .i64 e] 51)) (g := w.heap.size + 1) (by simp) #[.int .i64 0, .bool false, .int .u64 0, .int .i64 0] 24)
  have HB := Lib.hid (bel2 w (.cells #[.bool s, .slice A n c, .int .i64 e] 51) (.cells #[.int .i64 0, .bool false, .int .u64 0, .int .i64 0] 24))
  replace h := h.below HB.out
  generalize hW1 : ((w.alloc (.cells #[.bool s, .slice A n c, .int .i64 e] 51)).alloc (.cells #[.int .i64 0, .bool false, .int .u64 0, .int .i64 0] 24)) = w1 at *
  clear hW1
  have xX10 := X1.a 0 (.bool s) rfl
  have xX11 := X1.a 1 (.slice A n c) rfl
  have xX12 := X1.a 2 (.int .i64 e) rfl
  go_wp2_with fail
  refine (q3Make h hn HN.out HE.out).mono ?_
  rintro ee w2 ⟨s1, A1, n1, c1, rfl, p1, k1, B⟩
  clear xX10 xX11 xX12
  replace X1 := X1.below B
  replace XR := XR.below B
  replace h := h.below B
  replace HB := Lib.hid (bt HB.out B)
  clear B
  go_upto_region 2 with (fail)
  have lX5 := Nat.le_refl (World.heap w2).size
  have nX5X1 := X1.lt
  have nX5XR := XR.lt
  replace X1 := X1.below (bel1 _ (.cells #[.bool s1, .slice A1 n1 c1, .int .i64 E] 51))
  replace XR := XR.below (bel1 _ (.cells #[.bool s1, .slice A1 n1 c1, .int .i64 E] 51))
  replace p1 := p1.below (bel1 _ (.cells #[.bool s1, .slice A1 n1 c1, .int .i64 E] 51))
  replace HB := Lib.hid (bt HB.out (bel1 _ (.cells #[.bool s1, .slice A1 n1 c1, .int .i64 E] 51)))
  have X5 := Bo.new w2 #[.bool s1, .slice A1 n1 c1, .int .i64 E] 51
  generalize hWn : World.alloc w2 (.cells #[.bool s1, .slice A1 n1 c1, .int .i64 E] 51) = w3 at *
  clear hWn
  clear lX5
  have hz : n1 = 0 := by have := p1.1.pos; have := HA.out; omega
  subst hz
  clear p1
  have xXR0 := XR.a 0 (.int .i64 0) rfl
  have zXR0 := XR.frozen 0
  have xXR1 := XR.a 1 (.bool false) rfl
  have zXR1 := XR.frozen 1
  have xXR2 := XR.a 2 (.int .u64 0) rfl
  have zXR2 := XR.frozen 2
  have xXR3 := XR.a 3 (.int .i64 0) rfl
  have zXR3 := XR.frozen 3
  have xX50 := X5.a 0 (.bool s1) rfl
  have xX51 := X5.a 1 (.slice A1 0 c1) rfl
  have xX52 := X5.a 2 (.int .i64 E) rfl
  go_wp2
  clear xXR0 zXR0 xXR1 zXR1 xXR2 zXR2 xXR3 zXR3 xX50 xX51 xX52
  have SX := StN.mk4 XR (.int .i64 0) (.bool false) (.int .u64 0) (.int .i64 0)
  replace X5 := X5.stn SX (by omega)
  replace HB := Lib.hid (SX.below HB.out (by omega))
  replace XR := SX.box
  clear SX
  generalize (World.setCell (World.setCell (World.setCell (World.setCell w3 ⟨w.heap.size + 1, 0, none⟩ (.int .i64 0)) ⟨w.heap.size + 1, 1, none⟩ (.bool false)) ⟨w.heap.size + 1, 2, none⟩ (.int .u64 0)) ⟨w.heap.size + 1, 3, none⟩ (.int .i64 0)) = w4 at *
  have r0 := XR.cell 0
  have r1 := XR.cell 1
  have r2 := XR.cell 2
  have r3 := XR.cell 3
  exact bodyPost_ret (v := .agg #[.int .i64 0, .bool false, .int .u64 0, .int .i64 0]) (by simp [results, Tryz.results33, go_sem, r0, r1, r2, r3]) rfl ⟨_, _, _, _, rfl, Fq.nought, HB.out⟩
set_option maxHeartbeats 4000000 in
theorem yround_ss {w : World} {A : Option Addr} {n c a : Nat} {s sg0 : Bool} {z e N E L x r : Int} (h : Wr w s A n c z) (hn : n ≤ 100000) (hN : (mk z e).1 = N) (hE : (mk z e).2 = E) (ha : N.natAbs = a) (hs : decide (N < 0) = sg0) (h0 : a ≠ 0) (hL : ((blen a : Nat) : Int) = L) (hl : L ≤ 64) (hx : E + L - 64 = x) (hb : L ≤ 3200000) (hr : fin sg0 (tp a) x false = r) :
    Calls Tryz.prog 33 #[.agg #[.bool s, .slice A n c, .int .i64 e], .bool sg0] w (PN w r) := by
  obtain ⟨b1, b2⟩ := mk_bd z e
  rw [hE] at b1 b2
  have HN := Lib.hid hN
  have HE := Lib.hid hE
  have HA := Lib.hid ha
  have HSG := Lib.hid hs
  have HL := Lib.hid hL
  have hl0 : blen a ≠ 0 := fun e => h0 (blen_eq_zero.1 e)
  have g1 := tp_ge h0
  have g2 := tp_lt a
  have HX1 : Hid (IntKind.i64.wrap (E + L) = E + L) := Lib.hid (IntWalk.i64_in _ (by omega))
  have HX2 : Hid (IntKind.i64.wrap (E + L - 64) = x) := Lib.hid (by rw [hx]; exact IntWalk.i64_in _ (by omega))
  obtain ⟨T, hT⟩ : ∃ T, ((tp a : Nat) : Int) = T := ⟨_, rfl⟩
  rw [hT] at hr
  have HT := Lib.hid hT
  have HR := Lib.hid hr
  obtain ⟨v, hv⟩ : ∃ v, 64 - L = v := ⟨_, rfl⟩
  have HV : Hid (IntKind.i64.wrap (64 - L) = v) := Lib.hid (by rw [hv]; exact IntWalk.i64_in _ (by omega))
  have HSH : Hid (a * 2 ^ v.toNat = tp a) := Lib.hid (by rw [← hv, ← hL]; exact tp_shl (by omega))
  have hv1 : 0 ≤ v := by omega
  have hv2 : v ≤ 64 := by omega
  have hT1 : 9223372036854775808 ≤ T := by omega
  have hT2 : T < 18446744073709551616 := by omega
  have HG2 := Lib.hid g2
  clear hN hE ha hs hL hx hr hT hv g1 g2 hl0
  go_enter Tryz.func33, Tryz.ntmps33
  go_upto_region 1 with (fail)
  have X1 := (Bo.newAt w (g := w.heap.size) (by simp) #[.bool s, .slice A n c, .int .i64 e] 51).below (bel1 _ (.cells #[.int .i64 0, .bool false, .int .u64 0, .int .i64 0] 24))
  have XR := (Bo.newAt (w.alloc (.cells #[.bool s, .slice A n c, .int .i64 e] 51)) (g := w.heap.size + 1) (by simp) #[.int .i64 0, .bool false, .int .u64 0, .int .i64 0] 24)
  have HB := Lib.hid (bel2 w (.cells #[.bool s, .slice A n c, .int .i64 e] 51) (.cells #[.int .i64 0, .bool false, .int .u64 0, .int .i64 0] 24))
  replace h := h.below HB.out
  generalize hW1 : ((w.alloc (.cells #[.bool s, .slice A n c, .int .i64 e] 51)).alloc (.cells #[.int .i64 0, .bool false, .int .u64 0, .int .i64 0] 24)) = w1 at *
  clear hW1
  have xX10 := X1.a 0 (.bool s) rfl
  have xX11 := X1.a 1 (.slice A n c) rfl
  have xX12 := X1.a 2 (.int .i64 e) rfl
  go_wp2_with fail
  refine (q3Make h hn HN.out HE.out).mono ?_
  rintro ee w2 ⟨s1, A1, n1, c1, rfl, p1, k1, B⟩
  clear xX10 xX11 xX12
  replace X1 := X1.below B
  replace XR := XR.below B
  replace h := h.below B
  replace HB := Lib.hid (bt HB.out B)
  clear B
  go_upto_region 2 with (fail)
  have lX5 := Nat.le_refl (World.heap w2).size
  have nX5X1 := X1.lt
  have nX5XR := XR.lt
  replace X1 := X1.below (bel1 _ (.cells #[.bool s1, .slice A1 n1 c1, .int .i64 E] 51))
  replace XR := XR.below (bel1 _ (.cells #[.bool s1, .slice A1 n1 c1, .int .i64 E] 51))
  replace p1 := p1.below (bel1 _ (.cells #[.bool s1, .slice A1 n1 c1, .int .i64 E] 51))
  replace HB := Lib.hid (bt HB.out (bel1 _ (.cells #[.bool s1, .slice A1 n1 c1, .int .i64 E] 51)))
  have X5 := Bo.new w2 #[.bool s1, .slice A1 n1 c1, .int .i64 E] 51
  generalize hWn : World.alloc w2 (.cells #[.bool s1, .slice A1 n1 c1, .int .i64 E] 51) = w3 at *
  clear hWn
  clear lX5
  obtain rfl : s1 = sg0 := p1.2.trans HSG.out
  have p2 : Nm w3 A1 n1 c1 a := HA.out ▸ p1.1
  have hbl := p2.rd.blen_le
  have hn1 : n1 ≤ 100000 := by omega
  have hpos : 0 < n1 := p2.pos.2 (by omega)
  clear p1 HSG
  have e0 : ((n1 : Int) == 0) = false := by
    have : (n1 : Int) ≠ 0 := by omega
    simpa using this
  have hbg : n1 ≤ 1099511627776 := by omega
  have f1 : (s1 != s1) = false := by cases s1 <;> rfl
  have f2 : (!s1 != s1) = true := by cases s1 <;> rfl
  have f3 : (s1 == s1) = true := by cases s1 <;> rfl
  have f4 : ((!s1) == s1) = false := by cases s1 <;> rfl
  have xX50 := X5.a 0 (.bool s1) rfl
  have xX51 := X5.a 1 (.slice A1 n1 c1) rfl
  have xX52 := X5.a 2 (.int .i64 E) rfl
  go_wp2_with fail
  refine (rLen p2.rd HL.out).mono ?_
  rintro ee w4 ⟨rfl, B⟩
  clear xX50 xX51 xX52
  replace XR := XR.below B
  replace X5 := X5.below B
  replace p2 := p2.below B
  replace HB := Lib.hid (bt HB.out B)
  clear B
  have xX50 := X5.a 0 (.bool s1) rfl
  have xX51 := X5.a 1 (.slice A1 n1 c1) rfl
  have xX52 := X5.a 2 (.int .i64 E) rfl
  go_upto_region 7 with (fail)
  clear xX50 xX51 xX52
  refine Jo.region_joint (T := [0, 1, 2, 3, 4, 5, 6, 7, 8, 9, 10, 11, 12, 13, 14, 15, 16]) (ds := [some 32, some 33, some 34, some 35, some 36, some 37, some 38, some 39, some 40, some 41, some 42, some 43, some 44, some 45, some 46, some 47, some 48, none]) (ls := [[], [0], [1], [], [3], [4], [], [6], [5, 7], [8], [], [10], [], [11, 12], [13], [], [2, 9, 14, 15], []]) (k := 18) (L := [(some 32, 0), (some 33, 1), (some 34, 2), (some 35, 3), (some 36, 4), (some 37, 5), (some 38, 6), (some 39, 7), (some 40, 8), (some 41, 9), (some 42, 10), (some 43, 11), (some 44, 12), (some 45, 13), (some 46, 14), (some 47, 15), (some 48, 16)]) (fuel := 1) (J := fun wj => Below (World.heap w4).size w4 wj)
    (F := [Jo.Fact.eq (.pointer (some ⟨w2.heap.size, 0, none⟩)), Jo.Fact.eq (.pointer (some ⟨w2.heap.size, 0, none⟩)), Jo.Fact.eq (.bool s1), Jo.Fact.eq (.pointer (some ⟨w2.heap.size, 0, none⟩)), Jo.Fact.eq (.pointer (some ⟨w2.heap.size, 1, none⟩)), Jo.Fact.eq (.slice A1 n1 c1), Jo.Fact.eq (.int .i64 L), Jo.Fact.eq (.int .i64 v), Jo.Fact.nm (tp a) 100100, Jo.Fact.eq (.int .u64 T), Jo.Fact.eq (.pointer (some ⟨w2.heap.size, 2, none⟩)), Jo.Fact.eq (.int .i64 E), Jo.Fact.eq (.int .i64 L), Jo.Fact.eq (.int .i64 (E + L)), Jo.Fact.eq (.int .i64 x), Jo.Fact.eq (.bool false), Jo.Fact.num r, Jo.Fact.any])
    (by kernel_rfl) (by kernel_rfl) (by decide) rfl rfl (fun _ _ h b => bt h b) ((Below.refl _ _).drew) ?_ (fun vs w5 hJ hd => ?_)
  · refine Jo.jd 0 (some 32) [] (Jo.Fact.eq (.pointer (some ⟨w2.heap.size, 0, none⟩))) rfl rfl rfl rfl (fun vs wj hJ hd K hK => ?_) ?_
    · simp only [Jo.putl, Jo.ze, Act.put, Jo.za, Jo.zb, Jo.zc] at hK ⊢
      clear hd
      go_simp
      exact hK.out _ _ rfl (Below.refl _ _)
    refine Jo.jd 1 (some 33) [(some 32, 0)] (Jo.Fact.eq (.pointer (some ⟨w2.heap.size, 0, none⟩))) rfl rfl rfl rfl (fun vs wj hJ hd K hK => ?_) ?_
    · simp only [Jo.putl, Jo.zd, Jo.ze, Act.put, Jo.za, Jo.zb, Jo.zc] at hK ⊢
      rw [show vs 0 = _ from hd 0 (by decide)] at hK ⊢
      clear hd
      go_simp
      exact hK.out _ _ rfl (Below.refl _ _)
    refine Jo.jd 2 (some 34) [(some 33, 1)] (Jo.Fact.eq (.bool s1)) rfl rfl rfl rfl (fun vs wj hJ hd K hK => ?_) ?_
    · simp only [Jo.putl, Jo.zd, Jo.ze, Act.put, Jo.za, Jo.zb, Jo.zc] at hK ⊢
      rw [show vs 1 = _ from hd 1 (by decide)] at hK ⊢
      clear hd
      have xX50 := (X5.below hJ).a 0 (.bool s1) rfl
      go_simp
      exact hK.out _ _ rfl (Below.refl _ _)
    refine Jo.jd 3 (some 35) [] (Jo.Fact.eq (.pointer (some ⟨w2.heap.size, 0, none⟩))) rfl rfl rfl rfl (fun vs wj hJ hd K hK => ?_) ?_
    · simp only [Jo.putl, Jo.ze, Act.put, Jo.za, Jo.zb, Jo.zc] at hK ⊢
      clear hd
      go_simp
      exact hK.out _ _ rfl (Below.refl _ _)
    refine Jo.jd 4 (some 36) [(some 35, 3)] (Jo.Fact.eq (.pointer (some ⟨w2.heap.size, 1, none⟩))) rfl rfl rfl rfl (fun vs wj hJ hd K hK => ?_) ?_
    · simp only [Jo.putl, Jo.zd, Jo.ze, Act.put, Jo.za, Jo.zb, Jo.zc] at hK ⊢
      rw [show vs 3 = _ from hd 3 (by decide)] at hK ⊢
      clear hd
      go_simp
      exact hK.out _ _ rfl (Below.refl _ _)
    refine Jo.jd 5 (some 37) [(some 36, 4)] (Jo.Fact.eq (.slice A1 n1 c1)) rfl rfl rfl rfl (fun vs wj hJ hd K hK => ?_) ?_
    · simp only [Jo.putl, Jo.zd, Jo.ze, Act.put, Jo.za, Jo.zb, Jo.zc] at hK ⊢
      rw [show vs 4 = _ from hd 4 (by decide)] at hK ⊢
      clear hd
      have xX51 := (X5.below hJ).a 1 (.slice A1 n1 c1) rfl
      go_simp
      exact hK.out _ _ rfl (Below.refl _ _)
    refine Jo.jd 6 (some 38) [] (Jo.Fact.eq (.int .i64 L)) rfl rfl rfl rfl (fun vs wj hJ hd K hK => ?_) ?_
    · simp only [Jo.putl, Jo.ze, Act.put, Jo.za, Jo.zb, Jo.zc] at hK ⊢
      clear hd
      go_simp
      exact hK.out _ _ rfl (Below.refl _ _)
    refine Jo.jd 7 (some 39) [(some 38, 6)] (Jo.Fact.eq (.int .i64 v)) rfl rfl rfl rfl (fun vs wj hJ hd K hK => ?_) ?_
    · simp only [Jo.putl, Jo.zd, Jo.ze, Act.put, Jo.za, Jo.zb, Jo.zc] at hK ⊢
      rw [show vs 6 = _ from hd 6 (by decide)] at hK ⊢
      clear hd
      have hv := HV.out
      go_simp
      exact hK.out _ _ rfl (Below.refl _ _)
    refine Jo.jd 8 (some 40) [(some 37, 5), (some 39, 7)] (Jo.Fact.nm (tp a) 100100) rfl rfl rfl rfl (fun vs wj hJ hd K hK => ?_) ?_
    · simp only [Jo.putl, Jo.zd, Jo.ze, Act.put, Jo.za, Jo.zb, Jo.zc] at hK ⊢
      rw [show vs 5 = _ from hd 5 (by decide), show vs 7 = _ from hd 7 (by decide)] at hK ⊢
      clear hd
      go_simp
      refine (rShlN (p2.below hJ).rd (by omega) hv1 (by omega) HSH.out).mono ?_
      rintro ee wk ⟨A3, n3, c3, rfl, p3, k3, B⟩
      exact hK.out _ _ ⟨A3, n3, c3, rfl, p3, by omega⟩ B
    refine Jo.jd 9 (some 41) [(some 40, 8)] (Jo.Fact.eq (.int .u64 T)) rfl rfl rfl rfl (fun vs wj hJ hd K hK => ?_) ?_
    · have d8 : (Jo.Fact.nm (tp a) 100100).P (vs 8) wj := hd 8 (by decide)
      simp only [Jo.putl, Jo.zd, Jo.ze, Act.put, Jo.za, Jo.zb, Jo.zc] at hK ⊢
      clear hd
      generalize vs 8 = u8 at hK d8 ⊢
      obtain ⟨A3, n3, c3, rfl, p3, k3⟩ := d8
      go_simp
      refine (yWord p3 HG2.out HT.out).mono ?_
      rintro ee wk ⟨rfl, B⟩
      exact hK.out _ _ rfl B
    refine Jo.jd 10 (some 42) [] (Jo.Fact.eq (.pointer (some ⟨w2.heap.size, 2, none⟩))) rfl rfl rfl rfl (fun vs wj hJ hd K hK => ?_) ?_
    · simp only [Jo.putl, Jo.ze, Act.put, Jo.za, Jo.zb, Jo.zc] at hK ⊢
      clear hd
      go_simp
      exact hK.out _ _ rfl (Below.refl _ _)
    refine Jo.jd 11 (some 43) [(some 42, 10)] (Jo.Fact.eq (.int .i64 E)) rfl rfl rfl rfl (fun vs wj hJ hd K hK => ?_) ?_
    · simp only [Jo.putl, Jo.zd, Jo.ze, Act.put, Jo.za, Jo.zb, Jo.zc] at hK ⊢
      rw [show vs 10 = _ from hd 10 (by decide)] at hK ⊢
      clear hd
      have xX52 := (X5.below hJ).a 2 (.int .i64 E) rfl
      go_simp
      exact hK.out _ _ rfl (Below.refl _ _)
    refine Jo.jd 12 (some 44) [] (Jo.Fact.eq (.int .i64 L)) rfl rfl rfl rfl (fun vs wj hJ hd K hK => ?_) ?_
    · simp only [Jo.putl, Jo.ze, Act.put, Jo.za, Jo.zb, Jo.zc] at hK ⊢
      clear hd
      go_simp
      exact hK.out _ _ rfl (Below.refl _ _)
    refine Jo.jd 13 (some 45) [(some 43, 11), (some 44, 12)] (Jo.Fact.eq (.int .i64 (E + L))) rfl rfl rfl rfl (fun vs wj hJ hd K hK => ?_) ?_
    · simp only [Jo.putl, Jo.zd, Jo.ze, Act.put, Jo.za, Jo.zb, Jo.zc] at hK ⊢
      rw [show vs 11 = _ from hd 11 (by decide), show vs 12 = _ from hd 12 (by decide)] at hK ⊢
      clear hd
      have hx1 := HX1.out
      go_simp
      exact hK.out _ _ rfl (Below.refl _ _)
    refine Jo.jd 14 (some 46) [(some 45, 13)] (Jo.Fact.eq (.int .i64 x)) rfl rfl rfl rfl (fun vs wj hJ hd K hK => ?_) ?_
    · simp only [Jo.putl, Jo.zd, Jo.ze, Act.put, Jo.za, Jo.zb, Jo.zc] at hK ⊢
      rw [show vs 13 = _ from hd 13 (by decide)] at hK ⊢
      clear hd
      have hx2 := HX2.out
      go_simp
      exact hK.out _ _ rfl (Below.refl _ _)
    refine Jo.jd 15 (some 47) [] (Jo.Fact.eq (.bool false)) rfl rfl rfl rfl (fun vs wj hJ hd K hK => ?_) ?_
    · simp only [Jo.putl, Jo.ze, Act.put, Jo.za, Jo.zb, Jo.zc] at hK ⊢
      clear hd
      go_simp
      exact hK.out _ _ rfl (Below.refl _ _)
    refine Jo.jd 16 (some 48) [(some 34, 2), (some 41, 9), (some 46, 14), (some 47, 15)] (Jo.Fact.num r) rfl rfl rfl rfl (fun vs wj hJ hd K hK => ?_) ?_
    · simp only [Jo.putl, Jo.zd, Jo.ze, Act.put, Jo.za, Jo.zb, Jo.zc] at hK ⊢
      rw [show vs 2 = _ from hd 2 (by decide), show vs 9 = _ from hd 9 (by decide), show vs 14 = _ from hd 14 (by decide), show vs 15 = _ from hd 15 (by decide)] at hK ⊢
      clear hd
      go_simp
      refine (yFin hT1 hT2 HR.out).mono ?_
      rintro ee wk ⟨K4, s4, M4, E4, rfl, q4, B⟩
      exact hK.out _ _ ⟨K4, s4, M4, E4, rfl, q4⟩ B
    exact Jo.Steps.nil
  have d8 : (Jo.Fact.nm (tp a) 100100).P (vs 8) w5 := hd 8 (by decide)
  have d16 : (Jo.Fact.num r).P (vs 16) w5 := hd 16 (by decide)
  simp only [Jo.putl, Jo.zd, Jo.ze, Act.put, Jo.za, Jo.zb, Jo.zc]
  rw [show vs 2 = _ from hd 2 (by decide), show vs 5 = _ from hd 5 (by decide), show vs 6 = _ from hd 6 (by decide), show vs 7 = _ from hd 7 (by decide), show vs 9 = _ from hd 9 (by decide), show vs 11 = _ from hd 11 (by decide), show vs 12 = _ from hd 12 (by decide), show vs 13 = _ from hd 13 (by decide), show vs 14 = _ from hd 14 (by decide), show vs 15 = _ from hd 15 (by decide)]
  clear hd
  generalize vs 8 = u8 at d8 ⊢
  generalize vs 16 = u16 at d16 ⊢
  obtain ⟨A3, n3, c3, rfl, _, _⟩ := d8
  obtain ⟨K4, s4, M4, E4, rfl, q4⟩ := d16
  replace XR := XR.below hJ
  replace X5 := X5.below hJ
  replace p2 := p2.below hJ
  replace HB := Lib.hid (bt HB.out hJ)
  have xXR0 := XR.a 0 (.int .i64 0) rfl
  have zXR0 := XR.frozen 0
  have xXR1 := XR.a 1 (.bool false) rfl
  have zXR1 := XR.frozen 1
  have xXR2 := XR.a 2 (.int .u64 0) rfl
  have zXR2 := XR.frozen 2
  have xXR3 := XR.a 3 (.int .i64 0) rfl
  have zXR3 := XR.frozen 3
  refine Jo.jnext (i := 17) (o := ⟨none, _, _, _, _, _⟩) (by kernel_rfl) rfl (fun K hK => ?_)
  go_simp
  refine hK.out _ _ ?_
  clear hK K xXR0 zXR0 xXR1 zXR1 xXR2 zXR2 xXR3 zXR3
  have SX := StN.mk4 XR (.int .i64 K4) (.bool s4) (.int .u64 M4) (.int .i64 E4)
  replace X5 := X5.stn SX (by omega)
  replace HB := Lib.hid (SX.below HB.out (by omega))
  replace XR := SX.box
  clear SX
  generalize (World.setCell (World.setCell (World.setCell (World.setCell w5 ⟨w.heap.size + 1, 0, none⟩ (.int .i64 K4)) ⟨w.heap.size + 1, 1, none⟩ (.bool s4)) ⟨w.heap.size + 1, 2, none⟩ (.int .u64 M4)) ⟨w.heap.size + 1, 3, none⟩ (.int .i64 E4)) = w6 at *
  refine Jo.jdone (by kernel_rfl) ?_
  go_wp2
  have r0 := XR.cell 0
  have r1 := XR.cell 1
  have r2 := XR.cell 2
  have r3 := XR.cell 3
  exact bodyPost_ret (v := .agg #[.int .i64 K4, .bool s4, .int .u64 M4, .int .i64 E4]) (by simp [results, Tryz.results33, go_sem, r0, r1, r2, r3]) rfl ⟨_, _, _, _, rfl, q4, HB.out⟩
set_option maxHeartbeats 4000000 in
theorem yround_sd {w : World} {A : Option Addr} {n c a : Nat} {s sg0 : Bool} {z e N E L x r : Int} (h : Wr w s A n c z) (hn : n ≤ 100000) (hN : (mk z e).1 = N) (hE : (mk z e).2 = E) (ha : N.natAbs = a) (hs : decide (N < 0) = sg0) (h0 : a ≠ 0) (hL : ((blen a : Nat) : Int) = L) (hl : L ≤ 64) (hx : E + L - 64 = x) (hb : L ≤ 3200000) (hr : fin sg0 (tp a) x true = r) :
    Calls Tryz.prog 33 #[.agg #[.bool s, .slice A n c, .int .i64 e], .bool (!sg0)] w (PN w r) := by
  obtain ⟨b1, b2⟩ := mk_bd z e
  rw [hE] at b1 b2
  have HN := Lib.hid hN
  have HE := Lib.hid hE
  have HA := Lib.hid ha
  have HSG := Lib.hid hs
  have HL := Lib.hid hL
  have hl0 : blen a ≠ 0 := fun e => h0 (blen_eq_zero.1 e)
  have g1 := tp_ge h0
  have g2 := tp_lt a
  have HX1 : Hid (IntKind.i64.wrap (E + L) = E + L) := Lib.hid (IntWalk.i64_in _ (by omega))
  have HX2 : Hid (IntKind.i64.wrap (E + L - 64) = x) := Lib.hid (by rw [hx]; exact IntWalk.i64_in _ (by omega))
  obtain ⟨T, hT⟩ : ∃ T, ((tp a : Nat) : Int) = T := ⟨_, rfl⟩
  rw [hT] at hr
  have HT := Lib.hid hT
  have HR := Lib.hid hr
  obtain ⟨v, hv⟩ : ∃ v, 64 - L = v := ⟨_, rfl⟩
  have HV : Hid (IntKind.i64.wrap (64 - L) = v) := Lib.hid (by rw [hv]; exact IntWalk.i64_in _ (by omega))
  have HSH : Hid (a * 2 ^ v.toNat = tp a) := Lib.hid (by rw [← hv, ← hL]; exact tp_shl (by omega))
  have hv1 : 0 ≤ v := by omega
  have hv2 : v ≤ 64 := by omega
  have hT1 : 9223372036854775808 ≤ T := by omega
  have hT2 : T < 18446744073709551616 := by omega
  have HG2 := Lib.hid g2
  clear hN hE ha hs hL hx hr hT hv g1 g2 hl0
  go_enter Tryz.func33, Tryz.ntmps33
  go_upto_region 1 with (fail)
  have X1 := (Bo.newAt w (g := w.heap.size) (by simp) #[.bool s, .slice A n c, .int .i64 e] 51).below (bel1 _ (.cells #[.int .i64 0, .bool false, .int .u64 0, .int .i64 0] 24))
  have XR := (Bo.newAt (w.alloc (.cells #[.bool s, .slice A n c, .int .i64 e] 51)) (g := w.heap.size + 1) (by simp) #[.int .i64 0, .bool false, .int .u64 0, .int .i64 0] 24)
  have HB := Lib.hid (bel2 w (.cells #[.bool s, .slice A n c, .int .i64 e] 51) (.cells #[.int .i64 0, .bool false, .int .u64 0, .int .i64 0] 24))
  replace h := h.below HB.out
  generalize hW1 : ((w.alloc (.cells #[.bool s, .slice A n c, .int .i64 e] 51)).alloc (.cells #[.int .i64 0, .bool false, .int .u64 0, .int .i64 0] 24)) = w1 at *
  clear hW1
  have xX10 := X1.a 0 (.bool s) rfl
  have xX11 := X1.a 1 (.slice A n c) rfl
  have xX12 := X1.a 2 (.int .i64 e) rfl
  go_wp2_with fail
  refine (q3Make h hn HN.out HE.out).mono ?_
  rintro ee w2 ⟨s1, A1, n1, c1, rfl, p1, k1, B⟩
  clear xX10 xX11 xX12
  replace X1 := X1.below B
  replace XR := XR.below B
  replace h := h.below B
  replace HB := Lib.hid (bt HB.out B)
  clear B
  go_upto_region 2 with (fail)
  have lX5 := Nat.le_refl (World.heap w2).size
  have nX5X1 := X1.lt
  have nX5XR := XR.lt
  replace X1 := X1.below (bel1 _ (.cells #[.bool s1, .slice A1 n1 c1, .int .i64 E] 51))
  replace XR := XR.below (bel1 _ (.cells #[.bool s1, .slice A1 n1 c1, .int .i64 E] 51))
  replace p1 := p1.below (bel1 _ (.cells #[.bool s1, .slice A1 n1 c1, .int .i64 E] 51))
  replace HB := Lib.hid (bt HB.out (bel1 _ (.cells #[.bool s1, .slice A1 n1 c1, .int .i64 E] 51)))
  have X5 := Bo.new w2 #[.bool s1, .slice A1 n1 c1, .int .i64 E] 51
  generalize hWn : World.alloc w2 (.cells #[.bool s1, .slice A1 n1 c1, .int .i64 E] 51) = w3 at *
  clear hWn
  clear lX5
  obtain rfl : s1 = sg0 := p1.2.trans HSG.out
  have p2 : Nm w3 A1 n1 c1 a := HA.out ▸ p1.1
  have hbl := p2.rd.blen_le
  have hn1 : n1 ≤ 100000 := by omega
  have hpos : 0 < n1 := p2.pos.2 (by omega)
  clear p1 HSG
  have e0 : ((n1 : Int) == 0) = false := by
    have : (n1 : Int) ≠ 0 := by omega
    simpa using this
  have hbg : n1 ≤ 1099511627776 := by omega
  have f1 : (s1 != s1) = false := by cases s1 <;> rfl
  have f2 : (!s1 != s1) = true := by cases s1 <;> rfl
  have f3 : (s1 == s1) = true := by cases s1 <;> rfl
  have f4 : ((!s1) == s1) = false := by cases s1 <;> rfl
  have xX50 := X5.a 0 (.bool s1) rfl
  have xX51 := X5.a 1 (.slice A1 n1 c1) rfl
  have xX52 := X5.a 2 (.int .i64 E) rfl
  go_wp2_with fail
  refine (rLen p2.rd HL.out).mono ?_
  rintro ee w4 ⟨rfl, B⟩
  clear xX50 xX51 xX52
  replace XR := XR.below B
  replace X5 := X5.below B
  replace p2 := p2.below B
  replace HB := Lib.hid (bt HB.out B)
  clear B
  have xX50 := X5.a 0 (.bool s1) rfl
  have xX51 := X5.a 1 (.slice A1 n1 c1) rfl
  have xX52 := X5.a 2 (.int .i64 E) rfl
  go_upto_region 7 with (fail)
  clear xX50 xX51 xX52
  refine Jo.region_joint (T := [0, 1, 2, 3, 4, 5, 6, 7, 8, 9, 10, 11, 12, 13, 14, 15, 16]) (ds := [some 32, some 33, some 34, some 35, some 36, some 37, some 38, some 39, some 40, some 41, some 42, some 43, some 44, some 45, some 46, some 47, some 48, none]) (ls := [[], [0], [1], [], [3], [4], [], [6], [5, 7], [8], [], [10], [], [11, 12], [13], [], [2, 9, 14, 15], []]) (k := 18) (L := [(some 32, 0), (some 33, 1), (some 34, 2), (some 35, 3), (some 36, 4), (some 37, 5), (some 38, 6), (some 39, 7), (some 40, 8), (some 41, 9), (some 42, 10), (some 43, 11), (some 44, 12), (some 45, 13), (some 46, 14), (some 47, 15), (some 48, 16)]) (fuel := 1) (J := fun wj => Below (World.heap w4).size w4 wj)
    (F := [Jo.Fact.eq (.pointer (some ⟨w2.heap.size, 0, none⟩)), Jo.Fact.eq (.pointer (some ⟨w2.heap.size, 0, none⟩)), Jo.Fact.eq (.bool s1), Jo.Fact.eq (.pointer (some ⟨w2.heap.size, 0, none⟩)), Jo.Fact.eq (.pointer (some ⟨w2.heap.size, 1, none⟩)), Jo.Fact.eq (.slice A1 n1 c1), Jo.Fact.eq (.int .i64 L), Jo.Fact.eq (.int .i64 v), Jo.Fact.nm (tp a) 100100, Jo.Fact.eq (.int .u64 T), Jo.Fact.eq (.pointer (some ⟨w2.heap.size, 2, none⟩)), Jo.Fact.eq (.int .i64 E), Jo.Fact.eq (.int .i64 L), Jo.Fact.eq (.int .i64 (E + L)), Jo.Fact.eq (.int .i64 x), Jo.Fact.eq (.bool true), Jo.Fact.num r, Jo.Fact.any])
    (by kernel_rfl) (by kernel_rfl) (by decide) rfl rfl (fun _ _ h b => bt h b) ((Below.refl _ _).drew) ?_ (fun vs w5 hJ hd => ?_)
  · refine Jo.jd 0 (some 32) [] (Jo.Fact.eq (.pointer (some ⟨w2.heap.size, 0, none⟩))) rfl rfl rfl rfl (fun vs wj hJ hd K hK => ?_) ?_
    · simp only [Jo.putl, Jo.ze, Act.put, Jo.za, Jo.zb, Jo.zc] at hK ⊢
      clear hd
      go_simp
      exact hK.out _ _ rfl (Below.refl _ _)
    refine Jo.jd 1 (some 33) [(some 32, 0)] (Jo.Fact.eq (.pointer (some ⟨w2.heap.size, 0, none⟩))) rfl rfl rfl rfl (fun vs wj hJ hd K hK => ?_) ?_
    · simp only [Jo.putl, Jo.zd, Jo.ze, Act.put, Jo.za, Jo.zb, Jo.zc] at hK ⊢
      rw [show vs 0 = _ from hd 0 (by decide)] at hK ⊢
      clear hd
      go_simp
      exact hK.out _ _ rfl (Below.refl _ _)
    refine Jo.jd 2 (some 34) [(some 33, 1)] (Jo.Fact.eq (.bool s1)) rfl rfl rfl rfl (fun vs wj hJ hd K hK => ?_) ?_
    · simp only [Jo.putl, Jo.zd, Jo.ze, Act.put, Jo.za, Jo.zb, Jo.zc] at hK ⊢
      rw [show vs 1 = _ from hd 1 (by decide)] at hK ⊢
      clear hd
      have xX50 := (X5.below hJ).a 0 (.bool s1) rfl
      go_simp
      exact hK.out _ _ rfl (Below.refl _ _)
    refine Jo.jd 3 (some 35) [] (Jo.Fact.eq (.pointer (some ⟨w2.heap.size, 0, none⟩))) rfl rfl rfl rfl (fun vs wj hJ hd K hK => ?_) ?_
    · simp only [Jo.putl, Jo.ze, Act.put, Jo.za, Jo.zb, Jo.zc] at hK ⊢
      clear hd
      go_simp
      exact hK.out _ _ rfl (Below.refl _ _)
    refine Jo.jd 4 (some 36) [(some 35, 3)] (Jo.Fact.eq (.pointer (some ⟨w2.heap.size, 1, none⟩))) rfl rfl rfl rfl (fun vs wj hJ hd K hK => ?_) ?_
    · simp only [Jo.putl, Jo.zd, Jo.ze, Act.put, Jo.za, Jo.zb, Jo.zc] at hK ⊢
      rw [show vs 3 = _ from hd 3 (by decide)] at hK ⊢
      clear hd
      go_simp
      exact hK.out _ _ rfl (Below.refl _ _)
    refine Jo.jd 5 (some 37) [(some 36, 4)] (Jo.Fact.eq (.slice A1 n1 c1)) rfl rfl rfl rfl (fun vs wj hJ hd K hK => ?_) ?_
    · simp only [Jo.putl, Jo.zd, Jo.ze, Act.put, Jo.za, Jo.zb, Jo.zc] at hK ⊢
      rw [show vs 4 = _ from hd 4 (by decide)] at hK ⊢
      clear hd
      have xX51 := (X5.below hJ).a 1 (.slice A1 n1 c1) rfl
      go_simp
      exact hK.out _ _ rfl (Below.refl _ _)
    refine Jo.jd 6 (some 38) [] (Jo.Fact.eq (.int .i64 L)) rfl rfl rfl rfl (fun vs wj hJ hd K hK => ?_) ?_
    · simp only [Jo.putl, Jo.ze, Act.put, Jo.za, Jo.zb, Jo.zc] at hK ⊢
      clear hd
      go_simp
      exact hK.out _ _ rfl (Below.refl _ _)
    refine Jo.jd 7 (some 39) [(some 38, 6)] (Jo.Fact.eq (.int .i64 v)) rfl rfl rfl rfl (fun vs wj hJ hd K hK => ?_) ?_
    · simp only [Jo.putl, Jo.zd, Jo.ze, Act.put, Jo.za, Jo.zb, Jo.zc] at hK ⊢
      rw [show vs 6 = _ from hd 6 (by decide)] at hK ⊢
      clear hd
      have hv := HV.out
      go_simp
      exact hK.out _ _ rfl (Below.refl _ _)
    refine Jo.jd 8 (some 40) [(some 37, 5), (some 39, 7)] (Jo.Fact.nm (tp a) 100100) rfl rfl rfl rfl (fun vs wj hJ hd K hK => ?_) ?_
    · simp only [Jo.putl, Jo.zd, Jo.ze, Act.put, Jo.za, Jo.zb, Jo.zc] at hK ⊢
      rw [show vs 5 = _ from hd 5 (by decide), show vs 7 = _ from hd 7 (by decide)] at hK ⊢
      clear hd
      go_simp
      refine (rShlN (p2.below hJ).rd (by omega) hv1 (by omega) HSH.out).mono ?_
      rintro ee wk ⟨A3, n3, c3, rfl, p3, k3, B⟩
      exact hK.out _ _ ⟨A3, n3, c3, rfl, p3, by omega⟩ B
    refine Jo.jd 9 (some 41) [(some 40, 8)] (Jo.Fact.eq (.int .u64 T)) rfl rfl rfl rfl (fun vs wj hJ hd K hK => ?_) ?_
    · have d8 : (Jo.Fact.nm (tp a) 100100).P (vs 8) wj := hd 8 (by decide)
      simp only [Jo.putl, Jo.zd, Jo.ze, Act.put, Jo.za, Jo.zb, Jo.zc] at hK ⊢
      clear hd
      generalize vs 8 = u8 at hK d8 ⊢
      obtain ⟨A3, n3, c3, rfl, p3, k3⟩ := d8
      go_simp
      refine (yWord p3 HG2.out HT.out).mono ?_
      rintro ee wk ⟨rfl, B⟩
      exact hK.out _ _ rfl B
    refine Jo.jd 10 (some 42) [] (Jo.Fact.eq (.pointer (some ⟨w2.heap.size, 2, none⟩))) rfl rfl rfl rfl (fun vs wj hJ hd K hK => ?_) ?_
    · simp only [Jo.putl, Jo.ze, Act.put, Jo.za, Jo.zb, Jo.zc] at hK ⊢
      clear hd
      go_simp
      exact hK.out _ _ rfl (Below.refl _ _)
    refine Jo.jd 11 (some 43) [(some 42, 10)] (Jo.Fact.eq (.int .i64 E)) rfl rfl rfl rfl (fun vs wj hJ hd K hK => ?_) ?_
    · simp only [Jo.putl, Jo.zd, Jo.ze, Act.put, Jo.za, Jo.zb, Jo.zc] at hK ⊢
      rw [show vs 10 = _ from hd 10 (by decide)] at hK ⊢
      clear hd
      have xX52 := (X5.below hJ).a 2 (.int .i64 E) rfl
      go_simp
      exact hK.out _ _ rfl (Below.refl _ _)
    refine Jo.jd 12 (some 44) [] (Jo.Fact.eq (.int .i64 L)) rfl rfl rfl rfl (fun vs wj hJ hd K hK => ?_) ?_
    · simp only [Jo.putl, Jo.ze, Act.put, Jo.za, Jo.zb, Jo.zc] at hK ⊢
      clear hd
      go_simp
      exact hK.out _ _ rfl (Below.refl _ _)
    refine Jo.jd 13 (some 45) [(some 43, 11), (some 44, 12)] (Jo.Fact.eq (.int .i64 (E + L))) rfl rfl rfl rfl (fun vs wj hJ hd K hK => ?_) ?_
    · simp only [Jo.putl, Jo.zd, Jo.ze, Act.put, Jo.za, Jo.zb, Jo.zc] at hK ⊢
      rw [show vs 11 = _ from hd 11 (by decide), show vs 12 = _ from hd 12 (by decide)] at hK ⊢
      clear hd
      have hx1 := HX1.out
      go_simp
      exact hK.out _ _ rfl (Below.refl _ _)
    refine Jo.jd 14 (some 46) [(some 45, 13)] (Jo.Fact.eq (.int .i64 x)) rfl rfl rfl rfl (fun vs wj hJ hd K hK => ?_) ?_
    · simp only [Jo.putl, Jo.zd, Jo.ze, Act.put, Jo.za, Jo.zb, Jo.zc] at hK ⊢
      rw [show vs 13 = _ from hd 13 (by decide)] at hK ⊢
      clear hd
      have hx2 := HX2.out
      go_simp
      exact hK.out _ _ rfl (Below.refl _ _)
    refine Jo.jd 15 (some 47) [] (Jo.Fact.eq (.bool true)) rfl rfl rfl rfl (fun vs wj hJ hd K hK => ?_) ?_
    · simp only [Jo.putl, Jo.ze, Act.put, Jo.za, Jo.zb, Jo.zc] at hK ⊢
      clear hd
      go_simp
      exact hK.out _ _ rfl (Below.refl _ _)
    refine Jo.jd 16 (some 48) [(some 34, 2), (some 41, 9), (some 46, 14), (some 47, 15)] (Jo.Fact.num r) rfl rfl rfl rfl (fun vs wj hJ hd K hK => ?_) ?_
    · simp only [Jo.putl, Jo.zd, Jo.ze, Act.put, Jo.za, Jo.zb, Jo.zc] at hK ⊢
      rw [show vs 2 = _ from hd 2 (by decide), show vs 9 = _ from hd 9 (by decide), show vs 14 = _ from hd 14 (by decide), show vs 15 = _ from hd 15 (by decide)] at hK ⊢
      clear hd
      go_simp
      refine (yFin hT1 hT2 HR.out).mono ?_
      rintro ee wk ⟨K4, s4, M4, E4, rfl, q4, B⟩
      exact hK.out _ _ ⟨K4, s4, M4, E4, rfl, q4⟩ B
    exact Jo.Steps.nil
  have d8 : (Jo.Fact.nm (tp a) 100100).P (vs 8) w5 := hd 8 (by decide)
  have d16 : (Jo.Fact.num r).P (vs 16) w5 := hd 16 (by decide)
  simp only [Jo.putl, Jo.zd, Jo.ze, Act.put, Jo.za, Jo.zb, Jo.zc]
  rw [show vs 2 = _ from hd 2 (by decide), show vs 5 = _ from hd 5 (by decide), show vs 6 = _ from hd 6 (by decide), show vs 7 = _ from hd 7 (by decide), show vs 9 = _ from hd 9 (by decide), show vs 11 = _ from hd 11 (by decide), show vs 12 = _ from hd 12 (by decide), show vs 13 = _ from hd 13 (by decide), show vs 14 = _ from hd 14 (by decide), show vs 15 = _ from hd 15 (by decide)]
  clear hd
  generalize vs 8 = u8 at d8 ⊢
  generalize vs 16 = u16 at d16 ⊢
  obtain ⟨A3, n3, c3, rfl, _, _⟩ := d8
  obtain ⟨K4, s4, M4, E4, rfl, q4⟩ := d16
  replace XR := XR.below hJ
  replace X5 := X5.below hJ
  replace p2 := p2.below hJ
  replace HB := Lib.hid (bt HB.out hJ)
  have xXR0 := XR.a 0 (.int .i64 0) rfl
  have zXR0 := XR.frozen 0
  have xXR1 := XR.a 1 (.bool false) rfl
  have zXR1 := XR.frozen 1
  have xXR2 := XR.a 2 (.int .u64 0) rfl
  have zXR2 := XR.frozen 2
  have xXR3 := XR.a 3 (.int .i64 0) rfl
  have zXR3 := XR.frozen 3
  refine Jo.jnext (i := 17) (o := ⟨none, _, _, _, _, _⟩) (by kernel_rfl) rfl (fun K hK => ?_)
  go_simp
  refine hK.out _ _ ?_
  clear hK K xXR0 zXR0 xXR1 zXR1 xXR2 zXR2 xXR3 zXR3
  have SX := StN.mk4 XR (.int .i64 K4) (.bool s4) (.int .u64 M4) (.int .i64 E4)
  replace X5 := X5.stn SX (by omega)
  replace HB := Lib.hid (SX.below HB.out (by omega))
  replace XR := SX.box
  clear SX
  generalize (World.setCell (World.setCell (World.setCell (World.setCell w5 ⟨w.heap.size + 1, 0, none⟩ (.int .i64 K4)) ⟨w.heap.size + 1, 1, none⟩ (.bool s4)) ⟨w.heap.size + 1, 2, none⟩ (.int .u64 M4)) ⟨w.heap.size + 1, 3, none⟩ (.int .i64 E4)) = w6 at *
  refine Jo.jdone (by kernel_rfl) ?_
  go_wp2
  have r0 := XR.cell 0
  have r1 := XR.cell 1
  have r2 := XR.cell 2
  have r3 := XR.cell 3
  exact bodyPost_ret (v := .agg #[.int .i64 K4, .bool s4, .int .u64 M4, .int .i64 E4]) (by simp [results, Tryz.results33, go_sem, r0, r1, r2, r3]) rfl ⟨_, _, _, _, rfl, q4, HB.out⟩
set_option maxHeartbeats 4000000 in
theorem yround_bs {w : World} {A : Option Addr} {n c a : Nat} {s sg0 : Bool} {z e N E L x r : Int} (h : Wr w s A n c z) (hn : n ≤ 100000) (hN : (mk z e).1 = N) (hE : (mk z e).2 = E) (ha : N.natAbs = a) (hs : decide (N < 0) = sg0) (h0 : a ≠ 0) (hL : ((blen a : Nat) : Int) = L) (hl : 64 < L) (hx : E + L - 64 = x) (hb : L ≤ 3200000) (hr : fin sg0 (tp a) x false = r) :
    Calls Tryz.prog 33 #[.agg #[.bool s, .slice A n c, .int .i64 e], .bool sg0] w (PN w r) := by
  obtain ⟨b1, b2⟩ := mk_bd z e
  rw [hE] at b1 b2
  have HN := Lib.hid hN
  have HE := Lib.hid hE
  have HA := Lib.hid ha
  have HSG := Lib.hid hs
  have HL := Lib.hid hL
  have hl0 : blen a ≠ 0 := fun e => h0 (blen_eq_zero.1 e)
  have g1 := tp_ge h0
  have g2 := tp_lt a
  have HX1 : Hid (IntKind.i64.wrap (E + L) = E + L) := Lib.hid (IntWalk.i64_in _ (by omega))
  have HX2 : Hid (IntKind.i64.wrap (E + L - 64) = x) := Lib.hid (by rw [hx]; exact IntWalk.i64_in _ (by omega))
  obtain ⟨v, hv⟩ : ∃ v, L - 64 = v := ⟨_, rfl⟩
  have HV : Hid (IntKind.i64.wrap (L - 64) = v) := Lib.hid (by rw [hv]; exact IntWalk.i64_in _ (by omega))
  have HSH : Hid (a / 2 ^ v.toNat = tp a) := Lib.hid (by rw [← hv, ← hL]; exact tp_one (by omega))
  obtain ⟨T, hT⟩ : ∃ T, ((tp a : Nat) : Int) = T := ⟨_, rfl⟩
  rw [hT] at hr
  have HT := Lib.hid hT
  have HR := Lib.hid hr
  have hT1 : 9223372036854775808 ≤ T := by omega
  have hT2 : T < 18446744073709551616 := by omega
  have HG2 := Lib.hid g2
  clear hN hE ha hs hL hx hr hT hv g1 g2 hl0
  go_enter Tryz.func33, Tryz.ntmps33
  go_upto_region 1 with (fail)
  have X1 := (Bo.newAt w (g := w.heap.size) (by simp) #[.bool s, .slice A n c, .int .i64 e] 51).below (bel1 _ (.cells #[.int .i64 0, .bool false, .int .u64 0, .int .i64 0] 24))
  have XR := (Bo.newAt (w.alloc (.cells #[.bool s, .slice A n c, .int .i64 e] 51)) (g := w.heap.size + 1) (by simp) #[.int .i64 0, .bool false, .int .u64 0, .int .i64 0] 24)
  have HB := Lib.hid (bel2 w (.cells #[.bool s, .slice A n c, .int .i64 e] 51) (.cells #[.int .i64 0, .bool false, .int .u64 0, .int .i64 0] 24))
  replace h := h.below HB.out
  generalize hW1 : ((w.alloc (.cells #[.bool s, .slice A n c, .int .i64 e] 51)).alloc (.cells #[.int .i64 0, .bool false, .int .u64 0, .int .i64 0] 24)) = w1 at *
  clear hW1
  have xX10 := X1.a 0 (.bool s) rfl
  have xX11 := X1.a 1 (.slice A n c) rfl
  have xX12 := X1.a 2 (.int .i64 e) rfl
  go_wp2_with fail
  refine (q3Make h hn HN.out HE.out).mono ?_
  rintro ee w2 ⟨s1, A1, n1, c1, rfl, p1, k1, B⟩
  clear xX10 xX11 xX12
  replace X1 := X1.below B
  replace XR := XR.below B
  replace h := h.below B
  replace HB := Lib.hid (bt HB.out B)
  clear B
  go_upto_region 2 with (fail)
  have lX5 := Nat.le_refl (World.heap w2).size
  have nX5X1 := X1.lt
  have nX5XR := XR.lt
  replace X1 := X1.below (bel1 _ (.cells #[.bool s1, .slice A1 n1 c1, .int .i64 E] 51))
  replace XR := XR.below (bel1 _ (.cells #[.bool s1, .slice A1 n1 c1, .int .i64 E] 51))
  replace p1 := p1.below (bel1 _ (.cells #[.bool s1, .slice A1 n1 c1, .int .i64 E] 51))
  replace HB := Lib.hid (bt HB.out (bel1 _ (.cells #[.bool s1, .slice A1 n1 c1, .int .i64 E] 51)))
  have X5 := Bo.new w2 #[.bool s1, .slice A1 n1 c1, .int .i64 E] 51
  generalize hWn : World.alloc w2 (.cells #[.bool s1, .slice A1 n1 c1, .int .i64 E] 51) = w3 at *
  clear hWn
  clear lX5
  obtain rfl : s1 = sg0 := p1.2.trans HSG.out
  have p2 : Nm w3 A1 n1 c1 a := HA.out ▸ p1.1
  have hbl := p2.rd.blen_le
  have hn1 : n1 ≤ 100000 := by omega
  have hpos : 0 < n1 := p2.pos.2 (by omega)
  clear p1 HSG
  have e0 : ((n1 : Int) == 0) = false := by
    have : (n1 : Int) ≠ 0 := by omega
    simpa using this
  have hbg : n1 ≤ 1099511627776 := by omega
  have f1 : (s1 != s1) = false := by cases s1 <;> rfl
  have f2 : (!s1 != s1) = true := by cases s1 <;> rfl
  have f3 : (s1 == s1) = true := by cases s1 <;> rfl
  have f4 : ((!s1) == s1) = false := by cases s1 <;> rfl
  have xX50 := X5.a 0 (.bool s1) rfl
  have xX51 := X5.a 1 (.slice A1 n1 c1) rfl
  have xX52 := X5.a 2 (.int .i64 E) rfl
  go_wp2_with fail
  refine (rLen p2.rd HL.out).mono ?_
  rintro ee w4 ⟨rfl, B⟩
  clear xX50 xX51 xX52
  replace XR := XR.below B
  replace X5 := X5.below B
  replace p2 := p2.below B
  replace HB := Lib.hid (bt HB.out B)
  clear B
  have xX50 := X5.a 0 (.bool s1) rfl
  have xX51 := X5.a 1 (.slice A1 n1 c1) rfl
  have xX52 := X5.a 2 (.int .i64 E) rfl
  have hv := HV.out
  go_wp2_with fail
  refine (rShrP v p2.rd (by omega)).mono ?_
  rintro ee w5 ⟨A3, n3, c3, rfl, p3, k3, B⟩
  clear xX50 xX51 xX52
  replace XR := XR.below B
  replace X5 := X5.below B
  replace p2 := p2.below B
  replace HB := Lib.hid (bt HB.out B)
  clear B hv
  rw [HSH.out] at p3
  have xX50 := X5.a 0 (.bool s1) rfl
  have xX51 := X5.a 1 (.slice A1 n1 c1) rfl
  have xX52 := X5.a 2 (.int .i64 E) rfl
  have hx1 := HX1.out
  have hx2 := HX2.out
  go_upto_region 15 with (fail)
  clear hx1 hx2
  clear xX50 xX51 xX52
  have p9 := p3
  refine Jo.region_joint (T := [0, 1, 2, 3, 4, 5, 6, 7]) (ds := [some 71, some 72, some 73, some 74, some 75, some 76, some 77, some 78, none]) (ls := [[], [0], [1], [], [3], [], [], [2, 4, 5, 6], []]) (k := 9) (L := [(some 71, 0), (some 72, 1), (some 73, 2), (some 74, 3), (some 75, 4), (some 76, 5), (some 77, 6), (some 78, 7)]) (fuel := 1) (J := fun wj => Below (World.heap w5).size w5 wj)
    (F := [Jo.Fact.eq (.pointer (some ⟨w2.heap.size, 0, none⟩)), Jo.Fact.eq (.pointer (some ⟨w2.heap.size, 0, none⟩)), Jo.Fact.eq (.bool s1), Jo.Fact.eq (.slice A3 n3 c3), Jo.Fact.eq (.int .u64 T), Jo.Fact.eq (.int .i64 x), Jo.Fact.eq (.bool false), Jo.Fact.num r, Jo.Fact.any])
    (by kernel_rfl) (by kernel_rfl) (by decide) rfl rfl (fun _ _ h b => bt h b) ((Below.refl _ _).drew) ?_ (fun vs w8 hJ hd => ?_)
  · refine Jo.jd 0 (some 71) [] (Jo.Fact.eq (.pointer (some ⟨w2.heap.size, 0, none⟩))) rfl rfl rfl rfl (fun vs wj hJ hd K hK => ?_) ?_
    · simp only [Jo.putl, Jo.ze, Act.put, Jo.za, Jo.zb, Jo.zc] at hK ⊢
      clear hd
      go_simp
      exact hK.out _ _ rfl (Below.refl _ _)
    refine Jo.jd 1 (some 72) [(some 71, 0)] (Jo.Fact.eq (.pointer (some ⟨w2.heap.size, 0, none⟩))) rfl rfl rfl rfl (fun vs wj hJ hd K hK => ?_) ?_
    · simp only [Jo.putl, Jo.zd, Jo.ze, Act.put, Jo.za, Jo.zb, Jo.zc] at hK ⊢
      rw [show vs 0 = _ from hd 0 (by decide)] at hK ⊢
      clear hd
      go_simp
      exact hK.out _ _ rfl (Below.refl _ _)
    refine Jo.jd 2 (some 73) [(some 72, 1)] (Jo.Fact.eq (.bool s1)) rfl rfl rfl rfl (fun vs wj hJ hd K hK => ?_) ?_
    · simp only [Jo.putl, Jo.zd, Jo.ze, Act.put, Jo.za, Jo.zb, Jo.zc] at hK ⊢
      rw [show vs 1 = _ from hd 1 (by decide)] at hK ⊢
      clear hd
      have xX50 := (X5.below hJ).a 0 (.bool s1) rfl
      go_simp
      exact hK.out _ _ rfl (Below.refl _ _)
    refine Jo.jd 3 (some 74) [] (Jo.Fact.eq (.slice A3 n3 c3)) rfl rfl rfl rfl (fun vs wj hJ hd K hK => ?_) ?_
    · simp only [Jo.putl, Jo.ze, Act.put, Jo.za, Jo.zb, Jo.zc] at hK ⊢
      clear hd
      go_simp
      exact hK.out _ _ rfl (Below.refl _ _)
    refine Jo.jd 4 (some 75) [(some 74, 3)] (Jo.Fact.eq (.int .u64 T)) rfl rfl rfl rfl (fun vs wj hJ hd K hK => ?_) ?_
    · simp only [Jo.putl, Jo.zd, Jo.ze, Act.put, Jo.za, Jo.zb, Jo.zc] at hK ⊢
      rw [show vs 3 = _ from hd 3 (by decide)] at hK ⊢
      clear hd
      go_simp
      refine (yWord (p9.below hJ) HG2.out HT.out).mono ?_
      rintro ee wk ⟨rfl, B⟩
      exact hK.out _ _ rfl B
    refine Jo.jd 5 (some 76) [] (Jo.Fact.eq (.int .i64 x)) rfl rfl rfl rfl (fun vs wj hJ hd K hK => ?_) ?_
    · simp only [Jo.putl, Jo.ze, Act.put, Jo.za, Jo.zb, Jo.zc] at hK ⊢
      clear hd
      go_simp
      exact hK.out _ _ rfl (Below.refl _ _)
    refine Jo.jd 6 (some 77) [] (Jo.Fact.eq (.bool false)) rfl rfl rfl rfl (fun vs wj hJ hd K hK => ?_) ?_
    · simp only [Jo.putl, Jo.ze, Act.put, Jo.za, Jo.zb, Jo.zc] at hK ⊢
      clear hd
      go_simp
      exact hK.out _ _ rfl (Below.refl _ _)
    refine Jo.jd 7 (some 78) [(some 73, 2), (some 75, 4), (some 76, 5), (some 77, 6)] (Jo.Fact.num r) rfl rfl rfl rfl (fun vs wj hJ hd K hK => ?_) ?_
    · simp only [Jo.putl, Jo.zd, Jo.ze, Act.put, Jo.za, Jo.zb, Jo.zc] at hK ⊢
      rw [show vs 2 = _ from hd 2 (by decide), show vs 4 = _ from hd 4 (by decide), show vs 5 = _ from hd 5 (by decide), show vs 6 = _ from hd 6 (by decide)] at hK ⊢
      clear hd
      go_simp
      refine (yFin hT1 hT2 HR.out).mono ?_
      rintro ee wk ⟨K4, s4, M4, E4, rfl, q4, B⟩
      exact hK.out _ _ ⟨K4, s4, M4, E4, rfl, q4⟩ B
    exact Jo.Steps.nil
  have d7 : (Jo.Fact.num r).P (vs 7) w8 := hd 7 (by decide)
  simp only [Jo.putl, Jo.zd, Jo.ze, Act.put, Jo.za, Jo.zb, Jo.zc]
  rw [show vs 2 = _ from hd 2 (by decide), show vs 3 = _ from hd 3 (by decide), show vs 4 = _ from hd 4 (by decide), show vs 5 = _ from hd 5 (by decide), show vs 6 = _ from hd 6 (by decide)]
  clear hd
  generalize vs 7 = u7 at d7 ⊢
  obtain ⟨K4, s4, M4, E4, rfl, q4⟩ := d7
  replace XR := XR.below hJ
  replace X5 := X5.below hJ
  replace p9 := p9.below hJ
  replace HB := Lib.hid (bt HB.out hJ)
  have xXR0 := XR.a 0 (.int .i64 0) rfl
  have zXR0 := XR.frozen 0
  have xXR1 := XR.a 1 (.bool false) rfl
  have zXR1 := XR.frozen 1
  have xXR2 := XR.a 2 (.int .u64 0) rfl
  have zXR2 := XR.frozen 2
  have xXR3 := XR.a 3 (.int .i64 0) rfl
  have zXR3 := XR.frozen 3
  refine Jo.jnext (i := 8) (o := ⟨none, _, _, _, _, _⟩) (by kernel_rfl) rfl (fun K hK => ?_)
  go_simp
  refine hK.out _ _ ?_
  clear hK K xXR0 zXR0 xXR1 zXR1 xXR2 zXR2 xXR3 zXR3
  have SX := StN.mk4 XR (.int .i64 K4) (.bool s4) (.int .u64 M4) (.int .i64 E4)
  replace X5 := X5.stn SX (by omega)
  replace HB := Lib.hid (SX.below HB.out (by omega))
  replace XR := SX.box
  clear SX
  generalize (World.setCell (World.setCell (World.setCell (World.setCell w8 ⟨w.heap.size + 1, 0, none⟩ (.int .i64 K4)) ⟨w.heap.size + 1, 1, none⟩ (.bool s4)) ⟨w.heap.size + 1, 2, none⟩ (.int .u64 M4)) ⟨w.heap.size + 1, 3, none⟩ (.int .i64 E4)) = w9 at *
  refine Jo.jdone (by kernel_rfl) ?_
  go_wp2
  have r0 := XR.cell 0
  have r1 := XR.cell 1
  have r2 := XR.cell 2
  have r3 := XR.cell 3
  exact bodyPost_ret (v := .agg #[.int .i64 K4, .bool s4, .int .u64 M4, .int .i64 E4]) (by simp [results, Tryz.results33, go_sem, r0, r1, r2, r3]) rfl ⟨_, _, _, _, rfl, q4, HB.out⟩
set_option maxHeartbeats 4000000 in
theorem yround_bd {w : World} {A : Option Addr} {n c a : Nat} {s sg0 : Bool} {z e N E L x r : Int} (h : Wr w s A n c z) (hn : n ≤ 100000) (hN : (mk z e).1 = N) (hE : (mk z e).2 = E) (ha : N.natAbs = a) (hs : decide (N < 0) = sg0) (h0 : a ≠ 0) (hL : ((blen a : Nat) : Int) = L) (hl : 64 < L) (hx : E + L - 64 = x) (hb : L ≤ 3200000) (hc : tp a + 1 < 2 ^ 64) (hr : fin sg0 ((tp a + 1 : Nat) : Int) x true = r) :
    Calls Tryz.prog 33 #[.agg #[.bool s, .slice A n c, .int .i64 e], .bool (!sg0)] w (PN w r) := by
  obtain ⟨b1, b2⟩ := mk_bd z e
  rw [hE] at b1 b2
  have HN := Lib.hid hN
  have HE := Lib.hid hE
  have HA := Lib.hid ha
  have HSG := Lib.hid hs
  have HL := Lib.hid hL
  have hl0 : blen a ≠ 0 := fun e => h0 (blen_eq_zero.1 e)
  have g1 := tp_ge h0
  have g2 := tp_lt a
  have HX1 : Hid (IntKind.i64.wrap (E + L) = E + L) := Lib.hid (IntWalk.i64_in _ (by omega))
  have HX2 : Hid (IntKind.i64.wrap (E + L - 64) = x) := Lib.hid (by rw [hx]; exact IntWalk.i64_in _ (by omega))
  obtain ⟨v, hv⟩ : ∃ v, L - 64 = v := ⟨_, rfl⟩
  have HV : Hid (IntKind.i64.wrap (L - 64) = v) := Lib.hid (by rw [hv]; exact IntWalk.i64_in _ (by omega))
  have HSH : Hid (a / 2 ^ v.toNat = tp a) := Lib.hid (by rw [← hv, ← hL]; exact tp_one (by omega))
  obtain ⟨U, hU⟩ : ∃ U, tp a + 1 = U := ⟨_, rfl⟩
  have HU := Lib.hid hU
  rw [hU] at hr hc
  obtain ⟨T, hT⟩ : ∃ T, ((U : Nat) : Int) = T := ⟨_, rfl⟩
  rw [hT] at hr
  have HT := Lib.hid hT
  have HR := Lib.hid hr
  have hT1 : 9223372036854775808 ≤ T := by omega
  have hT2 : T < 18446744073709551616 := by omega
  have HG2 := Lib.hid hc
  obtain ⟨ℓ, hℓ⟩ : ∃ ℓ, ((blen U : Nat) : Int) = ℓ := ⟨_, rfl⟩
  have hℓ2 : ℓ ≤ 64 := by
    have := blen_mono_le hc
    omega
  have HLU := Lib.hid hℓ
  clear hN hE ha hs hL hx hr hT hv g1 g2 hl0 hc hU hℓ
  go_enter Tryz.func33, Tryz.ntmps33
  go_upto_region 1 with (fail)
  have X1 := (Bo.newAt w (g := w.heap.size) (by simp) #[.bool s, .slice A n c, .int .i64 e] 51).below (bel1 _ (.cells #[.int .i64 0, .bool false, .int .u64 0, .int .i64 0] 24))
  have XR := (Bo.newAt (w.alloc (.cells #[.bool s, .slice A n c, .int .i64 e] 51)) (g := w.heap.size + 1) (by simp) #[.int .i64 0, .bool false, .int .u64 0, .int .i64 0] 24)
  have HB := Lib.hid (bel2 w (.cells #[.bool s, .slice A n c, .int .i64 e] 51) (.cells #[.int .i64 0, .bool false, .int .u64 0, .int .i64 0] 24))
  replace h := h.below HB.out
  generalize hW1 : ((w.alloc (.cells #[.bool s, .slice A n c, .int .i64 e] 51)).alloc (.cells #[.int .i64 0, .bool false, .int .u64 0, .int .i64 0] 24)) = w1 at *
  clear hW1
  have xX10 := X1.a 0 (.bool s) rfl
  have xX11 := X1.a 1 (.slice A n c) rfl
  have xX12 := X1.a 2 (.int .i64 e) rfl
  go_wp2_with fail
  refine (q3Make h hn HN.out HE.out).mono ?_
  rintro ee w2 ⟨s1, A1, n1, c1, rfl, p1, k1, B⟩
  clear xX10 xX11 xX12
  replace X1 := X1.below B
  replace XR := XR.below B
  replace h := h.below B
  replace HB := Lib.hid (bt HB.out B)
  clear B
  go_upto_region 2 with (fail)
  have lX5 := Nat.le_refl (World.heap w2).size
  have nX5X1 := X1.lt
  have nX5XR := XR.lt
  replace X1 := X1.below (bel1 _ (.cells #[.bool s1, .slice A1 n1 c1, .int .i64 E] 51))
  replace XR := XR.below (bel1 _ (.cells #[.bool s1, .slice A1 n1 c1, .int .i64 E] 51))
  replace p1 := p1.below (bel1 _ (.cells #[.bool s1, .slice A1 n1 c1, .int .i64 E] 51))
  replace HB := Lib.hid (bt HB.out (bel1 _ (.cells #[.bool s1, .slice A1 n1 c1, .int .i64 E] 51)))
  have X5 := Bo.new w2 #[.bool s1, .slice A1 n1 c1, .int .i64 E] 51
  generalize hWn : World.alloc w2 (.cells #[.bool s1, .slice A1 n1 c1, .int .i64 E] 51) = w3 at *
  clear hWn
  clear lX5
  obtain rfl : s1 = sg0 := p1.2.trans HSG.out
  have p2 : Nm w3 A1 n1 c1 a := HA.out ▸ p1.1
  have hbl := p2.rd.blen_le
  have hn1 : n1 ≤ 100000 := by omega
  have hpos : 0 < n1 := p2.pos.2 (by omega)
  clear p1 HSG
  have e0 : ((n1 : Int) == 0) = false := by
    have : (n1 : Int) ≠ 0 := by omega
    simpa using this
  have hbg : n1 ≤ 1099511627776 := by omega
  have f1 : (s1 != s1) = false := by cases s1 <;> rfl
  have f2 : (!s1 != s1) = true := by cases s1 <;> rfl
  have f3 : (s1 == s1) = true := by cases s1 <;> rfl
  have f4 : ((!s1) == s1) = false := by cases s1 <;> rfl
  have xX50 := X5.a 0 (.bool s1) rfl
  have xX51 := X5.a 1 (.slice A1 n1 c1) rfl
  have xX52 := X5.a 2 (.int .i64 E) rfl
  go_wp2_with fail
  refine (rLen p2.rd HL.out).mono ?_
  rintro ee w4 ⟨rfl, B⟩
  clear xX50 xX51 xX52
  replace XR := XR.below B
  replace X5 := X5.below B
  replace p2 := p2.below B
  replace HB := Lib.hid (bt HB.out B)
  clear B
  have xX50 := X5.a 0 (.bool s1) rfl
  have xX51 := X5.a 1 (.slice A1 n1 c1) rfl
  have xX52 := X5.a 2 (.int .i64 E) rfl
  have hv := HV.out
  go_wp2_with fail
  refine (rShrP v p2.rd (by omega)).mono ?_
  rintro ee w5 ⟨A3, n3, c3, rfl, p3, k3, B⟩
  clear xX50 xX51 xX52
  replace XR := XR.below B
  replace X5 := X5.below B
  replace p2 := p2.below B
  replace HB := Lib.hid (bt HB.out B)
  clear B hv
  rw [HSH.out] at p3
  have xX50 := X5.a 0 (.bool s1) rfl
  have xX51 := X5.a 1 (.slice A1 n1 c1) rfl
  have xX52 := X5.a 2 (.int .i64 E) rfl
  have hx1 := HX1.out
  have hx2 := HX2.out
  go_wp2_with fail
  clear hx1 hx2
  refine (rAddE (p3.rd.below (bel1 _ _)) (one_rd _) (by omega) (by omega) HU.out).mono ?_
  rintro ee w6 ⟨A4, n4, c4, rfl, p4, k4, B⟩
  replace B := bt (bel1 _ _) B
  clear xX50 xX51 xX52
  replace XR := XR.below B
  replace X5 := X5.below B
  replace p3 := p3.below B
  replace HB := Lib.hid (bt HB.out B)
  clear B
  have hn3 : n3 ≤ 100000 := by omega
  go_wp2_with fail
  refine (rLen p4.rd HLU.out).mono ?_
  rintro ee w7 ⟨rfl, B⟩
  replace XR := XR.below B
  replace X5 := X5.below B
  replace p4 := p4.below B
  replace HB := Lib.hid (bt HB.out B)
  clear B
  go_upto_region 15 with (fail)
  have p9 := p4
  refine Jo.region_joint (T := [0, 1, 2, 3, 4, 5, 6, 7]) (ds := [some 71, some 72, some 73, some 74, some 75, some 76, some 77, some 78, none]) (ls := [[], [0], [1], [], [3], [], [], [2, 4, 5, 6], []]) (k := 9) (L := [(some 71, 0), (some 72, 1), (some 73, 2), (some 74, 3), (some 75, 4), (some 76, 5), (some 77, 6), (some 78, 7)]) (fuel := 1) (J := fun wj => Below (World.heap w7).size w7 wj)
    (F := [Jo.Fact.eq (.pointer (some ⟨w2.heap.size, 0, none⟩)), Jo.Fact.eq (.pointer (some ⟨w2.heap.size, 0, none⟩)), Jo.Fact.eq (.bool s1), Jo.Fact.eq (.slice A4 n4 c4), Jo.Fact.eq (.int .u64 T), Jo.Fact.eq (.int .i64 x), Jo.Fact.eq (.bool true), Jo.Fact.num r, Jo.Fact.any])
    (by kernel_rfl) (by kernel_rfl) (by decide) rfl rfl (fun _ _ h b => bt h b) ((Below.refl _ _).drew) ?_ (fun vs w8 hJ hd => ?_)
  · refine Jo.jd 0 (some 71) [] (Jo.Fact.eq (.pointer (some ⟨w2.heap.size, 0, none⟩))) rfl rfl rfl rfl (fun vs wj hJ hd K hK => ?_) ?_
    · simp only [Jo.putl, Jo.ze, Act.put, Jo.za, Jo.zb, Jo.zc] at hK ⊢
      clear hd
      go_simp
      exact hK.out _ _ rfl (Below.refl _ _)
    refine Jo.jd 1 (some 72) [(some 71, 0)] (Jo.Fact.eq (.pointer (some ⟨w2.heap.size, 0, none⟩))) rfl rfl rfl rfl (fun vs wj hJ hd K hK => ?_) ?_
    · simp only [Jo.putl, Jo.zd, Jo.ze, Act.put, Jo.za, Jo.zb, Jo.zc] at hK ⊢
      rw [show vs 0 = _ from hd 0 (by decide)] at hK ⊢
      clear hd
      go_simp
      exact hK.out _ _ rfl (Below.refl _ _)
    refine Jo.jd 2 (some 73) [(some 72, 1)] (Jo.Fact.eq (.bool s1)) rfl rfl rfl rfl (fun vs wj hJ hd K hK => ?_) ?_
    · simp only [Jo.putl, Jo.zd, Jo.ze, Act.put, Jo.za, Jo.zb, Jo.zc] at hK ⊢
      rw [show vs 1 = _ from hd 1 (by decide)] at hK ⊢
      clear hd
      have xX50 := (X5.below hJ).a 0 (.bool s1) rfl
      go_simp
      exact hK.out _ _ rfl (Below.refl _ _)
    refine Jo.jd 3 (some 74) [] (Jo.Fact.eq (.slice A4 n4 c4)) rfl rfl rfl rfl (fun vs wj hJ hd K hK => ?_) ?_
    · simp only [Jo.putl, Jo.ze, Act.put, Jo.za, Jo.zb, Jo.zc] at hK ⊢
      clear hd
      go_simp
      exact hK.out _ _ rfl (Below.refl _ _)
    refine Jo.jd 4 (some 75) [(some 74, 3)] (Jo.Fact.eq (.int .u64 T)) rfl rfl rfl rfl (fun vs wj hJ hd K hK => ?_) ?_
    · simp only [Jo.putl, Jo.zd, Jo.ze, Act.put, Jo.za, Jo.zb, Jo.zc] at hK ⊢
      rw [show vs 3 = _ from hd 3 (by decide)] at hK ⊢
      clear hd
      go_simp
      refine (yWord (p9.below hJ) HG2.out HT.out).mono ?_
      rintro ee wk ⟨rfl, B⟩
      exact hK.out _ _ rfl B
    refine Jo.jd 5 (some 76) [] (Jo.Fact.eq (.int .i64 x)) rfl rfl rfl rfl (fun vs wj hJ hd K hK => ?_) ?_
    · simp only [Jo.putl, Jo.ze, Act.put, Jo.za, Jo.zb, Jo.zc] at hK ⊢
      clear hd
      go_simp
      exact hK.out _ _ rfl (Below.refl _ _)
    refine Jo.jd 6 (some 77) [] (Jo.Fact.eq (.bool true)) rfl rfl rfl rfl (fun vs wj hJ hd K hK => ?_) ?_
    · simp only [Jo.putl, Jo.ze, Act.put, Jo.za, Jo.zb, Jo.zc] at hK ⊢
      clear hd
      go_simp
      exact hK.out _ _ rfl (Below.refl _ _)
    refine Jo.jd 7 (some 78) [(some 73, 2), (some 75, 4), (some 76, 5), (some 77, 6)] (Jo.Fact.num r) rfl rfl rfl rfl (fun vs wj hJ hd K hK => ?_) ?_
    · simp only [Jo.putl, Jo.zd, Jo.ze, Act.put, Jo.za, Jo.zb, Jo.zc] at hK ⊢
      rw [show vs 2 = _ from hd 2 (by decide), show vs 4 = _ from hd 4 (by decide), show vs 5 = _ from hd 5 (by decide), show vs 6 = _ from hd 6 (by decide)] at hK ⊢
      clear hd
      go_simp
      refine (yFin hT1 hT2 HR.out).mono ?_
      rintro ee wk ⟨K4, s4, M4, E4, rfl, q4, B⟩
      exact hK.out _ _ ⟨K4, s4, M4, E4, rfl, q4⟩ B
    exact Jo.Steps.nil
  have d7 : (Jo.Fact.num r).P (vs 7) w8 := hd 7 (by decide)
  simp only [Jo.putl, Jo.zd, Jo.ze, Act.put, Jo.za, Jo.zb, Jo.zc]
  rw [show vs 2 = _ from hd 2 (by decide), show vs 3 = _ from hd 3 (by decide), show vs 4 = _ from hd 4 (by decide), show vs 5 = _ from hd 5 (by decide), show vs 6 = _ from hd 6 (by decide)]
  clear hd
  generalize vs 7 = u7 at d7 ⊢
  obtain ⟨K4, s4, M4, E4, rfl, q4⟩ := d7
  replace XR := XR.below hJ
  replace X5 := X5.below hJ
  replace p9 := p9.below hJ
  replace HB := Lib.hid (bt HB.out hJ)
  have xXR0 := XR.a 0 (.int .i64 0) rfl
  have zXR0 := XR.frozen 0
  have xXR1 := XR.a 1 (.bool false) rfl
  have zXR1 := XR.frozen 1
  have xXR2 := XR.a 2 (.int .u64 0) rfl
  have zXR2 := XR.frozen 2
  have xXR3 := XR.a 3 (.int .i64 0) rfl
  have zXR3 := XR.frozen 3
  refine Jo.jnext (i := 8) (o := ⟨none, _, _, _, _, _⟩) (by kernel_rfl) rfl (fun K hK => ?_)
  go_simp
  refine hK.out _ _ ?_
  clear hK K xXR0 zXR0 xXR1 zXR1 xXR2 zXR2 xXR3 zXR3
  have SX := StN.mk4 XR (.int .i64 K4) (.bool s4) (.int .u64 M4) (.int .i64 E4)
  replace X5 := X5.stn SX (by omega)
  replace HB := Lib.hid (SX.below HB.out (by omega))
  replace XR := SX.box
  clear SX
  generalize (World.setCell (World.setCell (World.setCell (World.setCell w8 ⟨w.heap.size + 1, 0, none⟩ (.int .i64 K4)) ⟨w.heap.size + 1, 1, none⟩ (.bool s4)) ⟨w.heap.size + 1, 2, none⟩ (.int .u64 M4)) ⟨w.heap.size + 1, 3, none⟩ (.int .i64 E4)) = w9 at *
  refine Jo.jdone (by kernel_rfl) ?_
  go_wp2
  have r0 := XR.cell 0
  have r1 := XR.cell 1
  have r2 := XR.cell 2
  have r3 := XR.cell 3
  exact bodyPost_ret (v := .agg #[.int .i64 K4, .bool s4, .int .u64 M4, .int .i64 E4]) (by simp [results, Tryz.results33, go_sem, r0, r1, r2, r3]) rfl ⟨_, _, _, _, rfl, q4, HB.out⟩
set_option maxHeartbeats 4000000 in
theorem yround_bc {w : World} {A : Option Addr} {n c a : Nat} {s sg0 : Bool} {z e N E L x r : Int} (h : Wr w s A n c z) (hn : n ≤ 100000) (hN : (mk z e).1 = N) (hE : (mk z e).2 = E) (ha : N.natAbs = a) (hs : decide (N < 0) = sg0) (h0 : a ≠ 0) (hL : ((blen a : Nat) : Int) = L) (hl : 64 < L) (hx : E + L - 64 = x) (hb : L ≤ 3200000) (hc : tp a + 1 = 2 ^ 64) (hr : fin sg0 9223372036854775808 (x + 1) true = r) :
    Calls Tryz.prog 33 #[.agg #[.bool s, .slice A n c, .int .i64 e], .bool (!sg0)] w (PN w r) := by
  obtain ⟨b1, b2⟩ := mk_bd z e
  rw [hE] at b1 b2
  have HN := Lib.hid hN
  have HE := Lib.hid hE
  have HA := Lib.hid ha
  have HSG := Lib.hid hs
  have HL := Lib.hid hL
  have hl0 : blen a ≠ 0 := fun e => h0 (blen_eq_zero.1 e)
  have g1 := tp_ge h0
  have g2 := tp_lt a
  have HX1 : Hid (IntKind.i64.wrap (E + L) = E + L) := Lib.hid (IntWalk.i64_in _ (by omega))
  have HX2 : Hid (IntKind.i64.wrap (E + L - 64) = x) := Lib.hid (by rw [hx]; exact IntWalk.i64_in _ (by omega))
  obtain ⟨v, hv⟩ : ∃ v, L - 64 = v := ⟨_, rfl⟩
  have HV : Hid (IntKind.i64.wrap (L - 64) = v) := Lib.hid (by rw [hv]; exact IntWalk.i64_in _ (by omega))
  have HSH : Hid (a / 2 ^ v.toNat = tp a) := Lib.hid (by rw [← hv, ← hL]; exact tp_one (by omega))
  obtain ⟨U, hU⟩ : ∃ U, tp a + 1 = U := ⟨_, rfl⟩
  have HU := Lib.hid hU
  rw [hU] at hc
  have HR := Lib.hid hr
  have hT1 : (9223372036854775808 : Int) ≤ 9223372036854775808 := by decide
  have hT2 : (9223372036854775808 : Int) < 18446744073709551616 := by decide
  have hc2 : U = 18446744073709551616 := hc
  have HG2 : Hid (9223372036854775808 < 18446744073709551616) := Lib.hid (by decide)
  have HW3 : Hid (IntKind.i64.wrap (x + 1) = x + 1) := Lib.hid (IntWalk.i64_in _ (by omega))
  have HLU : Hid (((blen U : Nat) : Int) = 65) := Lib.hid (by rw [hc, blen_pow]; rfl)
  have HDV : Hid (U / 2 ^ (1 : Int).toNat = 9223372036854775808) := Lib.hid (by rw [hc2]; decide)
  clear hN hE ha hs hL hx hr hv g1 g2 hl0 hc hU hc2
  go_enter Tryz.func33, Tryz.ntmps33
  go_upto_region 1 with (fail)
  have X1 := (Bo.newAt w (g := w.heap.size) (by simp) #[.bool s, .slice A n c, .int .i64 e] 51).below (bel1 _ (.cells #[.int .i64 0, .bool false, .int .u64 0, .int .i64 0] 24))
  have XR := (Bo.newAt (w.alloc (.cells #[.bool s, .slice A n c, .int .i64 e] 51)) (g := w.heap.size + 1) (by simp) #[.int .i64 0, .bool false, .int .u64 0, .int .i64 0] 24)
  have HB := Lib.hid (bel2 w (.cells #[.bool s, .slice A n c, .int .i64 e] 51) (.cells #[.int .i64 0, .bool false, .int .u64 0, .int .i64 0] 24))
  replace h := h.below HB.out
  generalize hW1 : ((w.alloc (.cells #[.bool s, .slice A n c, .int .i64 e] 51)).alloc (.cells #[.int .i64 0, .bool false, .int .u64 0, .int .i64 0] 24)) = w1 at *
  clear hW1
  have xX10 := X1.a 0 (.bool s) rfl
  have xX11 := X1.a 1 (.slice A n c) rfl
  have xX12 := X1.a 2 (.int .i64 e) rfl
  go_wp2_with fail
  refine (q3Make h hn HN.out HE.out).mono ?_
  rintro ee w2 ⟨s1, A1, n1, c1, rfl, p1, k1, B⟩
  clear xX10 xX11 xX12
  replace X1 := X1.below B
  replace XR := XR.below B
  replace h := h.below B
  replace HB := Lib.hid (bt HB.out B)
  clear B
  go_upto_region 2 with (fail)
  have lX5 := Nat.le_refl (World.heap w2).size
  have nX5X1 := X1.lt
  have nX5XR := XR.lt
  replace X1 := X1.below (bel1 _ (.cells #[.bool s1, .slice A1 n1 c1, .int .i64 E] 51))
  replace XR := XR.below (bel1 _ (.cells #[.bool s1, .slice A1 n1 c1, .int .i64 E] 51))
  replace p1 := p1.below (bel1 _ (.cells #[.bool s1, .slice A1 n1 c1, .int .i64 E] 51))
  replace HB := Lib.hid (bt HB.out (bel1 _ (.cells #[.bool s1, .slice A1 n1 c1, .int .i64 E] 51)))
  have X5 := Bo.new w2 #[.bool s1, .slice A1 n1 c1, .int .i64 E] 51
  generalize hWn : World.alloc w2 (.cells #[.bool s1, .slice A1 n1 c1, .int .i64 E] 51) = w3 at *
  clear hWn
  clear lX5
  obtain rfl : s1 = sg0 := p1.2.trans HSG.out
  have p2 : Nm w3 A1 n1 c1 a := HA.out ▸ p1.1
  have hbl := p2.rd.blen_le
  have hn1 : n1 ≤ 100000 := by omega
  have hpos : 0 < n1 := p2.pos.2 (by omega)
  clear p1 HSG
  have e0 : ((n1 : Int) == 0) = false := by
    have : (n1 : Int) ≠ 0 := by omega
    simpa using this
  have hbg : n1 ≤ 1099511627776 := by omega
  have f1 : (s1 != s1) = false := by cases s1 <;> rfl
  have f2 : (!s1 != s1) = true := by cases s1 <;> rfl
  have f3 : (s1 == s1) = true := by cases s1 <;> rfl
  have f4 : ((!s1) == s1) = false := by cases s1 <;> rfl
  have xX50 := X5.a 0 (.bool s1) rfl
  have xX51 := X5.a 1 (.slice A1 n1 c1) rfl
  have xX52 := X5.a 2 (.int .i64 E) rfl
  go_wp2_with fail
  refine (rLen p2.rd HL.out).mono ?_
  rintro ee w4 ⟨rfl, B⟩
  clear xX50 xX51 xX52
  replace XR := XR.below B
  replace X5 := X5.below B
  replace p2 := p2.below B
  replace HB := Lib.hid (bt HB.out B)
  clear B
  have xX50 := X5.a 0 (.bool s1) rfl
  have xX51 := X5.a 1 (.slice A1 n1 c1) rfl
  have xX52 := X5.a 2 (.int .i64 E) rfl
  have hv := HV.out
  go_wp2_with fail
  refine (rShrP v p2.rd (by omega)).mono ?_
  rintro ee w5 ⟨A3, n3, c3, rfl, p3, k3, B⟩
  clear xX50 xX51 xX52
  replace XR := XR.below B
  replace X5 := X5.below B
  replace p2 := p2.below B
  replace HB := Lib.hid (bt HB.out B)
  clear B hv
  rw [HSH.out] at p3
  have xX50 := X5.a 0 (.bool s1) rfl
  have xX51 := X5.a 1 (.slice A1 n1 c1) rfl
  have xX52 := X5.a 2 (.int .i64 E) rfl
  have hx1 := HX1.out
  have hx2 := HX2.out
  go_wp2_with fail
  clear hx1 hx2
  refine (rAddE (p3.rd.below (bel1 _ _)) (one_rd _) (by omega) (by omega) HU.out).mono ?_
  rintro ee w6 ⟨A4, n4, c4, rfl, p4, k4, B⟩
  replace B := bt (bel1 _ _) B
  clear xX50 xX51 xX52
  replace XR := XR.below B
  replace X5 := X5.below B
  replace p3 := p3.below B
  replace HB := Lib.hid (bt HB.out B)
  clear B
  have hn3 : n3 ≤ 100000 := by omega
  go_wp2_with fail
  refine (rLen p4.rd HLU.out).mono ?_
  rintro ee w7 ⟨rfl, B⟩
  replace XR := XR.below B
  replace X5 := X5.below B
  replace p4 := p4.below B
  replace HB := Lib.hid (bt HB.out B)
  clear B
  go_wp2_with fail
  refine (rShrP 1 p4.rd (by omega)).mono ?_
  rintro ee w71 ⟨A5, n5, c5, rfl, p5, k5, B⟩
  replace XR := XR.below B
  replace X5 := X5.below B
  replace p4 := p4.below B
  replace HB := Lib.hid (bt HB.out B)
  clear B
  rw [HDV.out] at p5
  have hw3 := HW3.out
  go_upto_region 15 with (fail)
  clear hw3
  have p9 := p5
  refine Jo.region_joint (T := [0, 1, 2, 3, 4, 5, 6, 7]) (ds := [some 71, some 72, some 73, some 74, some 75, some 76, some 77, some 78, none]) (ls := [[], [0], [1], [], [3], [], [], [2, 4, 5, 6], []]) (k := 9) (L := [(some 71, 0), (some 72, 1), (some 73, 2), (some 74, 3), (some 75, 4), (some 76, 5), (some 77, 6), (some 78, 7)]) (fuel := 1) (J := fun wj => Below (World.heap w71).size w71 wj)
    (F := [Jo.Fact.eq (.pointer (some ⟨w2.heap.size, 0, none⟩)), Jo.Fact.eq (.pointer (some ⟨w2.heap.size, 0, none⟩)), Jo.Fact.eq (.bool s1), Jo.Fact.eq (.slice A5 n5 c5), Jo.Fact.eq (.int .u64 9223372036854775808), Jo.Fact.eq (.int .i64 (x + 1)), Jo.Fact.eq (.bool true), Jo.Fact.num r, Jo.Fact.any])
    (by kernel_rfl) (by kernel_rfl) (by decide) rfl rfl (fun _ _ h b => bt h b) ((Below.refl _ _).drew) ?_ (fun vs w8 hJ hd => ?_)
  · refine Jo.jd 0 (some 71) [] (Jo.Fact.eq (.pointer (some ⟨w2.heap.size, 0, none⟩))) rfl rfl rfl rfl (fun vs wj hJ hd K hK => ?_) ?_
    · simp only [Jo.putl, Jo.ze, Act.put, Jo.za, Jo.zb, Jo.zc] at hK ⊢
      clear hd
      go_simp
      exact hK.out _ _ rfl (Below.refl _ _)
    refine Jo.jd 1 (some 72) [(some 71, 0)] (Jo.Fact.eq (.pointer (some ⟨w2.heap.size, 0, none⟩))) rfl rfl rfl rfl (fun vs wj hJ hd K hK => ?_) ?_
    · simp only [Jo.putl, Jo.zd, Jo.ze, Act.put, Jo.za, Jo.zb, Jo.zc] at hK ⊢
      rw [show vs 0 = _ from hd 0 (by decide)] at hK ⊢
      clear hd
      go_simp
      exact hK.out _ _ rfl (Below.refl _ _)
    refine Jo.jd 2 (some 73) [(some 72, 1)] (Jo.Fact.eq (.bool s1)) rfl rfl rfl rfl (fun vs wj hJ hd K hK => ?_) ?_
    · simp only [Jo.putl, Jo.zd, Jo.ze, Act.put, Jo.za, Jo.zb, Jo.zc] at hK ⊢
      rw [show vs 1 = _ from hd 1 (by decide)] at hK ⊢
      clear hd
      have xX50 := (X5.below hJ).a 0 (.bool s1) rfl
      go_simp
      exact hK.out _ _ rfl (Below.refl _ _)
    refine Jo.jd 3 (some 74) [] (Jo.Fact.eq (.slice A5 n5 c5)) rfl rfl rfl rfl (fun vs wj hJ hd K hK => ?_) ?_
    · simp only [Jo.putl, Jo.ze, Act.put, Jo.za, Jo.zb, Jo.zc] at hK ⊢
      clear hd
      go_simp
      exact hK.out _ _ rfl (Below.refl _ _)
    refine Jo.jd 4 (some 75) [(some 74, 3)] (Jo.Fact.eq (.int .u64 9223372036854775808)) rfl rfl rfl rfl (fun vs wj hJ hd K hK => ?_) ?_
    · simp only [Jo.putl, Jo.zd, Jo.ze, Act.put, Jo.za, Jo.zb, Jo.zc] at hK ⊢
      rw [show vs 3 = _ from hd 3 (by decide)] at hK ⊢
      clear hd
      go_simp
      refine (yWord (p9.below hJ) HG2.out rfl).mono ?_
      rintro ee wk ⟨rfl, B⟩
      exact hK.out _ _ rfl B
    refine Jo.jd 5 (some 76) [] (Jo.Fact.eq (.int .i64 (x + 1))) rfl rfl rfl rfl (fun vs wj hJ hd K hK => ?_) ?_
    · simp only [Jo.putl, Jo.ze, Act.put, Jo.za, Jo.zb, Jo.zc] at hK ⊢
      clear hd
      go_simp
      exact hK.out _ _ rfl (Below.refl _ _)
    refine Jo.jd 6 (some 77) [] (Jo.Fact.eq (.bool true)) rfl rfl rfl rfl (fun vs wj hJ hd K hK => ?_) ?_
    · simp only [Jo.putl, Jo.ze, Act.put, Jo.za, Jo.zb, Jo.zc] at hK ⊢
      clear hd
      go_simp
      exact hK.out _ _ rfl (Below.refl _ _)
    refine Jo.jd 7 (some 78) [(some 73, 2), (some 75, 4), (some 76, 5), (some 77, 6)] (Jo.Fact.num r) rfl rfl rfl rfl (fun vs wj hJ hd K hK => ?_) ?_
    · simp only [Jo.putl, Jo.zd, Jo.ze, Act.put, Jo.za, Jo.zb, Jo.zc] at hK ⊢
      rw [show vs 2 = _ from hd 2 (by decide), show vs 4 = _ from hd 4 (by decide), show vs 5 = _ from hd 5 (by decide), show vs 6 = _ from hd 6 (by decide)] at hK ⊢
      clear hd
      go_simp
      refine (yFin hT1 hT2 HR.out).mono ?_
      rintro ee wk ⟨K4, s4, M4, E4, rfl, q4, B⟩
      exact hK.out _ _ ⟨K4, s4, M4, E4, rfl, q4⟩ B
    exact Jo.Steps.nil
  have d7 : (Jo.Fact.num r).P (vs 7) w8 := hd 7 (by decide)
  simp only [Jo.putl, Jo.zd, Jo.ze, Act.put, Jo.za, Jo.zb, Jo.zc]
  rw [show vs 2 = _ from hd 2 (by decide), show vs 3 = _ from hd 3 (by decide), show vs 4 = _ from hd 4 (by decide), show vs 5 = _ from hd 5 (by decide), show vs 6 = _ from hd 6 (by decide)]
  clear hd
  generalize vs 7 = u7 at d7 ⊢
  obtain ⟨K4, s4, M4, E4, rfl, q4⟩ := d7
  replace XR := XR.below hJ
  replace X5 := X5.below hJ
  replace p9 := p9.below hJ
  replace HB := Lib.hid (bt HB.out hJ)
  have xXR0 := XR.a 0 (.int .i64 0) rfl
  have zXR0 := XR.frozen 0
  have xXR1 := XR.a 1 (.bool false) rfl
  have zXR1 := XR.frozen 1
  have xXR2 := XR.a 2 (.int .u64 0) rfl
  have zXR2 := XR.frozen 2
  have xXR3 := XR.a 3 (.int .i64 0) rfl
  have zXR3 := XR.frozen 3
  refine Jo.jnext (i := 8) (o := ⟨none, _, _, _, _, _⟩) (by kernel_rfl) rfl (fun K hK => ?_)
  go_simp
  refine hK.out _ _ ?_
  clear hK K xXR0 zXR0 xXR1 zXR1 xXR2 zXR2 xXR3 zXR3
  have SX := StN.mk4 XR (.int .i64 K4) (.bool s4) (.int .u64 M4) (.int .i64 E4)
  replace X5 := X5.stn SX (by omega)
  replace HB := Lib.hid (SX.below HB.out (by omega))
  replace XR := SX.box
  clear SX
  generalize (World.setCell (World.setCell (World.setCell (World.setCell w8 ⟨w.heap.size + 1, 0, none⟩ (.int .i64 K4)) ⟨w.heap.size + 1, 1, none⟩ (.bool s4)) ⟨w.heap.size + 1, 2, none⟩ (.int .u64 M4)) ⟨w.heap.size + 1, 3, none⟩ (.int .i64 E4)) = w9 at *
  refine Jo.jdone (by kernel_rfl) ?_
  go_wp2
  have r0 := XR.cell 0
  have r1 := XR.cell 1
  have r2 := XR.cell 2
  have r3 := XR.cell 3
  exact bodyPost_ret (v := .agg #[.int .i64 K4, .bool s4, .int .u64 M4, .int .i64 E4]) (by simp [results, Tryz.results33, go_sem, r0, r1, r2, r3]) rfl ⟨_, _, _, _, rfl, q4, HB.out⟩
theorem yRound {w : World} {A : Option Addr} {n c : Nat} {s up : Bool} {z e N E r : Int} (h : Wr w s A n c z) (hn : n ≤ 100000) (hN : (mk z e).1 = N) (hE : (mk z e).2 = E) (hr : rnd up N E = r) :
    Calls Tryz.prog 33 #[.agg #[.bool s, .slice A n c, .int .i64 e], .bool up] w (PN w r) := by
  obtain ⟨σ, hσ⟩ : ∃ σ, decide (N < 0) = σ := ⟨_, rfl⟩
  have hbl : blen N.natAbs ≤ 3200000 := by
    have hb := h.rd.blen_le
    have : blen N.natAbs ≤ blen z.natAbs := by
      rcases mk_cases z e with h0 | ⟨h0, h1, h2, h3, h4, h5, h6⟩
      · rw [h0] at hN
        rw [← hN]
        exact Nat.zero_le _
      · rw [hN] at h6 h4
        rw [h6, natAbs_mul_pow, blen_mul (by omega)]
        omega
    omega
  by_cases h0 : N.natAbs = 0
  · have hN0 : N = 0 := by omega
    have : r = 0 := by
      rw [← hr, hN0, rnd_ext rfl]
      rfl
    rw [this]
    exact yround_zero h hn hN hE rfl hσ h0
  · by_cases hs : σ = up
    · subst hs
      rw [rnd_same hσ.symm rfl, ← fin_nc σ h0] at hr
      by_cases hl : blen N.natAbs ≤ 64
      · exact yround_ss h hn hN hE rfl hσ h0 rfl (by omega) rfl (by omega) hr
      · exact yround_bs h hn hN hE rfl hσ h0 rfl (by omega) rfl (by omega) hr
    · obtain rfl : (!σ) = up := by cases σ <;> cases up <;> first | rfl | exact absurd rfl hs
      rw [rnd_diff hσ.symm] at hr
      by_cases hl : blen N.natAbs ≤ 64
      · rw [← fin_small σ h0 hl] at hr
        exact yround_sd h hn hN hE rfl hσ h0 rfl (by omega) rfl (by omega) hr
      · have g := tp_lt N.natAbs
        by_cases hc : tp N.natAbs + 1 < 2 ^ 64
        · rw [← fin_up σ (by omega) hc] at hr
          exact yround_bd h hn hN hE rfl hσ h0 rfl (by omega) rfl (by omega) hc hr
        · rw [← fin_carry σ (by omega) (by omega)] at hr
          exact yround_bc h hn hN hE rfl hσ h0 rfl (by omega) rfl (by omega) (by omega) hr
end Go.Proofs.YtpmakljahhhnfaaGreatDoor

/-
  Plain arithmetic for the statements of layer 3: floors, moves, products; the test of sizes.
-/
namespace Go.Proofs.YtpmakljahhhnfaaGreatDoor
open Go.RowKit
set_option linter.unusedVariables false

theorem nat_p2 (k : Nat) : ((2 ^ k : Nat) : Int) = 2 ^ k := by simp
theorem vl_lt {h : Nat} {p : Int × Int} (hh : h ≤ 4194304) (fp : Fit h p) : -(2 ^ h * 2 ^ KK) < vl p ∧ vl p < 2 ^ h * 2 ^ KK := by
  have h1 := fp.2.2
  have hl := fp.lo
  have e1 : (vl p).natAbs * 2 ^ h < 2 ^ h * 2 ^ KK * 2 ^ h := by
    rw [vl_natAbs]
    have k1 : (p.2 + KK).toNat = (p.2 + h).toNat + (KK - h) := by rw [KK_eq]; omega
    rw [k1, Nat.pow_add, ← Nat.mul_assoc, Nat.mul_assoc _ (2 ^ (KK - h)), ← Nat.pow_add, Nat.mul_assoc (2 ^ h), ← Nat.pow_add, ← Nat.pow_add]
    have k2 : h + (KK + h) = 2 * h + (KK - h + h) := by rw [KK_eq]; omega
    rw [k2, Nat.pow_add 2 (2 * h)]
    exact Nat.mul_lt_mul_of_pos_right h1 (Nat.pow_pos (by decide))
  have e2 : (vl p).natAbs < 2 ^ h * 2 ^ KK := Nat.lt_of_mul_lt_mul_right e1
  have e3 : ((vl p).natAbs : Int) < 2 ^ h * 2 ^ KK := by
    have := Int.ofNat_lt.2 e2
    rwa [Int.natCast_mul, nat_p2, nat_p2] at this
  omega
end Go.Proofs.YtpmakljahhhnfaaGreatDoor

/-
  What the statements of layer 5 rest on: how numbers that are rounded lie beside what they are rounded of. Plain arithmetic; no Go text.
-/
namespace Go.Proofs.YtpmakljahhhnfaaGreatDoor
open Go.RowKit
set_option linter.unusedVariables false

theorem sgi_mul (s : Bool) (x y : Int) : sgi s x * y = sgi s (x * y) := by
  cases s
  · rfl
  · exact Int.neg_mul _ _
theorem vp_vr {x : Int} (s : Bool) (h : 0 < x) : vr (sgi s x) = sgi s (vp x) := by
  rw [vr_sgi]
  congr 1
  unfold vr
  rw [if_neg (by omega)]
/-- A number's worth is that of the dyadic one. -/
theorem exq_vl {D : Int} {s : Bool} {M E r : Int} (q : Fq D s M E r) (h1 : -19342822337206103650074625 < r) (h2 : r < 19342822337206103650074625) : exb D s M E = true ∧ vl (exq D s M E) = vr r := by
  have hb : exb D s M E = true := by
    unfold exb
    rw [decide_eq_true q.1, Bool.true_and]
    rcases q.cases with ⟨rfl, rfl, rfl, rfl, h0⟩ | ⟨rfl, _⟩ | ⟨rfl, rfl, rfl, ⟨rfl, h5⟩ | ⟨rfl, h5⟩⟩
    · rfl
    · rfl
    · omega
    · omega
  refine ⟨hb, ?_⟩
  unfold exq
  rw [if_pos hb]
  have hr := q.2.2
  rcases q.1 with ⟨rfl, rfl, rfl, rfl⟩ | ⟨rfl, g1, g2, g3⟩ | ⟨rfl, rfl, rfl⟩
  · obtain rfl : 0 = r := hr
    have e0 : sgi false 0 = 0 := if_neg (by decide)
    rw [e0, mk_zero, vl_zero]
    rfl
  · have hM := q.2.1
    have hpl : plc 1 M E = M - 9223372036854775808 + 1 + (E + 1048576) * 9223372036854775808 := rfl
    rw [hpl] at hr
    have ha : (sgi s M).natAbs = M.toNat := by
      cases s
      · show M.natAbs = M.toNat; omega
      · show (-M).natAbs = M.toNat; omega
    obtain ⟨η, hη⟩ : ∃ η : Nat, 4194304 = η := ⟨_, rfl⟩
    have hf := mk_fit (z := sgi s M) (e := E) (h := η) (by omega) (by omega) (by
      rw [ha]
      have : M.toNat < 2 ^ 64 := by omega
      have := Nat.mul_lt_mul_of_pos_right this (Nat.pow_pos (n := (E + (η : Int)).toNat) (show 0 < 2 by decide))
      rw [← Nat.pow_add] at this
      exact Nat.lt_of_lt_of_le this (Nat.pow_le_pow_right (by decide) (by omega)))
    rw [hf.2, ← hr, vp_vr s (by omega), vp_fin g1 hM (by omega), sgi_mul]
  · exfalso
    have : r = sgi s TP := hr.symm
    have := TP_eq
    cases s
    · have e : sgi false TP = TP := if_neg (by decide)
      omega
    · have e : sgi true TP = -TP := if_pos rfl
      omega
theorem rnd_nought (up : Bool) : rnd up 0 0 = 0 := by
  rw [rnd_ext rfl]
  rfl
/-- A whole number's place, and its worth. -/
def opl (n : Int) : Int := sgi (decide (n < 0)) (lo n.natAbs 0)
theorem opl_zero : opl 0 = 0 := rfl
theorem opl_vr {n : Int} (h1 : -9223372036854775808 ≤ n) (h2 : n ≤ 9223372036854775807) : vr (opl n) = n * 2 ^ KK := by
  by_cases h0 : n = 0
  · subst h0
    rw [opl_zero, Int.zero_mul]
    rfl
  · have q := of_fq h0 h1 h2
    have hs := of_shl h0 h1 h2
    have a3 := blen_mono_le (n := n.natAbs) (k := 64) (by omega)
    have hr : _ = opl n := q.2.2
    have g := q.plc (by decide)
    rcases g with ⟨_, g1, g2, g3, g4, g5⟩ | ⟨g, _⟩
    · rw [← hr, vp_vr _ (by rw [g5]; omega), g5, vp_fin g1 g2 (by omega), ← hs, Int.mul_assoc, ← Int.pow_add, show (64 - (blen n.natAbs : Int)).toNat + (-(64 - (blen n.natAbs : Int)) + (KK : Int)).toNat = KK by rw [KK_eq]; omega, ← sgi_mul]
      congr 1
      by_cases hn : n < 0
      · rw [decide_eq_true hn]; show -(n.natAbs : Int) = n; omega
      · rw [decide_eq_false hn]; show (n.natAbs : Int) = n; omega
    · exact absurd g (by decide)
theorem opl_cmp {a b : Int} (h1 : -9223372036854775808 ≤ a) (h2 : a ≤ 9223372036854775807) (k1 : -9223372036854775808 ≤ b) (k2 : b ≤ 9223372036854775807) : cmpI (opl a) (opl b) = cmpI a b := by
  rw [← vr_cmp, opl_vr h1 h2, opl_vr k1 k2, cmpI_scale (p2pos KK)]
end Go.Proofs.YtpmakljahhhnfaaGreatDoor

/-
  What any dyadic number in normal form is rounded to, however great or small: how it lies beside its neighbours; of a greater one no lesser one. Plain arithmetic; no Go text.
-/
namespace Go.Proofs.YtpmakljahhhnfaaGreatDoor
open Go.RowKit
set_option linter.unusedVariables false

/-- The place of the least number above, and of the greatest below, by the worth alone. -/
def Dn (X r : Int) : Prop := -19342822337206103650074625 ≤ r ∧ r ≤ 19342822337206103650074624 ∧ (-19342822337206103650074625 < r → vr r ≤ X) ∧ (r < 19342822337206103650074624 → X < vr (r + 1))
def Up (X r : Int) : Prop := Dn (-X) (-r)
theorem Dn.mono {X Y r t : Int} (h : Dn X r) (k : Dn Y t) (hXY : X ≤ Y) : r ≤ t := by
  obtain ⟨h1, h2, h3, h4⟩ := h
  obtain ⟨k1, k2, k3, k4⟩ := k
  rcases Int.lt_or_le t r with q | q
  · exfalso
    have a := h3 (by omega)
    have b := k4 (by omega)
    rcases Int.lt_or_eq_of_le (show t + 1 ≤ r by omega) with q | q
    · have := vr_lt q
      omega
    · rw [q] at b
      omega
  · exact q
theorem Dn.uniq {X r t : Int} (h : Dn X r) (k : Dn X t) : r = t := by
  have a := h.mono k (Int.le_refl _)
  have b := k.mono h (Int.le_refl _)
  omega
theorem Up.mono {X Y r t : Int} (h : Up X r) (k : Up Y t) (hXY : X ≤ Y) : r ≤ t := by
  have := Dn.mono k h (by omega)
  omega
theorem Up.uniq {X r t : Int} (h : Up X r) (k : Up X t) : r = t := by
  have := Dn.uniq h k
  omega
/-- A place's own worth is told by it, to either side. -/
theorem dn_self {r : Int} (h1 : -19342822337206103650074625 < r) (h2 : r < 19342822337206103650074625) : Dn (vr r) r := ⟨by omega, by omega, fun _ => Int.le_refl _, fun _ => vr_succ r⟩
theorem up_self {r : Int} (h1 : -19342822337206103650074625 < r) (h2 : r < 19342822337206103650074625) : Up (vr r) r := by
  unfold Up
  rw [← vr_neg]
  exact dn_self (by omega) (by omega)
theorem m_lt (m : Nat) {a b : Int} (ha : 0 ≤ a) (hb : 0 ≤ b) (h : (blen m : Int) + a ≤ b) : (m : Int) * 2 ^ a.toNat < 2 ^ b.toNat := by
  have h1 := Nat.mul_lt_mul_of_pos_right (blen_lt m) (Nat.pow_pos (n := a.toNat) (show 0 < 2 by decide))
  rw [← Nat.pow_add] at h1
  have h2 := Nat.lt_of_lt_of_le h1 (Nat.pow_le_pow_right (show 0 < 2 by decide) (show blen m + a.toNat ≤ b.toNat by omega))
  exact_mod_cast h2
theorem m_ge {m : Nat} (h0 : m ≠ 0) {a b : Int} (ha : 0 ≤ a) (hb : 0 ≤ b) (h : b ≤ (blen m : Int) - 1 + a) : (2 : Int) ^ b.toNat ≤ (m : Int) * 2 ^ a.toNat := by
  have hl : blen m ≠ 0 := fun e => h0 (blen_eq_zero.1 e)
  have h1 := Nat.mul_le_mul_right (2 ^ a.toNat) (blen_le h0)
  rw [← Nat.pow_add] at h1
  have h2 := Nat.le_trans (Nat.pow_le_pow_right (show 0 < 2 by decide) (show b.toNat ≤ blen m - 1 + a.toNat by omega)) h1
  exact_mod_cast h2
theorem vp_one : vp 1 = 2 ^ (63 - 1048576 + (KK : Int)).toNat := by
  have := vp_fin (M := 9223372036854775808) (E := -1048576) (by decide) (by decide) (by decide)
  rw [show (9223372036854775808 : Int) - 9223372036854775808 + 1 + (-1048576 + 1048576) * 9223372036854775808 = 1 by decide] at this
  rw [this, show (63 - 1048576 + (KK : Int)).toNat = 63 + (-1048576 + (KK : Int)).toNat by rw [KK_eq]; omega, Int.pow_add]
  rfl
theorem vp_top : vp 19342822337206103650074624 < 2 ^ (64 + 1048576 + (KK : Int)).toNat := by
  have := vp_fin (M := 18446744073709551615) (E := 1048576) (by decide) (by decide) (by decide)
  rw [show (18446744073709551615 : Int) - 9223372036854775808 + 1 + (1048576 + 1048576) * 9223372036854775808 = 19342822337206103650074624 by decide] at this
  rw [this, show (64 + 1048576 + (KK : Int)).toNat = 64 + (1048576 + (KK : Int)).toNat by rw [KK_eq]; omega, Int.pow_add]
  exact Int.mul_lt_mul_of_pos_right (by decide) (p2pos _)
/-- A number above nought between what is next to it on both sides. -/
theorem lo_dn {m : Nat} {E : Int} (h0 : m ≠ 0) (hE1 : -4194304 ≤ E) (hE2 : E ≤ 4194304) (ho : m % 2 = 1) : Dn ((m : Int) * 2 ^ (E + KK).toNat) (lo m E) ∧ Up ((m : Int) * 2 ^ (E + KK).toNat) (hi m E) ∧ 0 ≤ lo m E ∧ 0 ≤ hi m E := by
  have hk := KK_eq
  obtain ⟨b1, b2⟩ := lo_bd m E
  have hl : blen m ≠ 0 := fun e => h0 (blen_eq_zero.1 e)
  have hx : xp m E = E + (blen m : Nat) - 64 := rfl
  have e0 : (m == 0) = false := by simpa using h0
  have hpos : 0 < (m : Int) * 2 ^ (E + KK).toNat := Int.mul_pos (by omega) (p2pos _)
  by_cases c1 : 1048576 < xp m E
  · have el : lo m E = 19342822337206103650074624 := by
      unfold lo
      rw [if_neg h0, if_pos c1]
    have ex : ext m E = false := by
      unfold ext
      rw [e0, decide_eq_false (show ¬ xp m E ≤ 1048576 by omega)]
      rfl
    have eh : hi m E = lo m E + 1 := by
      unfold hi
      rw [ex, if_neg (by decide)]
    have g := m_ge h0 (a := E + KK) (b := 64 + 1048576 + KK) (by omega) (by omega) (by omega)
    have ht := vp_top
    have ev : vr 19342822337206103650074624 = vp 19342822337206103650074624 := by
      unfold vr
      rw [if_neg (by decide)]
    rw [eh, el]
    refine ⟨⟨by decide, by decide, fun _ => by omega, fun h => absurd h (by decide)⟩, ⟨by decide, by decide, fun h => absurd h (by decide), fun _ => ?_⟩, by decide, by decide⟩
    have en : vr (-(19342822337206103650074624 + 1) + 1) = -vr 19342822337206103650074624 := vr_neg 19342822337206103650074624
    omega
  · by_cases c2 : xp m E < -1048576
    · have el : lo m E = 0 := by
        unfold lo
        rw [if_neg h0, if_neg c1, if_pos c2]
      have ex : ext m E = false := by
        unfold ext
        rw [e0, decide_eq_false (show ¬ -1048576 ≤ xp m E by omega)]
        simp
      have eh : hi m E = lo m E + 1 := by
        unfold hi
        rw [ex, if_neg (by decide)]
      have g := m_lt m (a := E + KK) (b := 63 - 1048576 + KK) (by omega) (by omega) (by omega)
      have h1 := vp_one
      have ev : vr 1 = vp 1 := by
        unfold vr
        rw [if_neg (by decide)]
      have ez : vr 0 = 0 := rfl
      rw [eh, el]
      have en : vr (-(0 + 1)) = -vr 1 := vr_neg 1
      refine ⟨⟨by decide, by decide, fun _ => by omega, fun _ => ?_⟩, ⟨by decide, by decide, fun _ => by omega, fun _ => ?_⟩, by decide, by decide⟩
      · rw [show (0 : Int) + 1 = 1 from rfl]
        omega
      · rw [show (-(0 + 1) + 1 : Int) = 0 from rfl]
        omega
    · obtain ⟨v1, v2, v3, v4⟩ := lo_vr (m := m) (E := E) h0 (by omega) (by omega) (by omega) ho
      revert v1 v2 v3 v4
      have hh : hi m E = if ext m E = true then lo m E else lo m E + 1 := rfl
      cases hx : ext m E
      · rw [hx, if_neg (by decide)] at hh
        rw [hh]
        revert b1 b2
        generalize lo m E = l
        intro b1 b2 v1 v2 v3 v4
        have v5 := v4 rfl
        have n1 := vr_neg (l + 1)
        have n2 := vr_neg l
        refine ⟨⟨by omega, by omega, fun _ => v1, fun _ => v2⟩, ⟨by omega, by omega, fun _ => by omega, fun _ => ?_⟩, b1, by omega⟩
        rw [show -(l + 1) + 1 = -l by omega]
        omega
      · rw [hx, if_pos rfl] at hh
        rw [hh]
        revert b1 b2
        generalize lo m E = l
        intro b1 b2 v1 v2 v3 v4
        have v5 := v3 rfl
        have n1 := vr_neg l
        have n2 := vr_succ (-l)
        refine ⟨⟨by omega, by omega, fun _ => v1, fun _ => v2⟩, ⟨by omega, by omega, fun _ => by omega, fun _ => by omega⟩, b1, b1⟩
theorem up_of_dn {X r : Int} (h : Dn X r) : Up (-X) (-r) := by
  unfold Up
  rw [Int.neg_neg, Int.neg_neg]
  exact h
theorem dn_of_up {X r : Int} (h : Up X r) : Dn (-X) (-r) := h
/-- Rounding is told by the worth alone. -/
theorem rnd_spec {P : Int × Int} (hP : Nf P) : Dn (vl P) (rnd false P.1 P.2) ∧ Up (vl P) (rnd true P.1 P.2) := by
  rcases hP.cases with e | ⟨h0, ho, e1, e2⟩
  · subst e
    rw [rnd_nought, rnd_nought, vl_zero]
    have h := dn_self (r := 0) (by decide) (by decide)
    have k := up_self (r := 0) (by decide) (by decide)
    rw [show vr 0 = 0 from rfl] at h k
    exact ⟨h, k⟩
  · obtain ⟨d, u, _, _⟩ := lo_dn (m := P.1.natAbs) (E := P.2) (by omega) e1 e2 ho
    have hvl : vl P = P.1 * 2 ^ (P.2 + KK).toNat := rfl
    rcases Int.lt_or_lt_of_ne h0 with hn | hp
    · have hs : true = decide (P.1 < 0) := (decide_eq_true hn).symm
      have r1 := rnd_diff (E := P.2) hs
      have r2 := rnd_same (up := true) (E := P.2) hs rfl
      rw [show (!true) = false from rfl] at r1
      have ev : vl P = -((P.1.natAbs : Int) * 2 ^ (P.2 + KK).toNat) := by
        rw [hvl, ← Int.neg_mul]
        congr 1
        omega
      have s1 : ∀ x, sgi true x = -x := fun x => if_pos rfl
      rw [r1, r2, ev, s1, s1]
      exact ⟨dn_of_up u, up_of_dn d⟩
    · have hs : false = decide (P.1 < 0) := (decide_eq_false (by omega)).symm
      have r1 := rnd_same (up := false) (E := P.2) hs rfl
      have r2 := rnd_diff (E := P.2) hs
      rw [show (!false) = true from rfl] at r2
      have ev : vl P = (P.1.natAbs : Int) * 2 ^ (P.2 + KK).toNat := by
        rw [hvl]
        congr 1
        omega
      have s1 : ∀ x, sgi false x = x := fun x => if_neg (by decide)
      rw [r1, r2, ev, s1, s1]
      exact ⟨d, u⟩
theorem rnd_monoA {P Q : Int × Int} (hP : Nf P) (hQ : Nf Q) (h : vl P ≤ vl Q) (up : Bool) : rnd up P.1 P.2 ≤ rnd up Q.1 Q.2 := by
  cases up
  · exact (rnd_spec hP).1.mono (rnd_spec hQ).1 h
  · exact (rnd_spec hP).2.mono (rnd_spec hQ).2 h
/-- What is rounded down is not above what is rounded up, and of the opposite both are turned. -/
theorem rnd_turn {P : Int × Int} (hP : Nf P) (up : Bool) : rnd (!up) (-P.1) P.2 = -rnd up P.1 P.2 := by
  have hn : Nf (ng P) := ng_nf hP
  have hv := vl_ng P
  obtain ⟨a, b⟩ := rnd_spec hP
  obtain ⟨c, d⟩ := rnd_spec hn
  rw [hv] at c d
  cases up
  · have := d.uniq (up_of_dn a)
    exact this
  · have := c.uniq (dn_of_up b)
    exact this
end Go.Proofs.YtpmakljahhhnfaaGreatDoor

/-
  Sums and products of numbers, rounded to either side, told of their places. Plain arithmetic; no Go text.
-/
namespace Go.Proofs.YtpmakljahhhnfaaGreatDoor
open Go.RowKit
set_option linter.unusedVariables false

/-- The dyadic number that a finite place is. -/
def ep (r : Int) : Int × Int := if r = 0 then (0, 0) else mk (sgi (decide (r < 0)) (((r.natAbs : Int) - 1) % 9223372036854775808 + 9223372036854775808)) (((r.natAbs : Int) - 1) / 9223372036854775808 - 1048576)
theorem exq_ep {D : Int} {s : Bool} {M E r : Int} (q : Fq D s M E r) (hx : exb D s M E = true) : exq D s M E = ep r := by
  unfold exq ep
  rw [if_pos hx]
  rcases q.cases with ⟨rfl, rfl, rfl, rfl, h0⟩ | ⟨rfl, h1, h2, h3, h4, ⟨rfl, h5⟩ | ⟨rfl, h5⟩⟩ | ⟨rfl, _⟩
  · rw [if_pos h0, show sgi false 0 = 0 from if_neg (by decide)]
    exact mk_zero 0
  · rw [if_neg (by omega), decide_eq_false (show ¬ r < 0 by omega)]
    congr 2
    · omega
    · omega
  · rw [if_neg (by omega), decide_eq_true (show r < 0 by omega)]
    congr 2
    · omega
    · omega
  · exact absurd hx (by unfold exb; simp)
theorem fq_of {r : Int} (h1 : -19342822337206103650074625 < r) (h2 : r < 19342822337206103650074625) : ∃ D s M E, Fq D s M E r := by
  by_cases h0 : r = 0
  · exact ⟨0, false, 0, 0, h0 ▸ Fq.nought⟩
  · by_cases hn : r < 0
    · refine ⟨1, true, ((r.natAbs : Int) - 1) % 9223372036854775808 + 9223372036854775808, ((r.natAbs : Int) - 1) / 9223372036854775808 - 1048576, Fq.fin (by omega) (by omega) (by omega) (by omega) ?_⟩
      rw [show ∀ x, sgi true x = -x from fun x => if_pos rfl]
      omega
    · refine ⟨1, false, ((r.natAbs : Int) - 1) % 9223372036854775808 + 9223372036854775808, ((r.natAbs : Int) - 1) / 9223372036854775808 - 1048576, Fq.fin (by omega) (by omega) (by omega) (by omega) ?_⟩
      rw [show ∀ x, sgi false x = x from fun x => if_neg (by decide)]
      omega
theorem ep_vl {r : Int} (h1 : -19342822337206103650074625 < r) (h2 : r < 19342822337206103650074625) : vl (ep r) = vr r := by
  obtain ⟨D, s, M, E, q⟩ := fq_of h1 h2
  obtain ⟨a, b⟩ := exq_vl q h1 h2
  rw [← exq_ep q a, b]
/-- So far as exponents go. -/
theorem ep_fit (r : Int) (h1 : -19342822337206103650074625 < r) (h2 : r < 19342822337206103650074625) {h : Nat} (hh : 1048700 ≤ h) (hh2 : h ≤ 4194304) : Fit h (ep r) := by
  unfold ep
  by_cases h0 : r = 0
  · rw [if_pos h0]
    exact Fit.zero h
  · rw [if_neg h0]
    obtain ⟨M, hM⟩ : ∃ M, ((r.natAbs : Int) - 1) % 9223372036854775808 + 9223372036854775808 = M := ⟨_, rfl⟩
    obtain ⟨E, hE⟩ : ∃ E, ((r.natAbs : Int) - 1) / 9223372036854775808 - 1048576 = E := ⟨_, rfl⟩
    rw [hM, hE]
    refine (mk_fit (z := sgi (decide (r < 0)) M) (e := E) (h := h) hh2 (by omega) ?_).1
    have ha : (sgi (decide (r < 0)) M).natAbs = M.toNat := by
      cases decide (r < 0)
      · rw [show sgi false M = M from if_neg (by decide)]; omega
      · rw [show sgi true M = -M from if_pos rfl]; omega
    rw [ha]
    have : M.toNat < 2 ^ 64 := by omega
    have := Nat.mul_lt_mul_of_pos_right this (Nat.pow_pos (n := (E + (h : Int)).toNat) (show 0 < 2 by decide))
    rw [← Nat.pow_add] at this
    exact Nat.lt_of_lt_of_le this (Nat.pow_le_pow_right (by decide) (by omega))
/-- It is infinite. -/
def infp (x : Int) : Bool := x == TP || x == -TP
def mulp (up : Bool) (x y : Int) : Int :=
  if x = 0 ∨ y = 0 then 0 else if infp x = true ∨ infp y = true then sgi (decide (x < 0) != decide (y < 0)) TP else rnd up (ml (ep x) (ep y)).1 (ml (ep x) (ep y)).2
theorem infp_false {x : Int} (h1 : -19342822337206103650074625 ≤ x) (h2 : x ≤ 19342822337206103650074625) (h : infp x = false) : -19342822337206103650074625 < x ∧ x < 19342822337206103650074625 := by
  unfold infp at h
  simp [TP_eq] at h
  omega
theorem infp_true {x : Int} (h : infp x = true) : x = 19342822337206103650074625 ∨ x = -19342822337206103650074625 := by
  unfold infp at h
  simp [TP_eq] at h
  omega
/-- The exact sum's worth, and the rounded one's. -/
theorem sum_spec {x y : Int} (x1 : -19342822337206103650074625 < x) (x2 : x < 19342822337206103650074625) (y1 : -19342822337206103650074625 < y) (y2 : y < 19342822337206103650074625) : Nf (pl (ep x) (ep y)) ∧ vl (pl (ep x) (ep y)) = vr x + vr y := by
  obtain ⟨η, hη⟩ : ∃ η : Nat, η = 2000000 := ⟨_, rfl⟩
  have f := ep_fit x x1 x2 (h := η) (by omega) (by omega)
  have g := ep_fit y y1 y2 (h := η) (by omega) (by omega)
  obtain ⟨a, b⟩ := pl_fit (by omega) f g
  exact ⟨a.nf, by rw [b, ep_vl x1 x2, ep_vl y1 y2]⟩
theorem pro_spec {x y : Int} (x1 : -19342822337206103650074625 < x) (x2 : x < 19342822337206103650074625) (y1 : -19342822337206103650074625 < y) (y2 : y < 19342822337206103650074625) : Nf (ml (ep x) (ep y)) ∧ vl (ml (ep x) (ep y)) * 2 ^ KK = vr x * vr y := by
  obtain ⟨η, hη⟩ : ∃ η : Nat, η = 2000000 := ⟨_, rfl⟩
  have f := ep_fit x x1 x2 (h := η) (by omega) (by omega)
  have g := ep_fit y y1 y2 (h := η) (by omega) (by omega)
  obtain ⟨a, b⟩ := ml_fit (by omega) f g
  exact ⟨a.nf, by rw [b, ep_vl x1 x2, ep_vl y1 y2]⟩
theorem ff : ¬ (false = true) := Bool.false_ne_true
theorem mulp_zero {x y : Int} (up : Bool) (h : x = 0 ∨ y = 0) : mulp up x y = 0 := by
  unfold mulp
  rw [if_pos h]
theorem mulp_inf {x y : Int} (up : Bool) (h : ¬ (x = 0 ∨ y = 0)) (hi : infp x = true ∨ infp y = true) : mulp up x y = sgi (decide (x < 0) != decide (y < 0)) TP := by
  unfold mulp
  rw [if_neg h, if_pos hi]
theorem mulp_fin {x y : Int} (up : Bool) (h : ¬ (x = 0 ∨ y = 0)) (hi : ¬ (infp x = true ∨ infp y = true)) : mulp up x y = rnd up (ml (ep x) (ep y)).1 (ml (ep x) (ep y)).2 := by
  unfold mulp
  rw [if_neg h, if_neg hi]
theorem mulp_comm {x y : Int} (up : Bool) : mulp up x y = mulp up y x := by
  by_cases h0 : x = 0 ∨ y = 0
  · rw [mulp_zero up h0, mulp_zero up h0.symm]
  · have h0' : ¬ (y = 0 ∨ x = 0) := fun c => h0 c.symm
    by_cases h1 : infp x = true ∨ infp y = true
    · rw [mulp_inf up h0 h1, mulp_inf up h0' h1.symm]
      cases decide (x < 0) <;> cases decide (y < 0) <;> rfl
    · rw [mulp_fin up h0 h1, mulp_fin up h0' (fun c => h1 c.symm), ml_comm (ep x) (ep y)]
end Go.Proofs.YtpmakljahhhnfaaGreatDoor

/-
  More of sums and products of places: the product grows with a factor that is not below nought; what nought and one do; what dy.Add may be asked of two finite numbers. Plain arithmetic; no Go text.
-/
namespace Go.Proofs.YtpmakljahhhnfaaGreatDoor
open Go.RowKit
set_option linter.unusedVariables false

theorem vr_pos {x : Int} (h : 0 < x) : 0 < vr x := by
  have := vr_lt h
  rwa [show vr 0 = 0 from rfl] at this
theorem vr_nn {x : Int} (h : 0 ≤ x) : 0 ≤ vr x := by
  rcases Int.lt_or_eq_of_le h with q | q
  · exact Int.le_of_lt (vr_pos q)
  · rw [← q]; decide
theorem vr_le {x y : Int} (h : x ≤ y) : vr x ≤ vr y := by
  rcases Int.lt_or_eq_of_le h with q | q
  · exact Int.le_of_lt (vr_lt q)
  · rw [q]; exact Int.le_refl _
theorem ep_zero : ep 0 = (0, 0) := if_pos rfl
end Go.Proofs.YtpmakljahhhnfaaGreatDoor

/-
  One and two as factors; numbers far apart; what is rounded to both sides lies beside the exact one. Plain arithmetic; no Go text.
-/
namespace Go.Proofs.YtpmakljahhhnfaaGreatDoor
open Go.RowKit
set_option linter.unusedVariables false

/-- An exact worth that a place has is rounded to it, to either side. -/
theorem rnd_exact {P : Int × Int} (hP : Nf P) {r : Int} (up : Bool) (h1 : -19342822337206103650074625 < r) (h2 : r < 19342822337206103650074625) (h : vl P = vr r) : rnd up P.1 P.2 = r := by
  obtain ⟨a, b⟩ := rnd_spec hP
  rw [h] at a b
  cases up
  · exact a.uniq (dn_self h1 h2)
  · exact b.uniq (up_self h1 h2)
theorem opl_pos {n : Int} (h : 0 < n) (h1 : n ≤ 9223372036854775807) : 0 < opl n ∧ opl n < 19342822337206103650074625 := by
  have e : opl n = lo n.natAbs 0 := by
    unfold opl
    rw [decide_eq_false (show ¬ n < 0 by omega)]
    exact if_neg (by decide)
  have hc := opl_cmp (a := n) (b := 0) (by omega) h1 (by decide) (by decide)
  rw [opl_zero, cmpI_gt h] at hc
  have := (lo_bd n.natAbs 0).2
  rw [← e] at this
  refine ⟨?_, by omega⟩
  rcases cmpI_tri (opl n) 0 with ⟨a, b⟩ | ⟨a, b⟩ | ⟨a, b⟩
  · rw [b] at hc; exact absurd hc (by decide)
  · rw [b] at hc; exact absurd hc (by decide)
  · exact a
theorem infp_fin {x : Int} (h1 : -19342822337206103650074625 < x) (h2 : x < 19342822337206103650074625) : infp x = false := by
  cases h : infp x
  · rfl
  · have := infp_true h; omega
theorem mulp_one {x : Int} (up : Bool) (x1 : -19342822337206103650074625 ≤ x) (x2 : x ≤ 19342822337206103650074625) : mulp up x (opl 1) = x := by
  have htp := TP_eq
  obtain ⟨o1, o2⟩ := opl_pos (n := 1) (by decide) (by decide)
  have hv := opl_vr (n := 1) (by decide) (by decide)
  rw [Int.one_mul] at hv
  have oi := infp_fin (x := opl 1) (by omega) o2
  revert o1 o2 hv oi
  generalize opl 1 = o
  intro o1 o2 hv oi
  by_cases h0 : x = 0
  · rw [mulp_zero up (.inl h0), h0]
  · cases hx : infp x
    · obtain ⟨x3, x4⟩ := infp_false x1 x2 hx
      rw [mulp_fin up (by omega) (by rw [hx, oi]; simp)]
      obtain ⟨n, v⟩ := pro_spec x3 x4 (show -19342822337206103650074625 < o by omega) o2
      rw [hv] at v
      exact rnd_exact n up x3 x4 (Int.eq_of_mul_eq_mul_right (Int.ne_of_gt (p2pos KK)) v)
    · rw [mulp_inf up (by omega) (.inl hx), decide_eq_false (show ¬ o < 0 by omega)]
      rcases infp_true hx with q | q
      · rw [decide_eq_false (show ¬ x < 0 by omega), show sgi (false != false) TP = TP from if_neg (by decide)]
        omega
      · rw [decide_eq_true (show x < 0 by omega), show sgi (true != false) TP = -TP from if_pos rfl]
        omega
end Go.Proofs.YtpmakljahhhnfaaGreatDoor

/-
  Sums of numbers far apart; half of twice as much. Plain arithmetic; no Go text.
-/
namespace Go.Proofs.YtpmakljahhhnfaaGreatDoor
open Go.RowKit
set_option linter.unusedVariables false

/-- A half's place. -/
def hlf : Int := 9670816261106674691997697
theorem hlf_vr : vr hlf * 2 = 2 ^ KK := by
  have hk := KK_eq
  have := vp_fin (M := 9223372036854775808) (E := -64) (by decide) (by decide) (by decide)
  rw [show (9223372036854775808 : Int) - 9223372036854775808 + 1 + (-64 + 1048576) * 9223372036854775808 = hlf by decide] at this
  have e : vr hlf = vp hlf := by
    unfold vr
    rw [if_neg (by decide)]
  rw [e, this, show (9223372036854775808 : Int) = 2 ^ 63 by decide, Int.mul_right_comm, ← Int.pow_succ, ← Int.pow_add]
  rfl
end Go.Proofs.YtpmakljahhhnfaaGreatDoor

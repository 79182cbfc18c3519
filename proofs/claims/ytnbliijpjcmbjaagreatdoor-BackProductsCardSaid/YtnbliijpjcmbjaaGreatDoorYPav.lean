/-
 Contracts that the proof rests on.
-/
import Derived.Test.YtnbliijpjcmbjaaGreatDoorYPau
namespace Go.Proofs.YtnbliijpjcmbjaaGreatDoor
set_option maxHeartbeats 4000000
open Go.RowKit
set_option linter.unusedVariables false
set_option linter.unusedSimpArgs false
set_option maxRecDepth 100000
theorem fin_nc {a : Nat} {E : Int} (s : Bool) (h : a ≠ 0) : fin s (tp a) (xp a E) false = sgi s (lo a E) := by
 have := TP_eq
 unfold fin lo
 rw [if_neg h]; refine congrArg (sgi s) ?_
 by_cases c1 : 1048576 < xp a E
 · rw [if_pos c1, if_pos c1, if_neg (by decide)]
   omega
 · rw [if_neg c1, if_neg c1]
   by_cases c2 : xp a E < -1048576
   · rw [if_pos c2, if_pos c2, if_neg (by decide)]
   · rw [if_neg c2, if_neg c2]
theorem fin_small {a : Nat} {E : Int} (s : Bool) (h : a ≠ 0) (hl : blen a ≤ 64) : fin s (tp a) (xp a E) true = sgi s (hi a E) := by
 have := TP_eq
 have e0 : (a == 0) = false := by simpa using h
 unfold fin hi ext lo
 rw [if_neg h, e0, Bool.false_or, decide_eq_true hl, Bool.and_true]
 congr 1
 by_cases c1 : 1048576 < xp a E
 · rw [if_pos c1, if_pos rfl, decide_eq_false (show ¬ xp a E ≤ 1048576 by omega), Bool.false_and, if_neg (by decide), if_pos c1]
   omega
 · rw [if_neg c1, if_neg c1, decide_eq_true (show xp a E ≤ 1048576 by omega), Bool.true_and]
   by_cases c2 : xp a E < -1048576
   · rw [if_pos c2, if_pos rfl, decide_eq_false (show ¬ -1048576 ≤ xp a E by omega), if_neg (by decide), if_pos c2]
     rfl
   · rw [if_neg c2, decide_eq_true (show -1048576 ≤ xp a E by omega), if_pos rfl, if_neg c2]
theorem hi_big {a : Nat} {E : Int} (hl : 64 < blen a) : hi a E = lo a E + 1 := by
 have h0 : a ≠ 0 := fun e => by rw [e] at hl; exact absurd hl (by decide)
 have e0 : (a == 0) = false := by simpa using h0
 have : ext a E = false := by
   unfold ext
   rw [e0, decide_eq_false (show ¬ blen a ≤ 64 by omega)]
   simp
 unfold hi
 rw [this, if_neg (by decide)]
theorem fin_up {a : Nat} {E : Int} (s : Bool) (hl : 64 < blen a) (ht : tp a + 1 < 2 ^ 64) : fin s ((tp a + 1 : Nat) : Int) (xp a E) true = sgi s (hi a E) := by
 have := TP_eq
 have h0 : a ≠ 0 := fun e => by rw [e] at hl; exact absurd hl (by decide)
 rw [hi_big hl]
 unfold fin lo
 rw [if_neg h0]
 congr 1
 by_cases c1 : 1048576 < xp a E
 · rw [if_pos c1, if_pos c1, if_pos rfl]
   omega
 · rw [if_neg c1, if_neg c1]
   by_cases c2 : xp a E < -1048576
   · rw [if_pos c2, if_pos c2, if_pos rfl]
     rfl
   · rw [if_neg c2, if_neg c2]
     omega
theorem fin_carry {a : Nat} {E : Int} (s : Bool) (hl : 64 < blen a) (ht : tp a + 1 = 2 ^ 64) : fin s 9223372036854775808 (xp a E + 1) true = sgi s (hi a E) := by
 have := TP_eq
 have h0 : a ≠ 0 := fun e => by rw [e] at hl; exact absurd hl (by decide)
 rw [hi_big hl]
 unfold fin lo
 rw [if_neg h0]
 congr 1
 by_cases c1 : 1048576 < xp a E
 · rw [if_pos (show 1048576 < xp a E + 1 by omega), if_pos c1, if_pos rfl]
   omega
 · rw [if_neg c1]
   by_cases c3 : 1048576 < xp a E + 1
   · rw [if_pos c3, if_pos rfl, if_neg (show ¬ xp a E < -1048576 by omega)]
     omega
   · rw [if_neg c3]
     by_cases c2 : xp a E < -1048576
     · rw [if_pos c2]
       by_cases c4 : xp a E + 1 < -1048576
       · rw [if_pos c4, if_pos rfl]
         rfl
       · rw [if_neg c4]
         omega
     · rw [if_neg c2, if_neg (by omega)]
       omega
theorem tp_one {a : Nat} (h : 64 < blen a) : a / 2 ^ ((blen a : Int) - 64).toNat = tp a := by
 rw [tp_big (by omega), show ((blen a : Int) - 64).toNat = blen a - 64 by omega]
theorem tp_shl {a : Nat} (h : blen a ≤ 64) : a * 2 ^ (64 - (blen a : Int)).toNat = tp a := by
 rw [tp_small h, show (64 - (blen a : Int)).toNat = 64 - blen a by omega]
theorem yround_zero {w : World} {A : Option Addr} {n c a : Nat} {s sg0 up : Bool} {z e N E : Int} (h : Wr w s A n c z) (hn : n ≤ 100000) (hN : (mk z e).1 = N) (hE : (mk z e).2 = E) (ha : N.natAbs = a) (hs : decide (N < 0) = sg0) (h0 : a = 0) :
   Calls Tryz.prog 99 #[.agg #[.bool s, .slice A n c, .int .i64 e], .bool up] w (PN w 0) := by
 obtain ⟨b1, b2⟩ := mk_bd z e; rw [hE] at b1 b2; have HN := Lib.hid hN; have HE := Lib.hid hE; have HA := Lib.hid ha; have HSG := Lib.hid hs; clear hN hE ha hs; subst h0
 go_enter Tryz.func99, Tryz.ntmps99
 go_upto_region 1 with (fail)
 generalize hW1 : (w.alloc _).alloc _ = w1 at *; obtain ⟨X1, XR, HB⟩ := Bo.en2 hW1; replace h := h.below HB.out; clear hW1; have xX1 := X1.cell
 go_wp2_with fail
 refine (q3Make h hn HN.out HE.out).mono ?_; rintro ee w2 ⟨s1, A1, n1, c1, rfl, p1, k1, B⟩; clear xX1; replace X1 := X1.below B; replace XR := XR.below B; replace h := h.below B; replace HB := Hqb HB B; clear B
 go_upto_region 2 with (fail)
 have lX5 := Nat.le_refl (World.heap w2).size; have nX5X1 := X1.lt; have nX5XR := XR.lt; generalize hWn : w2.alloc _ = w3 at *; obtain ⟨X5, BW⟩ := Bo.nw hWn; clear hWn; replace X1 := X1.below BW; replace XR := XR.below BW; replace p1 := p1.below BW; replace HB := Hqb HB BW; clear BW; clear lX5
 have hz : n1 = 0 := by have := p1.1.pos; have := HA.out; omega
 subst hz; clear p1; have xXR := XR.cell; have zXR0 := XR.frozen; have xX5 := X5.cell; go_wp2; clear xXR zXR0 xX5; have SX := StN.mk4 XR (.int .i64 0) (.bool false) (.int .u64 0) (.int .i64 0); exact bodyPost_ret (by simp [results, Tryz.results99, go_sem, SX.box.cell]) rfl ⟨_, _, _, _, rfl, Fq.nought, (SX.below HB.out (by omega))⟩
theorem yround_ss {w : World} {A : Option Addr} {n c a : Nat} {s sg0 : Bool} {z e N E L x r : Int} (h : Wr w s A n c z) (hn : n ≤ 100000) (hN : (mk z e).1 = N) (hE : (mk z e).2 = E) (ha : N.natAbs = a) (hs : decide (N < 0) = sg0) (h0 : a ≠ 0) (hL : ((blen a : Nat) : Int) = L) (hl : L ≤ 64) (hx : E + L - 64 = x) (hb : L ≤ 3200000) (hr : fin sg0 (tp a) x false = r) :
   Calls Tryz.prog 99 #[.agg #[.bool s, .slice A n c, .int .i64 e], .bool sg0] w (PN w r) := by
 obtain ⟨b1, b2⟩ := mk_bd z e; rw [hE] at b1 b2; have HN := Lib.hid hN; have HE := Lib.hid hE; have HA := Lib.hid ha; have HSG := Lib.hid hs; have HL := Lib.hid hL
 have hl0 : blen a ≠ 0 := fun e => h0 (blen_eq_zero.1 e)
 have g1 := tp_ge h0; have g2 := tp_lt a
 have HX1 : Hid (IntKind.i64.wrap (E + L) = E + L) := Lib.hid (IntWalk.i64_in _ (by omega))
 have HX2 : Hid (IntKind.i64.wrap (E + L - 64) = x) := Lib.hid (by rw [hx]; exact IntWalk.i64_in _ (by omega))
 obtain ⟨T, hT⟩ : ∃ T, ((tp a : Nat) : Int) = T := ⟨_, rfl⟩; rw [hT] at hr; have HT := Lib.hid hT; have HR := Lib.hid hr; obtain ⟨v, hv⟩ : ∃ v, 64 - L = v := ⟨_, rfl⟩
 have HV : Hid (IntKind.i64.wrap (64 - L) = v) := Lib.hid (by rw [hv]; exact IntWalk.i64_in _ (by omega))
 have HSH : Hid (a * 2 ^ v.toNat = tp a) := Lib.hid (by rw [← hv, ← hL]; exact tp_shl (by omega))
 have hv1 : 0 ≤ v := by omega
 have hv2 : v ≤ 64 := by omega
 have hT1 : 9223372036854775808 ≤ T := by omega
 have hT2 : T < 18446744073709551616 := by omega
 have HG2 := Lib.hid g2; clear hN hE ha hs hL hx hr hT hv g1 g2 hl0
 go_enter Tryz.func99, Tryz.ntmps99
 go_upto_region 1 with (fail)
 generalize hW1 : (w.alloc _).alloc _ = w1 at *; obtain ⟨X1, XR, HB⟩ := Bo.en2 hW1; replace h := h.below HB.out; clear hW1; have xX1 := X1.cell
 go_wp2_with fail
 refine (q3Make h hn HN.out HE.out).mono ?_; rintro ee w2 ⟨s1, A1, n1, c1, rfl, p1, k1, B⟩; clear xX1; replace X1 := X1.below B; replace XR := XR.below B; replace h := h.below B; replace HB := Hqb HB B; clear B
 go_upto_region 2 with (fail)
 have lX5 := Nat.le_refl (World.heap w2).size; have nX5X1 := X1.lt; have nX5XR := XR.lt; generalize hWn : w2.alloc _ = w3 at *; obtain ⟨X5, BW⟩ := Bo.nw hWn; clear hWn; replace X1 := X1.below BW; replace XR := XR.below BW; replace p1 := p1.below BW; replace HB := Hqb HB BW; clear BW; clear lX5
 obtain rfl : s1 = sg0 := p1.2.trans HSG.out
 have p2 : Nm w3 A1 n1 c1 a := HA.out ▸ p1.1
 have hbl := p2.rd.blen_le
 have hn1 : n1 ≤ 100000 := by omega
 have hpos : 0 < n1 := p2.pos.2 (by omega)
 clear p1 HSG
 have e0 : ((n1 : Int) == 0) = false := by
   have : (n1 : Int) ≠ 0 := by omega
   simpa using this
 have hbg : n1 ≤ 1099511627776 := by omega
 have f1 : (s1 != s1) = false := by cases s1 <;> rfl
 have f2 : (!s1 != s1) = true := by cases s1 <;> rfl
 have f3 : (s1 == s1) = true := by cases s1 <;> rfl
 have f4 : ((!s1) == s1) = false := by cases s1 <;> rfl
 have xX5 := X5.cell
 go_wp2_with fail
 refine (rLen p2.rd HL.out).mono ?_; rintro ee w4 ⟨rfl, B⟩; clear xX5; replace XR := XR.below B; replace X5 := X5.below B; replace p2 := p2.below B; replace HB := Hqb HB B; clear B; have xX5 := X5.cell
 go_upto_region 7 with (fail)
 clear xX5; refine Jo.rk [0, 1, 2, 3, 4, 5, 6, 7, 8, 9, 10, 11, 12, 13, 14, 15, 16] [some 32, some 33, some 34, some 35, some 36, some 37, some 38, some 39, some 40, some 41, some 42, some 43, some 44, some 45, some 46, some 47, some 48, none] [[], [0], [1], [], [3], [4], [], [6], [5, 7], [8], [], [10], [], [11, 12], [13], [], [2, 9, 14, 15], []] 18 1 [Jo.qp w2.heap.size 0, Jo.qp w2.heap.size 0, Jo.qb s1, Jo.qp w2.heap.size 0, Jo.qp w2.heap.size 1, Jo.Fact.eq (.slice A1 n1 c1), Jo.qi L, Jo.qi v, Jo.Fact.nm (tp a) 100100, Jo.Fact.eq (.int .u64 T), Jo.qp w2.heap.size 2, Jo.qi E, Jo.qi L, Jo.Fact.eq (.int .i64 (E + L)), Jo.qi x, Jo.qb false, Jo.Fact.num r, Jo.Fact.any] (by kernel_rfl) (by kernel_rfl) (by decide) rfl ?_ ?_
 · iterate 2 (refine Jo.jm rfl ?_ ?_; rotate_left)
   refine Jo.jm rfl ?_ ?_
   · rintro wj hJ _ rfl K hK; simp only [Jo.z] at hK ⊢; have xX50 := (X5.below hJ).a 0 (.bool s1) rfl; go_simp; exact hK.out _ _ rfl (br _ _)
   iterate 2 (refine Jo.jm rfl ?_ ?_; rotate_left)
   refine Jo.jm rfl ?_ ?_
   · rintro wj hJ _ rfl K hK; simp only [Jo.z] at hK ⊢; have xX51 := (X5.below hJ).a 1 (.slice A1 n1 c1) rfl; go_simp; exact hK.out _ _ rfl (br _ _)
   refine Jo.jm rfl ?_ ?_; rotate_left
   refine Jo.jm rfl ?_ ?_
   · rintro wj hJ _ rfl K hK; simp only [Jo.z] at hK ⊢; have hv := HV.out; go_simp; exact hK.out _ _ rfl (br _ _)
   refine Jo.jm rfl ?_ ?_
   · rintro wj hJ _ rfl _ rfl K hK; simp only [Jo.z] at hK ⊢; go_simp; refine (rShlN (p2.below hJ).rd (by omega) hv1 (by omega) HSH.out).mono ?_; rintro ee wk ⟨A3, n3, c3, rfl, p3, k3, B⟩; exact hK.out _ _ ⟨A3, n3, c3, rfl, p3, by omega⟩ B
   refine Jo.jm rfl ?_ ?_
   · rintro wj hJ _ ⟨A3, n3, c3, rfl, p3, k3⟩ K hK; simp only [Jo.z] at hK ⊢; go_simp; refine (yWord p3 HG2.out HT.out).mono ?_; rintro ee wk ⟨rfl, B⟩; exact hK.out _ _ rfl B
   refine Jo.jm rfl ?_ ?_; rotate_left
   refine Jo.jm rfl ?_ ?_
   · rintro wj hJ _ rfl K hK; simp only [Jo.z] at hK ⊢; have xX52 := (X5.below hJ).a 2 (.int .i64 E) rfl; go_simp; exact hK.out _ _ rfl (br _ _)
   refine Jo.jm rfl ?_ ?_; rotate_left
   refine Jo.jm rfl ?_ ?_
   · rintro wj hJ _ rfl _ rfl K hK; simp only [Jo.z] at hK ⊢; have hx1 := HX1.out; go_simp; exact hK.out _ _ rfl (br _ _)
   refine Jo.jm rfl ?_ ?_
   · rintro wj hJ _ rfl K hK; simp only [Jo.z] at hK ⊢; have hx2 := HX2.out; go_simp; exact hK.out _ _ rfl (br _ _)
   refine Jo.jm rfl ?_ ?_; rotate_left
   refine Jo.jm rfl ?_ ?_
   · rintro wj hJ _ rfl _ rfl _ rfl _ rfl K hK; simp only [Jo.z] at hK ⊢; go_simp; refine (yFin hT1 hT2 HR.out).mono ?_; rintro ee wk ⟨K4, s4, M4, E4, rfl, q4, B⟩; exact hK.out _ _ ⟨K4, s4, M4, E4, rfl, q4⟩ B
   exact Jo.Steps.nil
   all_goals (rintro wj hJ; (repeat rintro _ rfl); intro K hK; simp only [Jo.z] at hK ⊢; go_simp; exact hK.out _ _ rfl (br _ _))
 rintro w5 hJ _ _ _ _ _ rfl _ _ _ _ _ rfl _ rfl _ rfl _ ⟨A3, n3, c3, rfl, _, _⟩ _ rfl _ _ _ rfl _ rfl _ rfl _ rfl _ rfl _ ⟨K4, s4, M4, E4, rfl, q4⟩ -; simp only [Jo.z]; replace XR := XR.below hJ; replace X5 := X5.below hJ; replace p2 := p2.below hJ; replace HB := Hqb HB hJ; have xXR := XR.cell; have zXR0 := XR.frozen
 refine Jo.jnext (i := 17) (o := ⟨none, _, _, _, _, _⟩) (by kernel_rfl) rfl (fun K hK => ?_)
 go_simp; refine hK.out _ _ ?_; clear hK K xXR zXR0; have SX := StN.mk4 XR (.int .i64 K4) (.bool s4) (.int .u64 M4) (.int .i64 E4); refine Jo.jdone (by kernel_rfl) ?_; go_wp2; exact bodyPost_ret (by simp [results, Tryz.results99, go_sem, SX.box.cell]) rfl ⟨_, _, _, _, rfl, q4, (SX.below HB.out (by omega))⟩
theorem yround_sd {w : World} {A : Option Addr} {n c a : Nat} {s sg0 : Bool} {z e N E L x r : Int} (h : Wr w s A n c z) (hn : n ≤ 100000) (hN : (mk z e).1 = N) (hE : (mk z e).2 = E) (ha : N.natAbs = a) (hs : decide (N < 0) = sg0) (h0 : a ≠ 0) (hL : ((blen a : Nat) : Int) = L) (hl : L ≤ 64) (hx : E + L - 64 = x) (hb : L ≤ 3200000) (hr : fin sg0 (tp a) x true = r) :
   Calls Tryz.prog 99 #[.agg #[.bool s, .slice A n c, .int .i64 e], .bool (!sg0)] w (PN w r) := by
 obtain ⟨b1, b2⟩ := mk_bd z e; rw [hE] at b1 b2; have HN := Lib.hid hN; have HE := Lib.hid hE; have HA := Lib.hid ha; have HSG := Lib.hid hs; have HL := Lib.hid hL
 have hl0 : blen a ≠ 0 := fun e => h0 (blen_eq_zero.1 e)
 have g1 := tp_ge h0; have g2 := tp_lt a
 have HX1 : Hid (IntKind.i64.wrap (E + L) = E + L) := Lib.hid (IntWalk.i64_in _ (by omega))
 have HX2 : Hid (IntKind.i64.wrap (E + L - 64) = x) := Lib.hid (by rw [hx]; exact IntWalk.i64_in _ (by omega))
 obtain ⟨T, hT⟩ : ∃ T, ((tp a : Nat) : Int) = T := ⟨_, rfl⟩; rw [hT] at hr; have HT := Lib.hid hT; have HR := Lib.hid hr; obtain ⟨v, hv⟩ : ∃ v, 64 - L = v := ⟨_, rfl⟩
 have HV : Hid (IntKind.i64.wrap (64 - L) = v) := Lib.hid (by rw [hv]; exact IntWalk.i64_in _ (by omega))
 have HSH : Hid (a * 2 ^ v.toNat = tp a) := Lib.hid (by rw [← hv, ← hL]; exact tp_shl (by omega))
 have hv1 : 0 ≤ v := by omega
 have hv2 : v ≤ 64 := by omega
 have hT1 : 9223372036854775808 ≤ T := by omega
 have hT2 : T < 18446744073709551616 := by omega
 have HG2 := Lib.hid g2; clear hN hE ha hs hL hx hr hT hv g1 g2 hl0
 go_enter Tryz.func99, Tryz.ntmps99
 go_upto_region 1 with (fail)
 generalize hW1 : (w.alloc _).alloc _ = w1 at *; obtain ⟨X1, XR, HB⟩ := Bo.en2 hW1; replace h := h.below HB.out; clear hW1; have xX1 := X1.cell
 go_wp2_with fail
 refine (q3Make h hn HN.out HE.out).mono ?_; rintro ee w2 ⟨s1, A1, n1, c1, rfl, p1, k1, B⟩; clear xX1; replace X1 := X1.below B; replace XR := XR.below B; replace h := h.below B; replace HB := Hqb HB B; clear B
 go_upto_region 2 with (fail)
 have lX5 := Nat.le_refl (World.heap w2).size; have nX5X1 := X1.lt; have nX5XR := XR.lt; generalize hWn : w2.alloc _ = w3 at *; obtain ⟨X5, BW⟩ := Bo.nw hWn; clear hWn; replace X1 := X1.below BW; replace XR := XR.below BW; replace p1 := p1.below BW; replace HB := Hqb HB BW; clear BW; clear lX5
 obtain rfl : s1 = sg0 := p1.2.trans HSG.out
 have p2 : Nm w3 A1 n1 c1 a := HA.out ▸ p1.1
 have hbl := p2.rd.blen_le
 have hn1 : n1 ≤ 100000 := by omega
 have hpos : 0 < n1 := p2.pos.2 (by omega)
 clear p1 HSG
 have e0 : ((n1 : Int) == 0) = false := by
   have : (n1 : Int) ≠ 0 := by omega
   simpa using this
 have hbg : n1 ≤ 1099511627776 := by omega
 have f1 : (s1 != s1) = false := by cases s1 <;> rfl
 have f2 : (!s1 != s1) = true := by cases s1 <;> rfl
 have f3 : (s1 == s1) = true := by cases s1 <;> rfl
 have f4 : ((!s1) == s1) = false := by cases s1 <;> rfl
 have xX5 := X5.cell
 go_wp2_with fail
 refine (rLen p2.rd HL.out).mono ?_; rintro ee w4 ⟨rfl, B⟩; clear xX5; replace XR := XR.below B; replace X5 := X5.below B; replace p2 := p2.below B; replace HB := Hqb HB B; clear B; have xX5 := X5.cell
 go_upto_region 7 with (fail)
 clear xX5; refine Jo.rk [0, 1, 2, 3, 4, 5, 6, 7, 8, 9, 10, 11, 12, 13, 14, 15, 16] [some 32, some 33, some 34, some 35, some 36, some 37, some 38, some 39, some 40, some 41, some 42, some 43, some 44, some 45, some 46, some 47, some 48, none] [[], [0], [1], [], [3], [4], [], [6], [5, 7], [8], [], [10], [], [11, 12], [13], [], [2, 9, 14, 15], []] 18 1 [Jo.qp w2.heap.size 0, Jo.qp w2.heap.size 0, Jo.qb s1, Jo.qp w2.heap.size 0, Jo.qp w2.heap.size 1, Jo.Fact.eq (.slice A1 n1 c1), Jo.qi L, Jo.qi v, Jo.Fact.nm (tp a) 100100, Jo.Fact.eq (.int .u64 T), Jo.qp w2.heap.size 2, Jo.qi E, Jo.qi L, Jo.Fact.eq (.int .i64 (E + L)), Jo.qi x, Jo.qb true, Jo.Fact.num r, Jo.Fact.any] (by kernel_rfl) (by kernel_rfl) (by decide) rfl ?_ ?_
 · iterate 2 (refine Jo.jm rfl ?_ ?_; rotate_left)
   refine Jo.jm rfl ?_ ?_
   · rintro wj hJ _ rfl K hK; simp only [Jo.z] at hK ⊢; have xX50 := (X5.below hJ).a 0 (.bool s1) rfl; go_simp; exact hK.out _ _ rfl (br _ _)
   iterate 2 (refine Jo.jm rfl ?_ ?_; rotate_left)
   refine Jo.jm rfl ?_ ?_
   · rintro wj hJ _ rfl K hK; simp only [Jo.z] at hK ⊢; have xX51 := (X5.below hJ).a 1 (.slice A1 n1 c1) rfl; go_simp; exact hK.out _ _ rfl (br _ _)
   refine Jo.jm rfl ?_ ?_; rotate_left
   refine Jo.jm rfl ?_ ?_
   · rintro wj hJ _ rfl K hK; simp only [Jo.z] at hK ⊢; have hv := HV.out; go_simp; exact hK.out _ _ rfl (br _ _)
   refine Jo.jm rfl ?_ ?_
   · rintro wj hJ _ rfl _ rfl K hK; simp only [Jo.z] at hK ⊢; go_simp; refine (rShlN (p2.below hJ).rd (by omega) hv1 (by omega) HSH.out).mono ?_; rintro ee wk ⟨A3, n3, c3, rfl, p3, k3, B⟩; exact hK.out _ _ ⟨A3, n3, c3, rfl, p3, by omega⟩ B
   refine Jo.jm rfl ?_ ?_
   · rintro wj hJ _ ⟨A3, n3, c3, rfl, p3, k3⟩ K hK; simp only [Jo.z] at hK ⊢; go_simp; refine (yWord p3 HG2.out HT.out).mono ?_; rintro ee wk ⟨rfl, B⟩; exact hK.out _ _ rfl B
   refine Jo.jm rfl ?_ ?_; rotate_left
   refine Jo.jm rfl ?_ ?_
   · rintro wj hJ _ rfl K hK; simp only [Jo.z] at hK ⊢; have xX52 := (X5.below hJ).a 2 (.int .i64 E) rfl; go_simp; exact hK.out _ _ rfl (br _ _)
   refine Jo.jm rfl ?_ ?_; rotate_left
   refine Jo.jm rfl ?_ ?_
   · rintro wj hJ _ rfl _ rfl K hK; simp only [Jo.z] at hK ⊢; have hx1 := HX1.out; go_simp; exact hK.out _ _ rfl (br _ _)
   refine Jo.jm rfl ?_ ?_
   · rintro wj hJ _ rfl K hK; simp only [Jo.z] at hK ⊢; have hx2 := HX2.out; go_simp; exact hK.out _ _ rfl (br _ _)
   refine Jo.jm rfl ?_ ?_; rotate_left
   refine Jo.jm rfl ?_ ?_
   · rintro wj hJ _ rfl _ rfl _ rfl _ rfl K hK; simp only [Jo.z] at hK ⊢; go_simp; refine (yFin hT1 hT2 HR.out).mono ?_; rintro ee wk ⟨K4, s4, M4, E4, rfl, q4, B⟩; exact hK.out _ _ ⟨K4, s4, M4, E4, rfl, q4⟩ B
   exact Jo.Steps.nil
   all_goals (rintro wj hJ; (repeat rintro _ rfl); intro K hK; simp only [Jo.z] at hK ⊢; go_simp; exact hK.out _ _ rfl (br _ _))
 rintro w5 hJ _ _ _ _ _ rfl _ _ _ _ _ rfl _ rfl _ rfl _ ⟨A3, n3, c3, rfl, _, _⟩ _ rfl _ _ _ rfl _ rfl _ rfl _ rfl _ rfl _ ⟨K4, s4, M4, E4, rfl, q4⟩ -; simp only [Jo.z]; replace XR := XR.below hJ; replace X5 := X5.below hJ; replace p2 := p2.below hJ; replace HB := Hqb HB hJ; have xXR := XR.cell; have zXR0 := XR.frozen
 refine Jo.jnext (i := 17) (o := ⟨none, _, _, _, _, _⟩) (by kernel_rfl) rfl (fun K hK => ?_)
 go_simp; refine hK.out _ _ ?_; clear hK K xXR zXR0; have SX := StN.mk4 XR (.int .i64 K4) (.bool s4) (.int .u64 M4) (.int .i64 E4); refine Jo.jdone (by kernel_rfl) ?_; go_wp2; exact bodyPost_ret (by simp [results, Tryz.results99, go_sem, SX.box.cell]) rfl ⟨_, _, _, _, rfl, q4, (SX.below HB.out (by omega))⟩
theorem yround_bs {w : World} {A : Option Addr} {n c a : Nat} {s sg0 : Bool} {z e N E L x r : Int} (h : Wr w s A n c z) (hn : n ≤ 100000) (hN : (mk z e).1 = N) (hE : (mk z e).2 = E) (ha : N.natAbs = a) (hs : decide (N < 0) = sg0) (h0 : a ≠ 0) (hL : ((blen a : Nat) : Int) = L) (hl : 64 < L) (hx : E + L - 64 = x) (hb : L ≤ 3200000) (hr : fin sg0 (tp a) x false = r) :
   Calls Tryz.prog 99 #[.agg #[.bool s, .slice A n c, .int .i64 e], .bool sg0] w (PN w r) := by
 obtain ⟨b1, b2⟩ := mk_bd z e; rw [hE] at b1 b2; have HN := Lib.hid hN; have HE := Lib.hid hE; have HA := Lib.hid ha; have HSG := Lib.hid hs; have HL := Lib.hid hL
 have hl0 : blen a ≠ 0 := fun e => h0 (blen_eq_zero.1 e)
 have g1 := tp_ge h0; have g2 := tp_lt a
 have HX1 : Hid (IntKind.i64.wrap (E + L) = E + L) := Lib.hid (IntWalk.i64_in _ (by omega))
 have HX2 : Hid (IntKind.i64.wrap (E + L - 64) = x) := Lib.hid (by rw [hx]; exact IntWalk.i64_in _ (by omega))
 obtain ⟨v, hv⟩ : ∃ v, L - 64 = v := ⟨_, rfl⟩
 have HV : Hid (IntKind.i64.wrap (L - 64) = v) := Lib.hid (by rw [hv]; exact IntWalk.i64_in _ (by omega))
 have HSH : Hid (a / 2 ^ v.toNat = tp a) := Lib.hid (by rw [← hv, ← hL]; exact tp_one (by omega))
 obtain ⟨T, hT⟩ : ∃ T, ((tp a : Nat) : Int) = T := ⟨_, rfl⟩; rw [hT] at hr; have HT := Lib.hid hT; have HR := Lib.hid hr
 have hT1 : 9223372036854775808 ≤ T := by omega
 have hT2 : T < 18446744073709551616 := by omega
 have HG2 := Lib.hid g2; clear hN hE ha hs hL hx hr hT hv g1 g2 hl0
 go_enter Tryz.func99, Tryz.ntmps99
 go_upto_region 1 with (fail)
 generalize hW1 : (w.alloc _).alloc _ = w1 at *; obtain ⟨X1, XR, HB⟩ := Bo.en2 hW1; replace h := h.below HB.out; clear hW1; have xX1 := X1.cell
 go_wp2_with fail
 refine (q3Make h hn HN.out HE.out).mono ?_; rintro ee w2 ⟨s1, A1, n1, c1, rfl, p1, k1, B⟩; clear xX1; replace X1 := X1.below B; replace XR := XR.below B; replace h := h.below B; replace HB := Hqb HB B; clear B
 go_upto_region 2 with (fail)
 have lX5 := Nat.le_refl (World.heap w2).size; have nX5X1 := X1.lt; have nX5XR := XR.lt; generalize hWn : w2.alloc _ = w3 at *; obtain ⟨X5, BW⟩ := Bo.nw hWn; clear hWn; replace X1 := X1.below BW; replace XR := XR.below BW; replace p1 := p1.below BW; replace HB := Hqb HB BW; clear BW; clear lX5
 obtain rfl : s1 = sg0 := p1.2.trans HSG.out
 have p2 : Nm w3 A1 n1 c1 a := HA.out ▸ p1.1
 have hbl := p2.rd.blen_le
 have hn1 : n1 ≤ 100000 := by omega
 have hpos : 0 < n1 := p2.pos.2 (by omega)
 clear p1 HSG
 have e0 : ((n1 : Int) == 0) = false := by
   have : (n1 : Int) ≠ 0 := by omega
   simpa using this
 have hbg : n1 ≤ 1099511627776 := by omega
 have f1 : (s1 != s1) = false := by cases s1 <;> rfl
 have f2 : (!s1 != s1) = true := by cases s1 <;> rfl
 have f3 : (s1 == s1) = true := by cases s1 <;> rfl
 have f4 : ((!s1) == s1) = false := by cases s1 <;> rfl
 have xX5 := X5.cell
 go_wp2_with fail
 refine (rLen p2.rd HL.out).mono ?_; rintro ee w4 ⟨rfl, B⟩; clear xX5; replace XR := XR.below B; replace X5 := X5.below B; replace p2 := p2.below B; replace HB := Hqb HB B; clear B; have xX5 := X5.cell; have hv := HV.out
 go_wp2_with fail
 refine (rShrP v p2.rd (by omega)).mono ?_; rintro ee w5 ⟨A3, n3, c3, rfl, p3, k3, B⟩; clear xX5; replace XR := XR.below B; replace X5 := X5.below B; replace p2 := p2.below B; replace HB := Hqb HB B; clear B hv; rw [HSH.out] at p3; have xX5 := X5.cell; have hx1 := HX1.out; have hx2 := HX2.out
 go_upto_region 15 with (fail)
 clear hx1 hx2; clear xX5; have p9 := p3; refine Jo.rk [0, 1, 2, 3, 4, 5, 6, 7] [some 71, some 72, some 73, some 74, some 75, some 76, some 77, some 78, none] [[], [0], [1], [], [3], [], [], [2, 4, 5, 6], []] 9 1 [Jo.qp w2.heap.size 0, Jo.qp w2.heap.size 0, Jo.qb s1, Jo.Fact.eq (.slice A3 n3 c3), Jo.Fact.eq (.int .u64 T), Jo.qi x, Jo.qb false, Jo.Fact.num r, Jo.Fact.any] (by kernel_rfl) (by kernel_rfl) (by decide) rfl ?_ ?_
 · iterate 2 (refine Jo.jm rfl ?_ ?_; rotate_left)
   refine Jo.jm rfl ?_ ?_
   · rintro wj hJ _ rfl K hK; simp only [Jo.z] at hK ⊢; have xX50 := (X5.below hJ).a 0 (.bool s1) rfl; go_simp; exact hK.out _ _ rfl (br _ _)
   refine Jo.jm rfl ?_ ?_; rotate_left
   refine Jo.jm rfl ?_ ?_
   · rintro wj hJ _ rfl K hK; simp only [Jo.z] at hK ⊢; go_simp; refine (yWord (p9.below hJ) HG2.out HT.out).mono ?_; rintro ee wk ⟨rfl, B⟩; exact hK.out _ _ rfl B
   iterate 2 (refine Jo.jm rfl ?_ ?_; rotate_left)
   refine Jo.jm rfl ?_ ?_
   · rintro wj hJ _ rfl _ rfl _ rfl _ rfl K hK; simp only [Jo.z] at hK ⊢; go_simp; refine (yFin hT1 hT2 HR.out).mono ?_; rintro ee wk ⟨K4, s4, M4, E4, rfl, q4, B⟩; exact hK.out _ _ ⟨K4, s4, M4, E4, rfl, q4⟩ B
   exact Jo.Steps.nil
   all_goals (rintro wj hJ; (repeat rintro _ rfl); intro K hK; simp only [Jo.z] at hK ⊢; go_simp; exact hK.out _ _ rfl (br _ _))
 rintro w8 hJ _ _ _ _ _ rfl _ rfl _ rfl _ rfl _ rfl _ ⟨K4, s4, M4, E4, rfl, q4⟩ -; simp only [Jo.z]; replace XR := XR.below hJ; replace X5 := X5.below hJ; replace p9 := p9.below hJ; replace HB := Hqb HB hJ; have xXR := XR.cell; have zXR0 := XR.frozen
 refine Jo.jnext (i := 8) (o := ⟨none, _, _, _, _, _⟩) (by kernel_rfl) rfl (fun K hK => ?_)
 go_simp; refine hK.out _ _ ?_; clear hK K xXR zXR0; have SX := StN.mk4 XR (.int .i64 K4) (.bool s4) (.int .u64 M4) (.int .i64 E4); refine Jo.jdone (by kernel_rfl) ?_; go_wp2; exact bodyPost_ret (by simp [results, Tryz.results99, go_sem, SX.box.cell]) rfl ⟨_, _, _, _, rfl, q4, (SX.below HB.out (by omega))⟩
theorem yround_bd {w : World} {A : Option Addr} {n c a : Nat} {s sg0 : Bool} {z e N E L x r : Int} (h : Wr w s A n c z) (hn : n ≤ 100000) (hN : (mk z e).1 = N) (hE : (mk z e).2 = E) (ha : N.natAbs = a) (hs : decide (N < 0) = sg0) (h0 : a ≠ 0) (hL : ((blen a : Nat) : Int) = L) (hl : 64 < L) (hx : E + L - 64 = x) (hb : L ≤ 3200000) (hc : tp a + 1 < 2 ^ 64) (hr : fin sg0 ((tp a + 1 : Nat) : Int) x true = r) :
   Calls Tryz.prog 99 #[.agg #[.bool s, .slice A n c, .int .i64 e], .bool (!sg0)] w (PN w r) := by
 obtain ⟨b1, b2⟩ := mk_bd z e; rw [hE] at b1 b2; have HN := Lib.hid hN; have HE := Lib.hid hE; have HA := Lib.hid ha; have HSG := Lib.hid hs; have HL := Lib.hid hL
 have hl0 : blen a ≠ 0 := fun e => h0 (blen_eq_zero.1 e)
 have g1 := tp_ge h0; have g2 := tp_lt a
 have HX1 : Hid (IntKind.i64.wrap (E + L) = E + L) := Lib.hid (IntWalk.i64_in _ (by omega))
 have HX2 : Hid (IntKind.i64.wrap (E + L - 64) = x) := Lib.hid (by rw [hx]; exact IntWalk.i64_in _ (by omega))
 obtain ⟨v, hv⟩ : ∃ v, L - 64 = v := ⟨_, rfl⟩
 have HV : Hid (IntKind.i64.wrap (L - 64) = v) := Lib.hid (by rw [hv]; exact IntWalk.i64_in _ (by omega))
 have HSH : Hid (a / 2 ^ v.toNat = tp a) := Lib.hid (by rw [← hv, ← hL]; exact tp_one (by omega))
 obtain ⟨U, hU⟩ : ∃ U, tp a + 1 = U := ⟨_, rfl⟩; have HU := Lib.hid hU; rw [hU] at hr hc; obtain ⟨T, hT⟩ : ∃ T, ((U : Nat) : Int) = T := ⟨_, rfl⟩; rw [hT] at hr; have HT := Lib.hid hT; have HR := Lib.hid hr
 have hT1 : 9223372036854775808 ≤ T := by omega
 have hT2 : T < 18446744073709551616 := by omega
 have HG2 := Lib.hid hc; obtain ⟨ℓ, hℓ⟩ : ∃ ℓ, ((blen U : Nat) : Int) = ℓ := ⟨_, rfl⟩
 have hℓ2 : ℓ ≤ 64 := by
   have := blen_mono_le hc
   omega
 have HLU := Lib.hid hℓ; clear hN hE ha hs hL hx hr hT hv g1 g2 hl0 hc hU hℓ
 go_enter Tryz.func99, Tryz.ntmps99
 go_upto_region 1 with (fail)
 generalize hW1 : (w.alloc _).alloc _ = w1 at *; obtain ⟨X1, XR, HB⟩ := Bo.en2 hW1; replace h := h.below HB.out; clear hW1; have xX1 := X1.cell
 go_wp2_with fail
 refine (q3Make h hn HN.out HE.out).mono ?_; rintro ee w2 ⟨s1, A1, n1, c1, rfl, p1, k1, B⟩; clear xX1; replace X1 := X1.below B; replace XR := XR.below B; replace h := h.below B; replace HB := Hqb HB B; clear B
 go_upto_region 2 with (fail)
 have lX5 := Nat.le_refl (World.heap w2).size; have nX5X1 := X1.lt; have nX5XR := XR.lt; generalize hWn : w2.alloc _ = w3 at *; obtain ⟨X5, BW⟩ := Bo.nw hWn; clear hWn; replace X1 := X1.below BW; replace XR := XR.below BW; replace p1 := p1.below BW; replace HB := Hqb HB BW; clear BW; clear lX5
 obtain rfl : s1 = sg0 := p1.2.trans HSG.out
 have p2 : Nm w3 A1 n1 c1 a := HA.out ▸ p1.1
 have hbl := p2.rd.blen_le
 have hn1 : n1 ≤ 100000 := by omega
 have hpos : 0 < n1 := p2.pos.2 (by omega)
 clear p1 HSG
 have e0 : ((n1 : Int) == 0) = false := by
   have : (n1 : Int) ≠ 0 := by omega
   simpa using this
 have hbg : n1 ≤ 1099511627776 := by omega
 have f1 : (s1 != s1) = false := by cases s1 <;> rfl
 have f2 : (!s1 != s1) = true := by cases s1 <;> rfl
 have f3 : (s1 == s1) = true := by cases s1 <;> rfl
 have f4 : ((!s1) == s1) = false := by cases s1 <;> rfl
 have xX5 := X5.cell
 go_wp2_with fail
 refine (rLen p2.rd HL.out).mono ?_; rintro ee w4 ⟨rfl, B⟩; clear xX5; replace XR := XR.below B; replace X5 := X5.below B; replace p2 := p2.below B; replace HB := Hqb HB B; clear B; have xX5 := X5.cell; have hv := HV.out
 go_wp2_with fail
 refine (rShrP v p2.rd (by omega)).mono ?_; rintro ee w5 ⟨A3, n3, c3, rfl, p3, k3, B⟩; clear xX5; replace XR := XR.below B; replace X5 := X5.below B; replace p2 := p2.below B; replace HB := Hqb HB B; clear B hv; rw [HSH.out] at p3; have xX5 := X5.cell; have hx1 := HX1.out; have hx2 := HX2.out
 go_wp2_with fail
 clear hx1 hx2; refine (rAddE (p3.rd.below (bel1 _ _)) (one_rd _) (by omega) (by omega) HU.out).mono ?_; rintro ee w6 ⟨A4, n4, c4, rfl, p4, k4, B⟩; replace B := bt (bel1 _ _) B; clear xX5; replace XR := XR.below B; replace X5 := X5.below B; replace p3 := p3.below B; replace HB := Hqb HB B; clear B
 have hn3 : n3 ≤ 100000 := by omega
 go_wp2_with fail
 refine (rLen p4.rd HLU.out).mono ?_; rintro ee w7 ⟨rfl, B⟩; replace XR := XR.below B; replace X5 := X5.below B; replace p4 := p4.below B; replace HB := Hqb HB B; clear B
 go_upto_region 15 with (fail)
 have p9 := p4; refine Jo.rk [0, 1, 2, 3, 4, 5, 6, 7] [some 71, some 72, some 73, some 74, some 75, some 76, some 77, some 78, none] [[], [0], [1], [], [3], [], [], [2, 4, 5, 6], []] 9 1 [Jo.qp w2.heap.size 0, Jo.qp w2.heap.size 0, Jo.qb s1, Jo.Fact.eq (.slice A4 n4 c4), Jo.Fact.eq (.int .u64 T), Jo.qi x, Jo.qb true, Jo.Fact.num r, Jo.Fact.any] (by kernel_rfl) (by kernel_rfl) (by decide) rfl ?_ ?_
 · iterate 2 (refine Jo.jm rfl ?_ ?_; rotate_left)
   refine Jo.jm rfl ?_ ?_
   · rintro wj hJ _ rfl K hK; simp only [Jo.z] at hK ⊢; have xX50 := (X5.below hJ).a 0 (.bool s1) rfl; go_simp; exact hK.out _ _ rfl (br _ _)
   refine Jo.jm rfl ?_ ?_; rotate_left
   refine Jo.jm rfl ?_ ?_
   · rintro wj hJ _ rfl K hK; simp only [Jo.z] at hK ⊢; go_simp; refine (yWord (p9.below hJ) HG2.out HT.out).mono ?_; rintro ee wk ⟨rfl, B⟩; exact hK.out _ _ rfl B
   iterate 2 (refine Jo.jm rfl ?_ ?_; rotate_left)
   refine Jo.jm rfl ?_ ?_
   · rintro wj hJ _ rfl _ rfl _ rfl _ rfl K hK; simp only [Jo.z] at hK ⊢; go_simp; refine (yFin hT1 hT2 HR.out).mono ?_; rintro ee wk ⟨K4, s4, M4, E4, rfl, q4, B⟩; exact hK.out _ _ ⟨K4, s4, M4, E4, rfl, q4⟩ B
   exact Jo.Steps.nil
   all_goals (rintro wj hJ; (repeat rintro _ rfl); intro K hK; simp only [Jo.z] at hK ⊢; go_simp; exact hK.out _ _ rfl (br _ _))
 rintro w8 hJ _ _ _ _ _ rfl _ rfl _ rfl _ rfl _ rfl _ ⟨K4, s4, M4, E4, rfl, q4⟩ -; simp only [Jo.z]; replace XR := XR.below hJ; replace X5 := X5.below hJ; replace p9 := p9.below hJ; replace HB := Hqb HB hJ; have xXR := XR.cell; have zXR0 := XR.frozen
 refine Jo.jnext (i := 8) (o := ⟨none, _, _, _, _, _⟩) (by kernel_rfl) rfl (fun K hK => ?_)
 go_simp; refine hK.out _ _ ?_; clear hK K xXR zXR0; have SX := StN.mk4 XR (.int .i64 K4) (.bool s4) (.int .u64 M4) (.int .i64 E4); refine Jo.jdone (by kernel_rfl) ?_; go_wp2; exact bodyPost_ret (by simp [results, Tryz.results99, go_sem, SX.box.cell]) rfl ⟨_, _, _, _, rfl, q4, (SX.below HB.out (by omega))⟩
theorem yround_bc {w : World} {A : Option Addr} {n c a : Nat} {s sg0 : Bool} {z e N E L x r : Int} (h : Wr w s A n c z) (hn : n ≤ 100000) (hN : (mk z e).1 = N) (hE : (mk z e).2 = E) (ha : N.natAbs = a) (hs : decide (N < 0) = sg0) (h0 : a ≠ 0) (hL : ((blen a : Nat) : Int) = L) (hl : 64 < L) (hx : E + L - 64 = x) (hb : L ≤ 3200000) (hc : tp a + 1 = 2 ^ 64) (hr : fin sg0 9223372036854775808 (x + 1) true = r) :
   Calls Tryz.prog 99 #[.agg #[.bool s, .slice A n c, .int .i64 e], .bool (!sg0)] w (PN w r) := by
 obtain ⟨b1, b2⟩ := mk_bd z e; rw [hE] at b1 b2; have HN := Lib.hid hN; have HE := Lib.hid hE; have HA := Lib.hid ha; have HSG := Lib.hid hs; have HL := Lib.hid hL
 have hl0 : blen a ≠ 0 := fun e => h0 (blen_eq_zero.1 e)
 have g1 := tp_ge h0; have g2 := tp_lt a
 have HX1 : Hid (IntKind.i64.wrap (E + L) = E + L) := Lib.hid (IntWalk.i64_in _ (by omega))
 have HX2 : Hid (IntKind.i64.wrap (E + L - 64) = x) := Lib.hid (by rw [hx]; exact IntWalk.i64_in _ (by omega))
 obtain ⟨v, hv⟩ : ∃ v, L - 64 = v := ⟨_, rfl⟩
 have HV : Hid (IntKind.i64.wrap (L - 64) = v) := Lib.hid (by rw [hv]; exact IntWalk.i64_in _ (by omega))
 have HSH : Hid (a / 2 ^ v.toNat = tp a) := Lib.hid (by rw [← hv, ← hL]; exact tp_one (by omega))
 obtain ⟨U, hU⟩ : ∃ U, tp a + 1 = U := ⟨_, rfl⟩; have HU := Lib.hid hU; rw [hU] at hc; have HR := Lib.hid hr
 have hT1 : (9223372036854775808 : Int) ≤ 9223372036854775808 := by decide
 have hT2 : (9223372036854775808 : Int) < 18446744073709551616 := by decide
 have hc2 : U = 18446744073709551616 := hc
 have HG2 : Hid (9223372036854775808 < 18446744073709551616) := Lib.hid (by decide)
 have HW3 : Hid (IntKind.i64.wrap (x + 1) = x + 1) := Lib.hid (IntWalk.i64_in _ (by omega))
 have HLU : Hid (((blen U : Nat) : Int) = 65) := Lib.hid (by rw [hc, blen_pow]; rfl)
 have HDV : Hid (U / 2 ^ (1 : Int).toNat = 9223372036854775808) := Lib.hid (by rw [hc2]; decide)
 clear hN hE ha hs hL hx hr hv g1 g2 hl0 hc hU hc2
 go_enter Tryz.func99, Tryz.ntmps99
 go_upto_region 1 with (fail)
 generalize hW1 : (w.alloc _).alloc _ = w1 at *; obtain ⟨X1, XR, HB⟩ := Bo.en2 hW1; replace h := h.below HB.out; clear hW1; have xX1 := X1.cell
 go_wp2_with fail
 refine (q3Make h hn HN.out HE.out).mono ?_; rintro ee w2 ⟨s1, A1, n1, c1, rfl, p1, k1, B⟩; clear xX1; replace X1 := X1.below B; replace XR := XR.below B; replace h := h.below B; replace HB := Hqb HB B; clear B
 go_upto_region 2 with (fail)
 have lX5 := Nat.le_refl (World.heap w2).size; have nX5X1 := X1.lt; have nX5XR := XR.lt; generalize hWn : w2.alloc _ = w3 at *; obtain ⟨X5, BW⟩ := Bo.nw hWn; clear hWn; replace X1 := X1.below BW; replace XR := XR.below BW; replace p1 := p1.below BW; replace HB := Hqb HB BW; clear BW; clear lX5
 obtain rfl : s1 = sg0 := p1.2.trans HSG.out
 have p2 : Nm w3 A1 n1 c1 a := HA.out ▸ p1.1
 have hbl := p2.rd.blen_le
 have hn1 : n1 ≤ 100000 := by omega
 have hpos : 0 < n1 := p2.pos.2 (by omega)
 clear p1 HSG
 have e0 : ((n1 : Int) == 0) = false := by
   have : (n1 : Int) ≠ 0 := by omega
   simpa using this
 have hbg : n1 ≤ 1099511627776 := by omega
 have f1 : (s1 != s1) = false := by cases s1 <;> rfl
 have f2 : (!s1 != s1) = true := by cases s1 <;> rfl
 have f3 : (s1 == s1) = true := by cases s1 <;> rfl
 have f4 : ((!s1) == s1) = false := by cases s1 <;> rfl
 have xX5 := X5.cell
 go_wp2_with fail
 refine (rLen p2.rd HL.out).mono ?_; rintro ee w4 ⟨rfl, B⟩; clear xX5; replace XR := XR.below B; replace X5 := X5.below B; replace p2 := p2.below B; replace HB := Hqb HB B; clear B; have xX5 := X5.cell; have hv := HV.out
 go_wp2_with fail
 refine (rShrP v p2.rd (by omega)).mono ?_; rintro ee w5 ⟨A3, n3, c3, rfl, p3, k3, B⟩; clear xX5; replace XR := XR.below B; replace X5 := X5.below B; replace p2 := p2.below B; replace HB := Hqb HB B; clear B hv; rw [HSH.out] at p3; have xX5 := X5.cell; have hx1 := HX1.out; have hx2 := HX2.out
 go_wp2_with fail
 clear hx1 hx2; refine (rAddE (p3.rd.below (bel1 _ _)) (one_rd _) (by omega) (by omega) HU.out).mono ?_; rintro ee w6 ⟨A4, n4, c4, rfl, p4, k4, B⟩; replace B := bt (bel1 _ _) B; clear xX5; replace XR := XR.below B; replace X5 := X5.below B; replace p3 := p3.below B; replace HB := Hqb HB B; clear B
 have hn3 : n3 ≤ 100000 := by omega
 go_wp2_with fail
 refine (rLen p4.rd HLU.out).mono ?_; rintro ee w7 ⟨rfl, B⟩; replace XR := XR.below B; replace X5 := X5.below B; replace p4 := p4.below B; replace HB := Hqb HB B; clear B
 go_wp2_with fail
 refine (rShrP 1 p4.rd (by omega)).mono ?_; rintro ee w71 ⟨A5, n5, c5, rfl, p5, k5, B⟩; replace XR := XR.below B; replace X5 := X5.below B; replace p4 := p4.below B; replace HB := Hqb HB B; clear B; rw [HDV.out] at p5; have hw3 := HW3.out
 go_upto_region 15 with (fail)
 clear hw3; have p9 := p5; refine Jo.rk [0, 1, 2, 3, 4, 5, 6, 7] [some 71, some 72, some 73, some 74, some 75, some 76, some 77, some 78, none] [[], [0], [1], [], [3], [], [], [2, 4, 5, 6], []] 9 1 [Jo.qp w2.heap.size 0, Jo.qp w2.heap.size 0, Jo.qb s1, Jo.Fact.eq (.slice A5 n5 c5), Jo.Fact.eq (.int .u64 9223372036854775808), Jo.Fact.eq (.int .i64 (x + 1)), Jo.qb true, Jo.Fact.num r, Jo.Fact.any] (by kernel_rfl) (by kernel_rfl) (by decide) rfl ?_ ?_
 · iterate 2 (refine Jo.jm rfl ?_ ?_; rotate_left)
   refine Jo.jm rfl ?_ ?_
   · rintro wj hJ _ rfl K hK; simp only [Jo.z] at hK ⊢; have xX50 := (X5.below hJ).a 0 (.bool s1) rfl; go_simp; exact hK.out _ _ rfl (br _ _)
   refine Jo.jm rfl ?_ ?_; rotate_left
   refine Jo.jm rfl ?_ ?_
   · rintro wj hJ _ rfl K hK; simp only [Jo.z] at hK ⊢; go_simp; refine (yWord (p9.below hJ) HG2.out rfl).mono ?_; rintro ee wk ⟨rfl, B⟩; exact hK.out _ _ rfl B
   iterate 2 (refine Jo.jm rfl ?_ ?_; rotate_left)
   refine Jo.jm rfl ?_ ?_
   · rintro wj hJ _ rfl _ rfl _ rfl _ rfl K hK; simp only [Jo.z] at hK ⊢; go_simp; refine (yFin hT1 hT2 HR.out).mono ?_; rintro ee wk ⟨K4, s4, M4, E4, rfl, q4, B⟩; exact hK.out _ _ ⟨K4, s4, M4, E4, rfl, q4⟩ B
   exact Jo.Steps.nil
   all_goals (rintro wj hJ; (repeat rintro _ rfl); intro K hK; simp only [Jo.z] at hK ⊢; go_simp; exact hK.out _ _ rfl (br _ _))
 rintro w8 hJ _ _ _ _ _ rfl _ rfl _ rfl _ rfl _ rfl _ ⟨K4, s4, M4, E4, rfl, q4⟩ -; simp only [Jo.z]; replace XR := XR.below hJ; replace X5 := X5.below hJ; replace p9 := p9.below hJ; replace HB := Hqb HB hJ; have xXR := XR.cell; have zXR0 := XR.frozen
 refine Jo.jnext (i := 8) (o := ⟨none, _, _, _, _, _⟩) (by kernel_rfl) rfl (fun K hK => ?_)
 go_simp; refine hK.out _ _ ?_; clear hK K xXR zXR0; have SX := StN.mk4 XR (.int .i64 K4) (.bool s4) (.int .u64 M4) (.int .i64 E4); refine Jo.jdone (by kernel_rfl) ?_; go_wp2; exact bodyPost_ret (by simp [results, Tryz.results99, go_sem, SX.box.cell]) rfl ⟨_, _, _, _, rfl, q4, (SX.below HB.out (by omega))⟩
theorem yRound {w : World} {A : Option Addr} {n c : Nat} {s up : Bool} {z e N E r : Int} (h : Wr w s A n c z) (hn : n ≤ 100000) (hN : (mk z e).1 = N) (hE : (mk z e).2 = E) (hr : rnd up N E = r) :
   Calls Tryz.prog 99 #[.agg #[.bool s, .slice A n c, .int .i64 e], .bool up] w (PN w r) := by
 obtain ⟨σ, hσ⟩ : ∃ σ, decide (N < 0) = σ := ⟨_, rfl⟩
 have hbl : blen N.natAbs ≤ 3200000 := by
   have hb := h.rd.blen_le
   have : blen N.natAbs ≤ blen z.natAbs := by
     rcases mk_cases z e with h0 | ⟨h0, h1, h2, h3, h4, h5, h6⟩
     · rw [h0] at hN; rw [← hN]; exact Nat.zero_le _
     · rw [hN] at h6 h4; rw [h6, natAbs_mul_pow, blen_mul (by omega)]
       omega
   omega
 by_cases h0 : N.natAbs = 0
 · have hN0 : N = 0 := by omega
   have : r = 0 := by
     rw [← hr, hN0, rnd_ext rfl]
     rfl
   rw [this]; exact yround_zero h hn hN hE rfl hσ h0
 · by_cases hs : σ = up
   · subst hs; rw [rnd_same hσ.symm rfl, ← fin_nc σ h0] at hr
     by_cases hl : blen N.natAbs ≤ 64
     · exact yround_ss h hn hN hE rfl hσ h0 rfl (by omega) rfl (by omega) hr
     · exact yround_bs h hn hN hE rfl hσ h0 rfl (by omega) rfl (by omega) hr
   · obtain rfl : (!σ) = up := by cases σ <;> cases up <;> first | rfl | exact absurd rfl hs
     rw [rnd_diff hσ.symm] at hr
     by_cases hl : blen N.natAbs ≤ 64
     · rw [← fin_small σ h0 hl] at hr; exact yround_sd h hn hN hE rfl hσ h0 rfl (by omega) rfl (by omega) hr
     · have g := tp_lt N.natAbs
       by_cases hc : tp N.natAbs + 1 < 2 ^ 64
       · rw [← fin_up σ (by omega) hc] at hr; exact yround_bd h hn hN hE rfl hσ h0 rfl (by omega) rfl (by omega) hc hr
       · rw [← fin_carry σ (by omega) (by omega)] at hr; exact yround_bc h hn hN hE rfl hσ h0 rfl (by omega) rfl (by omega) (by omega) hr
theorem sgi_mul (s : Bool) (x y : Int) : sgi s x * y = sgi s (x * y) := by
 cases s
 · rfl
 · exact Int.neg_mul _ _
theorem vp_vr {x : Int} (s : Bool) (h : 0 < x) : vr (sgi s x) = sgi s (vp x) := by
 rw [vr_sgi]
 congr 1
 unfold vr
 rw [if_neg (by omega)]
theorem exq_vl {D : Int} {s : Bool} {M E r : Int} (q : Fq D s M E r) (h1 : -19342822337206103650074625 < r) (h2 : r < 19342822337206103650074625) : exb D s M E = true ∧ vl (exq D s M E) = vr r := by
 have hb : exb D s M E = true := by
   unfold exb
   rw [decide_eq_true q.1, Bool.true_and]
   rcases q.cases with ⟨rfl, rfl, rfl, rfl, h0⟩ | ⟨rfl, _⟩ | ⟨rfl, rfl, rfl, ⟨rfl, h5⟩ | ⟨rfl, h5⟩⟩
   · rfl
   · rfl
   · omega
   · omega
 refine ⟨hb, ?_⟩
 unfold exq
 rw [if_pos hb]; have hr := q.2.2
 rcases q.1 with ⟨rfl, rfl, rfl, rfl⟩ | ⟨rfl, g1, g2, g3⟩ | ⟨rfl, rfl, rfl⟩
 · obtain rfl : 0 = r := hr
   have e0 : sgi false 0 = 0 := if_neg (by decide)
   rw [e0, mk_zero, vl_zero]
   rfl
 · have hM := q.2.1
   have hpl : plc 1 M E = M - 9223372036854775808 + 1 + (E + 1048576) * 9223372036854775808 := rfl
   rw [hpl] at hr
   have ha : (sgi s M).natAbs = M.toNat := by
     cases s
     · show M.natAbs = M.toNat; omega
     · show (-M).natAbs = M.toNat; omega
   obtain ⟨η, hη⟩ : ∃ η : Nat, 4194304 = η := ⟨_, rfl⟩
   have hf := mk_fit (z := sgi s M) (e := E) (h := η) (by omega) (by omega) (by
     rw [ha]
     have : M.toNat < 2 ^ 64 := by omega
     have := Nat.mul_lt_mul_of_pos_right this (Nat.pow_pos (n := (E + (η : Int)).toNat) (show 0 < 2 by decide))
     rw [← Nat.pow_add] at this; exact Nat.lt_of_lt_of_le this (Nat.pow_le_pow_right (by decide) (by omega)))
   rw [hf.2, ← hr, vp_vr s (by omega), vp_fin g1 hM (by omega), sgi_mul]
 · exfalso
   have : r = sgi s TP := hr.symm
   have := TP_eq
   cases s
   · have e : sgi false TP = TP := if_neg (by decide)
     omega
   · have e : sgi true TP = -TP := if_pos rfl
     omega
theorem lo_full {m : Nat} {E : Int} (h1 : 9223372036854775808 ≤ m) (h2 : m < 18446744073709551616) (h3 : -1048576 ≤ E) (h4 : E ≤ 1048576) : lo m E = (m : Int) - 9223372036854775808 + 1 + (E + 1048576) * 9223372036854775808 := by
 have hb : blen m = 64 := blen_uniq (k := 63) (by omega) (by omega) (by omega)
 have hx : xp m E = E := by unfold xp; rw [hb]; omega
 have ht : tp m = m := by
   rw [tp_small (by omega), hb, Nat.sub_self, Nat.pow_zero, Nat.mul_one]
 unfold lo
 rw [if_neg (by omega), hx, if_neg (by omega), if_neg (by omega), ht]
theorem back_odd {m k t : Nat} {E F : Int} (hm : m = k * 2 ^ t) (h1 : 9223372036854775808 ≤ m) (h2 : m < 18446744073709551616) (h3 : -1048576 ≤ E) (h4 : E ≤ 1048576) (hF : F = E + (t : Nat)) : ext k F = true ∧ lo k F = lo m E := by
 have hb : blen m = 64 := blen_uniq (k := 63) (by omega) (by omega) (by omega)
 have hk : k ≠ 0 := fun e => by rw [e, Nat.zero_mul] at hm; omega
 have b1 := blen_mul hk t; rw [← hm, hb] at b1; refine ⟨?_, ?_⟩
 · have e0 : (k == 0) = false := by simpa using hk
   unfold ext xp
   rw [e0, Bool.false_or, decide_eq_true (by omega), decide_eq_true (by omega), decide_eq_true (by omega)]
   rfl
 · rw [hm, lo_mul hk, hF]
theorem back_fin {s : Bool} {M E : Int} (up : Bool) (g1 : 9223372036854775808 ≤ M) (hM : LQ M) (g2 : -1048576 ≤ E) (g3 : E ≤ 1048576) {z : Int} (hz : z.natAbs = M.toNat) (hs : decide (z < 0) = s) : rnd up (mk z E).1 (mk z E).2 = sgi s (M - 9223372036854775808 + 1 + (E + 1048576) * 9223372036854775808) := by
 have h0 : z ≠ 0 := by omega
 have hv := v2_pow_le (n := z.natAbs) (by omega)
 have hv2 : v2 z.natAbs < 64 := (Nat.pow_lt_pow_iff_right (a := 2) (by decide)).1 (show 2 ^ v2 z.natAbs < 2 ^ 64 by omega)
 obtain ⟨e1, e2, e3, e4, e5⟩ := mk_in (z := z) (e := E) h0 (by omega) (by omega)
 revert e1 e3 e4 e5
 generalize mk z E = p; obtain ⟨N, F⟩ := p
 intro e1 e3 e4 e5
 simp only at e1 e3 e4 e5 ⊢
 have ea : z.natAbs = N.natAbs * 2 ^ v2 z.natAbs := by
   have := congrArg Int.natAbs e5
   rwa [natAbs_mul_pow] at this
 obtain ⟨x1, x2⟩ := back_odd ea (by omega) (by omega) g2 g3 e1
 rw [rnd_ext x1, x2, lo_full (by omega) (by omega) g2 g3, show decide (N < 0) = s by rw [← hs]; simp only [e3], show ((z.natAbs : Nat) : Int) = M by omega]
theorem rnd_nought (up : Bool) : rnd up 0 0 = 0 := by
 rw [rnd_ext rfl]
 rfl
theorem rnd_back {D : Int} {s : Bool} {M E r : Int} (up : Bool) (q : Fq D s M E r) (hx : exb D s M E = true) : rnd up (exq D s M E).1 (exq D s M E).2 = r := by
 unfold exq
 rw [if_pos hx]; have hr := q.2.2
 rcases q.1 with ⟨rfl, rfl, rfl, rfl⟩ | ⟨rfl, g1, g2, g3⟩ | ⟨rfl, rfl, rfl⟩
 · obtain rfl : 0 = r := hr
   have e0 : sgi false 0 = 0 := if_neg (by decide)
   rw [e0, mk_zero]; exact rnd_nought up
 · have hM := q.2.1
   have hpl : plc 1 M E = M - 9223372036854775808 + 1 + (E + 1048576) * 9223372036854775808 := rfl
   rw [hpl] at hr; rw [← hr]; refine back_fin up g1 hM g2 g3 ?_ ?_
   · cases s
     · rw [show sgi false M = M from if_neg (by decide)]; omega
     · rw [show sgi true M = -M from if_pos rfl]; omega
   · cases s
     · rw [show sgi false M = M from if_neg (by decide)]; exact decide_eq_false (by omega)
     · rw [show sgi true M = -M from if_pos rfl]; exact decide_eq_true (by omega)
 · exact absurd hx (by unfold exb; simp)
def opl (n : Int) : Int := sgi (decide (n < 0)) (lo n.natAbs 0)
theorem opl_zero : opl 0 = 0 := rfl
theorem opl_vr {n : Int} (h1 : -9223372036854775808 ≤ n) (h2 : n ≤ 9223372036854775807) : vr (opl n) = n * 2 ^ KK := by
 by_cases h0 : n = 0
 · subst h0; rw [opl_zero, Int.zero_mul]
   rfl
 · have q := of_fq h0 h1 h2; have hs := of_shl h0 h1 h2; have a3 := blen_mono_le (n := n.natAbs) (k := 64) (by omega)
   have hr : _ = opl n := q.2.2
   have g := q.plc (by decide)
   rcases g with ⟨_, g1, g2, g3, g4, g5⟩ | ⟨g, _⟩
   · rw [← hr, vp_vr _ (by rw [g5]; omega), g5, vp_fin g1 g2 (by omega), ← hs, Int.mul_assoc, ← Int.pow_add, show (64 - (blen n.natAbs : Int)).toNat + (-(64 - (blen n.natAbs : Int)) + (KK : Int)).toNat = KK by rw [KK_eq]; omega, ← sgi_mul]
     congr 1
     by_cases hn : n < 0
     · rw [decide_eq_true hn]; show -(n.natAbs : Int) = n; omega
     · rw [decide_eq_false hn]; show (n.natAbs : Int) = n; omega
   · exact absurd g (by decide)
theorem opl_cmp {a b : Int} (h1 : -9223372036854775808 ≤ a) (h2 : a ≤ 9223372036854775807) (k1 : -9223372036854775808 ≤ b) (k2 : b ≤ 9223372036854775807) : cmpI (opl a) (opl b) = cmpI a b := by
 rw [← vr_cmp, opl_vr h1 h2, opl_vr k1 k2, cmpI_scale (p2pos KK)]
theorem sgi_not {n : Int} (h0 : n ≠ 0) (l : Int) : sgi (decide (-n < 0)) l = -sgi (decide (n < 0)) l := by
 by_cases hn : n < 0
 · rw [decide_eq_true hn, decide_eq_false (show ¬ -n < 0 by omega), show sgi false l = l from if_neg (by decide), show sgi true l = -l from if_pos rfl, Int.neg_neg]
 · rw [decide_eq_false hn, decide_eq_true (show -n < 0 by omega), show sgi false l = l from if_neg (by decide), show sgi true l = -l from if_pos rfl]
theorem opl_neg (n : Int) : opl (-n) = -opl n := by
 by_cases h0 : n = 0
 · rw [h0, Int.neg_zero, opl_zero, Int.neg_zero]
 · unfold opl
   rw [Int.natAbs_neg]; exact sgi_not h0 _
end Go.Proofs.YtnbliijpjcmbjaaGreatDoor

/-
 Contracts that the proof rests on.
-/
import Derived.Test.YtmmallhniijdfaaGreatDoorYAaz
namespace Go.Proofs.YtmmallhniijdfaaGreatDoor
set_option maxHeartbeats 4000000
open Go.RowKit
set_option linter.unusedVariables false
set_option linter.unusedSimpArgs false
set_option maxRecDepth 100000
theorem fin_nc {a : Nat} {E : Int} (s : Bool) (h : a ≠ 0) : fin s (tp a) (xp a E) false = sgi s (lo a E) := by
 have := TP_eq
 unfold fin lo
 rw [if_neg h]; refine congrArg (sgi s) ?_
 by_cases c1 : 1048576 < xp a E
 · rw [if_pos c1, if_pos c1, if_neg (by decide)]
   omega
 · rw [if_neg c1, if_neg c1]
   by_cases c2 : xp a E < -1048576
   · rw [if_pos c2, if_pos c2, if_neg (by decide)]
   · rw [if_neg c2, if_neg c2]
theorem fin_small {a : Nat} {E : Int} (s : Bool) (h : a ≠ 0) (hl : blen a ≤ 64) : fin s (tp a) (xp a E) true = sgi s (hi a E) := by
 have := TP_eq
 have e0 : (a == 0) = false := by simpa using h
 unfold fin hi ext lo
 rw [if_neg h, e0, Bool.false_or, decide_eq_true hl, Bool.and_true]
 congr 1
 by_cases c1 : 1048576 < xp a E
 · rw [if_pos c1, if_pos rfl, decide_eq_false (show ¬ xp a E ≤ 1048576 by omega), Bool.false_and, if_neg (by decide), if_pos c1]
   omega
 · rw [if_neg c1, if_neg c1, decide_eq_true (show xp a E ≤ 1048576 by omega), Bool.true_and]
   by_cases c2 : xp a E < -1048576
   · rw [if_pos c2, if_pos rfl, decide_eq_false (show ¬ -1048576 ≤ xp a E by omega), if_neg (by decide), if_pos c2]
     rfl
   · rw [if_neg c2, decide_eq_true (show -1048576 ≤ xp a E by omega), if_pos rfl, if_neg c2]
theorem hi_big {a : Nat} {E : Int} (hl : 64 < blen a) : hi a E = lo a E + 1 := by
 have h0 : a ≠ 0 := fun e => by rw [e] at hl; exact absurd hl (by decide)
 have e0 : (a == 0) = false := by simpa using h0
 have : ext a E = false := by
   unfold ext
   rw [e0, decide_eq_false (show ¬ blen a ≤ 64 by omega)]
   simp
 unfold hi
 rw [this, if_neg (by decide)]
theorem fin_up {a : Nat} {E : Int} (s : Bool) (hl : 64 < blen a) (ht : tp a + 1 < 2 ^ 64) : fin s ((tp a + 1 : Nat) : Int) (xp a E) true = sgi s (hi a E) := by
 have := TP_eq
 have h0 : a ≠ 0 := fun e => by rw [e] at hl; exact absurd hl (by decide)
 rw [hi_big hl]
 unfold fin lo
 rw [if_neg h0]
 congr 1
 by_cases c1 : 1048576 < xp a E
 · rw [if_pos c1, if_pos c1, if_pos rfl]
   omega
 · rw [if_neg c1, if_neg c1]
   by_cases c2 : xp a E < -1048576
   · rw [if_pos c2, if_pos c2, if_pos rfl]
     rfl
   · rw [if_neg c2, if_neg c2]
     omega
theorem fin_carry {a : Nat} {E : Int} (s : Bool) (hl : 64 < blen a) (ht : tp a + 1 = 2 ^ 64) : fin s 9223372036854775808 (xp a E + 1) true = sgi s (hi a E) := by
 have := TP_eq
 have h0 : a ≠ 0 := fun e => by rw [e] at hl; exact absurd hl (by decide)
 rw [hi_big hl]
 unfold fin lo
 rw [if_neg h0]
 congr 1
 by_cases c1 : 1048576 < xp a E
 · rw [if_pos (show 1048576 < xp a E + 1 by omega), if_pos c1, if_pos rfl]
   omega
 · rw [if_neg c1]
   by_cases c3 : 1048576 < xp a E + 1
   · rw [if_pos c3, if_pos rfl, if_neg (show ¬ xp a E < -1048576 by omega)]
     omega
   · rw [if_neg c3]
     by_cases c2 : xp a E < -1048576
     · rw [if_pos c2]
       by_cases c4 : xp a E + 1 < -1048576
       · rw [if_pos c4, if_pos rfl]
         rfl
       · rw [if_neg c4]
         omega
     · rw [if_neg c2, if_neg (by omega)]
       omega
theorem tp_one {a : Nat} (h : 64 < blen a) : a / 2 ^ ((blen a : Int) - 64).toNat = tp a := by
 rw [tp_big (by omega), show ((blen a : Int) - 64).toNat = blen a - 64 by omega]
theorem tp_shl {a : Nat} (h : blen a ≤ 64) : a * 2 ^ (64 - (blen a : Int)).toNat = tp a := by
 rw [tp_small h, show (64 - (blen a : Int)).toNat = 64 - blen a by omega]
theorem yround_zero {w : World} {A : Option Addr} {n c a : Nat} {s sg0 up : Bool} {z e N E : Int} (h : Wr w s A n c z) (hn : n ≤ 100000) (hN : (mk z e).1 = N) (hE : (mk z e).2 = E) (ha : N.natAbs = a) (hs : decide (N < 0) = sg0) (h0 : a = 0) :
   Calls Tryz.prog 89 #[.agg #[.bool s, .slice A n c, .int .i64 e], .bool up] w (PN w 0) := by
 obtain ⟨b1, b2⟩ := mk_bd z e; rw [hE] at b1 b2; have HN := Lib.hid hN; have HE := Lib.hid hE; have HA := Lib.hid ha; have HSG := Lib.hid hs; clear hN hE ha hs; subst h0
 go_enter Tryz.func89, Tryz.ntmps89
 go_upto_region 1 with (fail)
 generalize hW1 : (w.alloc _).alloc _ = w1 at *; obtain ⟨X1, XR, HB⟩ := Bo.en2 hW1; replace h := h.below HB.out; clear hW1; have xX1 := X1.cell
 go_wp2_with fail
 refine (q3Make h hn HN.out HE.out).mono ?_; rintro ee w2 ⟨s1, A1, n1, c1, rfl, p1, k1, B⟩; clear xX1; replace X1 := X1.below B; replace XR := XR.below B; replace h := h.below B; replace HB := Hqb HB B; clear B
 go_upto_region 2 with (fail)
 have lX5 := Nat.le_refl (World.heap w2).size; have nX5X1 := X1.lt; have nX5XR := XR.lt; generalize hWn : w2.alloc _ = w3 at *; obtain ⟨X5, BW⟩ := Bo.nw hWn; clear hWn; replace X1 := X1.below BW; replace XR := XR.below BW; replace p1 := p1.below BW; replace HB := Hqb HB BW; clear BW; clear lX5
 have hz : n1 = 0 := by have := p1.1.pos; have := HA.out; omega
 subst hz; clear p1; have xXR := XR.cell; have zXR0 := XR.frozen; have xX5 := X5.cell; go_wp2; clear xXR zXR0 xX5; have SX := StN.mk4 XR (.int .i64 0) (.bool false) (.int .u64 0) (.int .i64 0); exact bodyPost_ret (by simp [results, Tryz.results89, go_sem, SX.box.cell]) rfl ⟨_, _, _, _, rfl, Fq.nought, (SX.below HB.out (by omega))⟩
theorem yround_ss {w : World} {A : Option Addr} {n c a : Nat} {s sg0 : Bool} {z e N E L x r : Int} (h : Wr w s A n c z) (hn : n ≤ 100000) (hN : (mk z e).1 = N) (hE : (mk z e).2 = E) (ha : N.natAbs = a) (hs : decide (N < 0) = sg0) (h0 : a ≠ 0) (hL : ((blen a : Nat) : Int) = L) (hl : L ≤ 64) (hx : E + L - 64 = x) (hb : L ≤ 3200000) (hr : fin sg0 (tp a) x false = r) :
   Calls Tryz.prog 89 #[.agg #[.bool s, .slice A n c, .int .i64 e], .bool sg0] w (PN w r) := by
 obtain ⟨b1, b2⟩ := mk_bd z e; rw [hE] at b1 b2; have HN := Lib.hid hN; have HE := Lib.hid hE; have HA := Lib.hid ha; have HSG := Lib.hid hs; have HL := Lib.hid hL
 have hl0 : blen a ≠ 0 := fun e => h0 (blen_eq_zero.1 e)
 have g1 := tp_ge h0; have g2 := tp_lt a
 have HX1 : Hid (IntKind.i64.wrap (E + L) = E + L) := Lib.hid (IntWalk.i64_in _ (by omega))
 have HX2 : Hid (IntKind.i64.wrap (E + L - 64) = x) := Lib.hid (by rw [hx]; exact IntWalk.i64_in _ (by omega))
 obtain ⟨T, hT⟩ : ∃ T, ((tp a : Nat) : Int) = T := ⟨_, rfl⟩; rw [hT] at hr; have HT := Lib.hid hT; have HR := Lib.hid hr; obtain ⟨v, hv⟩ : ∃ v, 64 - L = v := ⟨_, rfl⟩
 have HV : Hid (IntKind.i64.wrap (64 - L) = v) := Lib.hid (by rw [hv]; exact IntWalk.i64_in _ (by omega))
 have HSH : Hid (a * 2 ^ v.toNat = tp a) := Lib.hid (by rw [← hv, ← hL]; exact tp_shl (by omega))
 have hv1 : 0 ≤ v := by omega
 have hv2 : v ≤ 64 := by omega
 have hT1 : 9223372036854775808 ≤ T := by omega
 have hT2 : T < 18446744073709551616 := by omega
 have HG2 := Lib.hid g2; clear hN hE ha hs hL hx hr hT hv g1 g2 hl0
 go_enter Tryz.func89, Tryz.ntmps89
 go_upto_region 1 with (fail)
 generalize hW1 : (w.alloc _).alloc _ = w1 at *; obtain ⟨X1, XR, HB⟩ := Bo.en2 hW1; replace h := h.below HB.out; clear hW1; have xX1 := X1.cell
 go_wp2_with fail
 refine (q3Make h hn HN.out HE.out).mono ?_; rintro ee w2 ⟨s1, A1, n1, c1, rfl, p1, k1, B⟩; clear xX1; replace X1 := X1.below B; replace XR := XR.below B; replace h := h.below B; replace HB := Hqb HB B; clear B
 go_upto_region 2 with (fail)
 have lX5 := Nat.le_refl (World.heap w2).size; have nX5X1 := X1.lt; have nX5XR := XR.lt; generalize hWn : w2.alloc _ = w3 at *; obtain ⟨X5, BW⟩ := Bo.nw hWn; clear hWn; replace X1 := X1.below BW; replace XR := XR.below BW; replace p1 := p1.below BW; replace HB := Hqb HB BW; clear BW; clear lX5
 obtain rfl : s1 = sg0 := p1.2.trans HSG.out
 have p2 : Nm w3 A1 n1 c1 a := HA.out ▸ p1.1
 have hbl := p2.rd.blen_le
 have hn1 : n1 ≤ 100000 := by omega
 have hpos : 0 < n1 := p2.pos.2 (by omega)
 clear p1 HSG
 have e0 : ((n1 : Int) == 0) = false := by
   have : (n1 : Int) ≠ 0 := by omega
   simpa using this
 have hbg : n1 ≤ 1099511627776 := by omega
 have f1 : (s1 != s1) = false := by cases s1 <;> rfl
 have f2 : (!s1 != s1) = true := by cases s1 <;> rfl
 have f3 : (s1 == s1) = true := by cases s1 <;> rfl
 have f4 : ((!s1) == s1) = false := by cases s1 <;> rfl
 have xX5 := X5.cell
 go_wp2_with fail
 refine (rLen p2.rd HL.out).mono ?_; rintro ee w4 ⟨rfl, B⟩; clear xX5; replace XR := XR.below B; replace X5 := X5.below B; replace p2 := p2.below B; replace HB := Hqb HB B; clear B; have xX5 := X5.cell
 go_upto_region 7 with (fail)
 clear xX5; refine Jo.rk [0, 1, 2, 3, 4, 5, 6, 7, 8, 9, 10, 11, 12, 13, 14, 15, 16] [some 32, some 33, some 34, some 35, some 36, some 37, some 38, some 39, some 40, some 41, some 42, some 43, some 44, some 45, some 46, some 47, some 48, none] [[], [0], [1], [], [3], [4], [], [6], [5, 7], [8], [], [10], [], [11, 12], [13], [], [2, 9, 14, 15], []] 18 1 [Jo.qp w2.heap.size 0, Jo.qp w2.heap.size 0, Jo.qb s1, Jo.qp w2.heap.size 0, Jo.qp w2.heap.size 1, Jo.Fact.eq (.slice A1 n1 c1), Jo.qi L, Jo.qi v, Jo.Fact.nm (tp a) 100100, Jo.Fact.eq (.int .u64 T), Jo.qp w2.heap.size 2, Jo.qi E, Jo.qi L, Jo.Fact.eq (.int .i64 (E + L)), Jo.qi x, Jo.qb false, Jo.Fact.num r, Jo.Fact.any] (by kernel_rfl) (by kernel_rfl) (by decide) rfl ?_ ?_
 · iterate 2 (refine Jo.jm rfl ?_ ?_; rotate_left)
   refine Jo.jm rfl ?_ ?_
   · rintro wj hJ _ rfl K hK; simp only [Jo.z] at hK ⊢; have xX50 := (X5.below hJ).a 0 (.bool s1) rfl; go_simp; exact hK.out _ _ rfl (br _ _)
   iterate 2 (refine Jo.jm rfl ?_ ?_; rotate_left)
   refine Jo.jm rfl ?_ ?_
   · rintro wj hJ _ rfl K hK; simp only [Jo.z] at hK ⊢; have xX51 := (X5.below hJ).a 1 (.slice A1 n1 c1) rfl; go_simp; exact hK.out _ _ rfl (br _ _)
   refine Jo.jm rfl ?_ ?_; rotate_left
   refine Jo.jm rfl ?_ ?_
   · rintro wj hJ _ rfl K hK; simp only [Jo.z] at hK ⊢; have hv := HV.out; go_simp; exact hK.out _ _ rfl (br _ _)
   refine Jo.jm rfl ?_ ?_
   · rintro wj hJ _ rfl _ rfl K hK; simp only [Jo.z] at hK ⊢; go_simp; refine (rShlN (p2.below hJ).rd (by omega) hv1 (by omega) HSH.out).mono ?_; rintro ee wk ⟨A3, n3, c3, rfl, p3, k3, B⟩; exact hK.out _ _ ⟨A3, n3, c3, rfl, p3, by omega⟩ B
   refine Jo.jm rfl ?_ ?_
   · rintro wj hJ _ ⟨A3, n3, c3, rfl, p3, k3⟩ K hK; simp only [Jo.z] at hK ⊢; go_simp; refine (yWord p3 HG2.out HT.out).mono ?_; rintro ee wk ⟨rfl, B⟩; exact hK.out _ _ rfl B
   refine Jo.jm rfl ?_ ?_; rotate_left
   refine Jo.jm rfl ?_ ?_
   · rintro wj hJ _ rfl K hK; simp only [Jo.z] at hK ⊢; have xX52 := (X5.below hJ).a 2 (.int .i64 E) rfl; go_simp; exact hK.out _ _ rfl (br _ _)
   refine Jo.jm rfl ?_ ?_; rotate_left
   refine Jo.jm rfl ?_ ?_
   · rintro wj hJ _ rfl _ rfl K hK; simp only [Jo.z] at hK ⊢; have hx1 := HX1.out; go_simp; exact hK.out _ _ rfl (br _ _)
   refine Jo.jm rfl ?_ ?_
   · rintro wj hJ _ rfl K hK; simp only [Jo.z] at hK ⊢; have hx2 := HX2.out; go_simp; exact hK.out _ _ rfl (br _ _)
   refine Jo.jm rfl ?_ ?_; rotate_left
   refine Jo.jm rfl ?_ ?_
   · rintro wj hJ _ rfl _ rfl _ rfl _ rfl K hK; simp only [Jo.z] at hK ⊢; go_simp; refine (yFin hT1 hT2 HR.out).mono ?_; rintro ee wk ⟨K4, s4, M4, E4, rfl, q4, B⟩; exact hK.out _ _ ⟨K4, s4, M4, E4, rfl, q4⟩ B
   exact Jo.Steps.nil
   all_goals (rintro wj hJ; (repeat rintro _ rfl); intro K hK; simp only [Jo.z] at hK ⊢; go_simp; exact hK.out _ _ rfl (br _ _))
 rintro w5 hJ _ _ _ _ _ rfl _ _ _ _ _ rfl _ rfl _ rfl _ ⟨A3, n3, c3, rfl, _, _⟩ _ rfl _ _ _ rfl _ rfl _ rfl _ rfl _ rfl _ ⟨K4, s4, M4, E4, rfl, q4⟩ -; simp only [Jo.z]; replace XR := XR.below hJ; replace X5 := X5.below hJ; replace p2 := p2.below hJ; replace HB := Hqb HB hJ; have xXR := XR.cell; have zXR0 := XR.frozen
 refine Jo.jnext (i := 17) (o := ⟨none, _, _, _, _, _⟩) (by kernel_rfl) rfl (fun K hK => ?_)
 go_simp; refine hK.out _ _ ?_; clear hK K xXR zXR0; have SX := StN.mk4 XR (.int .i64 K4) (.bool s4) (.int .u64 M4) (.int .i64 E4); refine Jo.jdone (by kernel_rfl) ?_; go_wp2; exact bodyPost_ret (by simp [results, Tryz.results89, go_sem, SX.box.cell]) rfl ⟨_, _, _, _, rfl, q4, (SX.below HB.out (by omega))⟩
theorem yround_sd {w : World} {A : Option Addr} {n c a : Nat} {s sg0 : Bool} {z e N E L x r : Int} (h : Wr w s A n c z) (hn : n ≤ 100000) (hN : (mk z e).1 = N) (hE : (mk z e).2 = E) (ha : N.natAbs = a) (hs : decide (N < 0) = sg0) (h0 : a ≠ 0) (hL : ((blen a : Nat) : Int) = L) (hl : L ≤ 64) (hx : E + L - 64 = x) (hb : L ≤ 3200000) (hr : fin sg0 (tp a) x true = r) :
   Calls Tryz.prog 89 #[.agg #[.bool s, .slice A n c, .int .i64 e], .bool (!sg0)] w (PN w r) := by
 obtain ⟨b1, b2⟩ := mk_bd z e; rw [hE] at b1 b2; have HN := Lib.hid hN; have HE := Lib.hid hE; have HA := Lib.hid ha; have HSG := Lib.hid hs; have HL := Lib.hid hL
 have hl0 : blen a ≠ 0 := fun e => h0 (blen_eq_zero.1 e)
 have g1 := tp_ge h0; have g2 := tp_lt a
 have HX1 : Hid (IntKind.i64.wrap (E + L) = E + L) := Lib.hid (IntWalk.i64_in _ (by omega))
 have HX2 : Hid (IntKind.i64.wrap (E + L - 64) = x) := Lib.hid (by rw [hx]; exact IntWalk.i64_in _ (by omega))
 obtain ⟨T, hT⟩ : ∃ T, ((tp a : Nat) : Int) = T := ⟨_, rfl⟩; rw [hT] at hr; have HT := Lib.hid hT; have HR := Lib.hid hr; obtain ⟨v, hv⟩ : ∃ v, 64 - L = v := ⟨_, rfl⟩
 have HV : Hid (IntKind.i64.wrap (64 - L) = v) := Lib.hid (by rw [hv]; exact IntWalk.i64_in _ (by omega))
 have HSH : Hid (a * 2 ^ v.toNat = tp a) := Lib.hid (by rw [← hv, ← hL]; exact tp_shl (by omega))
 have hv1 : 0 ≤ v := by omega
 have hv2 : v ≤ 64 := by omega
 have hT1 : 9223372036854775808 ≤ T := by omega
 have hT2 : T < 18446744073709551616 := by omega
 have HG2 := Lib.hid g2; clear hN hE ha hs hL hx hr hT hv g1 g2 hl0
 go_enter Tryz.func89, Tryz.ntmps89
 go_upto_region 1 with (fail)
 generalize hW1 : (w.alloc _).alloc _ = w1 at *; obtain ⟨X1, XR, HB⟩ := Bo.en2 hW1; replace h := h.below HB.out; clear hW1; have xX1 := X1.cell
 go_wp2_with fail
 refine (q3Make h hn HN.out HE.out).mono ?_; rintro ee w2 ⟨s1, A1, n1, c1, rfl, p1, k1, B⟩; clear xX1; replace X1 := X1.below B; replace XR := XR.below B; replace h := h.below B; replace HB := Hqb HB B; clear B
 go_upto_region 2 with (fail)
 have lX5 := Nat.le_refl (World.heap w2).size; have nX5X1 := X1.lt; have nX5XR := XR.lt; generalize hWn : w2.alloc _ = w3 at *; obtain ⟨X5, BW⟩ := Bo.nw hWn; clear hWn; replace X1 := X1.below BW; replace XR := XR.below BW; replace p1 := p1.below BW; replace HB := Hqb HB BW; clear BW; clear lX5
 obtain rfl : s1 = sg0 := p1.2.trans HSG.out
 have p2 : Nm w3 A1 n1 c1 a := HA.out ▸ p1.1
 have hbl := p2.rd.blen_le
 have hn1 : n1 ≤ 100000 := by omega
 have hpos : 0 < n1 := p2.pos.2 (by omega)
 clear p1 HSG
 have e0 : ((n1 : Int) == 0) = false := by
   have : (n1 : Int) ≠ 0 := by omega
   simpa using this
 have hbg : n1 ≤ 1099511627776 := by omega
 have f1 : (s1 != s1) = false := by cases s1 <;> rfl
 have f2 : (!s1 != s1) = true := by cases s1 <;> rfl
 have f3 : (s1 == s1) = true := by cases s1 <;> rfl
 have f4 : ((!s1) == s1) = false := by cases s1 <;> rfl
 have xX5 := X5.cell
 go_wp2_with fail
 refine (rLen p2.rd HL.out).mono ?_; rintro ee w4 ⟨rfl, B⟩; clear xX5; replace XR := XR.below B; replace X5 := X5.below B; replace p2 := p2.below B; replace HB := Hqb HB B; clear B; have xX5 := X5.cell
 go_upto_region 7 with (fail)
 clear xX5; refine Jo.rk [0, 1, 2, 3, 4, 5, 6, 7, 8, 9, 10, 11, 12, 13, 14, 15, 16] [some 32, some 33, some 34, some 35, some 36, some 37, some 38, some 39, some 40, some 41, some 42, some 43, some 44, some 45, some 46, some 47, some 48, none] [[], [0], [1], [], [3], [4], [], [6], [5, 7], [8], [], [10], [], [11, 12], [13], [], [2, 9, 14, 15], []] 18 1 [Jo.qp w2.heap.size 0, Jo.qp w2.heap.size 0, Jo.qb s1, Jo.qp w2.heap.size 0, Jo.qp w2.heap.size 1, Jo.Fact.eq (.slice A1 n1 c1), Jo.qi L, Jo.qi v, Jo.Fact.nm (tp a) 100100, Jo.Fact.eq (.int .u64 T), Jo.qp w2.heap.size 2, Jo.qi E, Jo.qi L, Jo.Fact.eq (.int .i64 (E + L)), Jo.qi x, Jo.qb true, Jo.Fact.num r, Jo.Fact.any] (by kernel_rfl) (by kernel_rfl) (by decide) rfl ?_ ?_
 · iterate 2 (refine Jo.jm rfl ?_ ?_; rotate_left)
   refine Jo.jm rfl ?_ ?_
   · rintro wj hJ _ rfl K hK; simp only [Jo.z] at hK ⊢; have xX50 := (X5.below hJ).a 0 (.bool s1) rfl; go_simp; exact hK.out _ _ rfl (br _ _)
   iterate 2 (refine Jo.jm rfl ?_ ?_; rotate_left)
   refine Jo.jm rfl ?_ ?_
   · rintro wj hJ _ rfl K hK; simp only [Jo.z] at hK ⊢; have xX51 := (X5.below hJ).a 1 (.slice A1 n1 c1) rfl; go_simp; exact hK.out _ _ rfl (br _ _)
   refine Jo.jm rfl ?_ ?_; rotate_left
   refine Jo.jm rfl ?_ ?_
   · rintro wj hJ _ rfl K hK; simp only [Jo.z] at hK ⊢; have hv := HV.out; go_simp; exact hK.out _ _ rfl (br _ _)
   refine Jo.jm rfl ?_ ?_
   · rintro wj hJ _ rfl _ rfl K hK; simp only [Jo.z] at hK ⊢; go_simp; refine (rShlN (p2.below hJ).rd (by omega) hv1 (by omega) HSH.out).mono ?_; rintro ee wk ⟨A3, n3, c3, rfl, p3, k3, B⟩; exact hK.out _ _ ⟨A3, n3, c3, rfl, p3, by omega⟩ B
   refine Jo.jm rfl ?_ ?_
   · rintro wj hJ _ ⟨A3, n3, c3, rfl, p3, k3⟩ K hK; simp only [Jo.z] at hK ⊢; go_simp; refine (yWord p3 HG2.out HT.out).mono ?_; rintro ee wk ⟨rfl, B⟩; exact hK.out _ _ rfl B
   refine Jo.jm rfl ?_ ?_; rotate_left
   refine Jo.jm rfl ?_ ?_
   · rintro wj hJ _ rfl K hK; simp only [Jo.z] at hK ⊢; have xX52 := (X5.below hJ).a 2 (.int .i64 E) rfl; go_simp; exact hK.out _ _ rfl (br _ _)
   refine Jo.jm rfl ?_ ?_; rotate_left
   refine Jo.jm rfl ?_ ?_
   · rintro wj hJ _ rfl _ rfl K hK; simp only [Jo.z] at hK ⊢; have hx1 := HX1.out; go_simp; exact hK.out _ _ rfl (br _ _)
   refine Jo.jm rfl ?_ ?_
   · rintro wj hJ _ rfl K hK; simp only [Jo.z] at hK ⊢; have hx2 := HX2.out; go_simp; exact hK.out _ _ rfl (br _ _)
   refine Jo.jm rfl ?_ ?_; rotate_left
   refine Jo.jm rfl ?_ ?_
   · rintro wj hJ _ rfl _ rfl _ rfl _ rfl K hK; simp only [Jo.z] at hK ⊢; go_simp; refine (yFin hT1 hT2 HR.out).mono ?_; rintro ee wk ⟨K4, s4, M4, E4, rfl, q4, B⟩; exact hK.out _ _ ⟨K4, s4, M4, E4, rfl, q4⟩ B
   exact Jo.Steps.nil
   all_goals (rintro wj hJ; (repeat rintro _ rfl); intro K hK; simp only [Jo.z] at hK ⊢; go_simp; exact hK.out _ _ rfl (br _ _))
 rintro w5 hJ _ _ _ _ _ rfl _ _ _ _ _ rfl _ rfl _ rfl _ ⟨A3, n3, c3, rfl, _, _⟩ _ rfl _ _ _ rfl _ rfl _ rfl _ rfl _ rfl _ ⟨K4, s4, M4, E4, rfl, q4⟩ -; simp only [Jo.z]; replace XR := XR.below hJ; replace X5 := X5.below hJ; replace p2 := p2.below hJ; replace HB := Hqb HB hJ; have xXR := XR.cell; have zXR0 := XR.frozen
 refine Jo.jnext (i := 17) (o := ⟨none, _, _, _, _, _⟩) (by kernel_rfl) rfl (fun K hK => ?_)
 go_simp; refine hK.out _ _ ?_; clear hK K xXR zXR0; have SX := StN.mk4 XR (.int .i64 K4) (.bool s4) (.int .u64 M4) (.int .i64 E4); refine Jo.jdone (by kernel_rfl) ?_; go_wp2; exact bodyPost_ret (by simp [results, Tryz.results89, go_sem, SX.box.cell]) rfl ⟨_, _, _, _, rfl, q4, (SX.below HB.out (by omega))⟩
theorem yround_bs {w : World} {A : Option Addr} {n c a : Nat} {s sg0 : Bool} {z e N E L x r : Int} (h : Wr w s A n c z) (hn : n ≤ 100000) (hN : (mk z e).1 = N) (hE : (mk z e).2 = E) (ha : N.natAbs = a) (hs : decide (N < 0) = sg0) (h0 : a ≠ 0) (hL : ((blen a : Nat) : Int) = L) (hl : 64 < L) (hx : E + L - 64 = x) (hb : L ≤ 3200000) (hr : fin sg0 (tp a) x false = r) :
   Calls Tryz.prog 89 #[.agg #[.bool s, .slice A n c, .int .i64 e], .bool sg0] w (PN w r) := by
 obtain ⟨b1, b2⟩ := mk_bd z e; rw [hE] at b1 b2; have HN := Lib.hid hN; have HE := Lib.hid hE; have HA := Lib.hid ha; have HSG := Lib.hid hs; have HL := Lib.hid hL
 have hl0 : blen a ≠ 0 := fun e => h0 (blen_eq_zero.1 e)
 have g1 := tp_ge h0; have g2 := tp_lt a
 have HX1 : Hid (IntKind.i64.wrap (E + L) = E + L) := Lib.hid (IntWalk.i64_in _ (by omega))
 have HX2 : Hid (IntKind.i64.wrap (E + L - 64) = x) := Lib.hid (by rw [hx]; exact IntWalk.i64_in _ (by omega))
 obtain ⟨v, hv⟩ : ∃ v, L - 64 = v := ⟨_, rfl⟩
 have HV : Hid (IntKind.i64.wrap (L - 64) = v) := Lib.hid (by rw [hv]; exact IntWalk.i64_in _ (by omega))
 have HSH : Hid (a / 2 ^ v.toNat = tp a) := Lib.hid (by rw [← hv, ← hL]; exact tp_one (by omega))
 obtain ⟨T, hT⟩ : ∃ T, ((tp a : Nat) : Int) = T := ⟨_, rfl⟩; rw [hT] at hr; have HT := Lib.hid hT; have HR := Lib.hid hr
 have hT1 : 9223372036854775808 ≤ T := by omega
 have hT2 : T < 18446744073709551616 := by omega
 have HG2 := Lib.hid g2; clear hN hE ha hs hL hx hr hT hv g1 g2 hl0
 go_enter Tryz.func89, Tryz.ntmps89
 go_upto_region 1 with (fail)
 generalize hW1 : (w.alloc _).alloc _ = w1 at *; obtain ⟨X1, XR, HB⟩ := Bo.en2 hW1; replace h := h.below HB.out; clear hW1; have xX1 := X1.cell
 go_wp2_with fail
 refine (q3Make h hn HN.out HE.out).mono ?_; rintro ee w2 ⟨s1, A1, n1, c1, rfl, p1, k1, B⟩; clear xX1; replace X1 := X1.below B; replace XR := XR.below B; replace h := h.below B; replace HB := Hqb HB B; clear B
 go_upto_region 2 with (fail)
 have lX5 := Nat.le_refl (World.heap w2).size; have nX5X1 := X1.lt; have nX5XR := XR.lt; generalize hWn : w2.alloc _ = w3 at *; obtain ⟨X5, BW⟩ := Bo.nw hWn; clear hWn; replace X1 := X1.below BW; replace XR := XR.below BW; replace p1 := p1.below BW; replace HB := Hqb HB BW; clear BW; clear lX5
 obtain rfl : s1 = sg0 := p1.2.trans HSG.out
 have p2 : Nm w3 A1 n1 c1 a := HA.out ▸ p1.1
 have hbl := p2.rd.blen_le
 have hn1 : n1 ≤ 100000 := by omega
 have hpos : 0 < n1 := p2.pos.2 (by omega)
 clear p1 HSG
 have e0 : ((n1 : Int) == 0) = false := by
   have : (n1 : Int) ≠ 0 := by omega
   simpa using this
 have hbg : n1 ≤ 1099511627776 := by omega
 have f1 : (s1 != s1) = false := by cases s1 <;> rfl
 have f2 : (!s1 != s1) = true := by cases s1 <;> rfl
 have f3 : (s1 == s1) = true := by cases s1 <;> rfl
 have f4 : ((!s1) == s1) = false := by cases s1 <;> rfl
 have xX5 := X5.cell
 go_wp2_with fail
 refine (rLen p2.rd HL.out).mono ?_; rintro ee w4 ⟨rfl, B⟩; clear xX5; replace XR := XR.below B; replace X5 := X5.below B; replace p2 := p2.below B; replace HB := Hqb HB B; clear B; have xX5 := X5.cell; have hv := HV.out
 go_wp2_with fail
 refine (rShrP v p2.rd (by omega)).mono ?_; rintro ee w5 ⟨A3, n3, c3, rfl, p3, k3, B⟩; clear xX5; replace XR := XR.below B; replace X5 := X5.below B; replace p2 := p2.below B; replace HB := Hqb HB B; clear B hv; rw [HSH.out] at p3; have xX5 := X5.cell; have hx1 := HX1.out; have hx2 := HX2.out
 go_upto_region 15 with (fail)
 clear hx1 hx2; clear xX5; have p9 := p3; refine Jo.rk [0, 1, 2, 3, 4, 5, 6, 7] [some 71, some 72, some 73, some 74, some 75, some 76, some 77, some 78, none] [[], [0], [1], [], [3], [], [], [2, 4, 5, 6], []] 9 1 [Jo.qp w2.heap.size 0, Jo.qp w2.heap.size 0, Jo.qb s1, Jo.Fact.eq (.slice A3 n3 c3), Jo.Fact.eq (.int .u64 T), Jo.qi x, Jo.qb false, Jo.Fact.num r, Jo.Fact.any] (by kernel_rfl) (by kernel_rfl) (by decide) rfl ?_ ?_
 · iterate 2 (refine Jo.jm rfl ?_ ?_; rotate_left)
   refine Jo.jm rfl ?_ ?_
   · rintro wj hJ _ rfl K hK; simp only [Jo.z] at hK ⊢; have xX50 := (X5.below hJ).a 0 (.bool s1) rfl; go_simp; exact hK.out _ _ rfl (br _ _)
   refine Jo.jm rfl ?_ ?_; rotate_left
   refine Jo.jm rfl ?_ ?_
   · rintro wj hJ _ rfl K hK; simp only [Jo.z] at hK ⊢; go_simp; refine (yWord (p9.below hJ) HG2.out HT.out).mono ?_; rintro ee wk ⟨rfl, B⟩; exact hK.out _ _ rfl B
   iterate 2 (refine Jo.jm rfl ?_ ?_; rotate_left)
   refine Jo.jm rfl ?_ ?_
   · rintro wj hJ _ rfl _ rfl _ rfl _ rfl K hK; simp only [Jo.z] at hK ⊢; go_simp; refine (yFin hT1 hT2 HR.out).mono ?_; rintro ee wk ⟨K4, s4, M4, E4, rfl, q4, B⟩; exact hK.out _ _ ⟨K4, s4, M4, E4, rfl, q4⟩ B
   exact Jo.Steps.nil
   all_goals (rintro wj hJ; (repeat rintro _ rfl); intro K hK; simp only [Jo.z] at hK ⊢; go_simp; exact hK.out _ _ rfl (br _ _))
 rintro w8 hJ _ _ _ _ _ rfl _ rfl _ rfl _ rfl _ rfl _ ⟨K4, s4, M4, E4, rfl, q4⟩ -; simp only [Jo.z]; replace XR := XR.below hJ; replace X5 := X5.below hJ; replace p9 := p9.below hJ; replace HB := Hqb HB hJ; have xXR := XR.cell; have zXR0 := XR.frozen
 refine Jo.jnext (i := 8) (o := ⟨none, _, _, _, _, _⟩) (by kernel_rfl) rfl (fun K hK => ?_)
 go_simp; refine hK.out _ _ ?_; clear hK K xXR zXR0; have SX := StN.mk4 XR (.int .i64 K4) (.bool s4) (.int .u64 M4) (.int .i64 E4); refine Jo.jdone (by kernel_rfl) ?_; go_wp2; exact bodyPost_ret (by simp [results, Tryz.results89, go_sem, SX.box.cell]) rfl ⟨_, _, _, _, rfl, q4, (SX.below HB.out (by omega))⟩
theorem yround_bd {w : World} {A : Option Addr} {n c a : Nat} {s sg0 : Bool} {z e N E L x r : Int} (h : Wr w s A n c z) (hn : n ≤ 100000) (hN : (mk z e).1 = N) (hE : (mk z e).2 = E) (ha : N.natAbs = a) (hs : decide (N < 0) = sg0) (h0 : a ≠ 0) (hL : ((blen a : Nat) : Int) = L) (hl : 64 < L) (hx : E + L - 64 = x) (hb : L ≤ 3200000) (hc : tp a + 1 < 2 ^ 64) (hr : fin sg0 ((tp a + 1 : Nat) : Int) x true = r) :
   Calls Tryz.prog 89 #[.agg #[.bool s, .slice A n c, .int .i64 e], .bool (!sg0)] w (PN w r) := by
 obtain ⟨b1, b2⟩ := mk_bd z e; rw [hE] at b1 b2; have HN := Lib.hid hN; have HE := Lib.hid hE; have HA := Lib.hid ha; have HSG := Lib.hid hs; have HL := Lib.hid hL
 have hl0 : blen a ≠ 0 := fun e => h0 (blen_eq_zero.1 e)
 have g1 := tp_ge h0; have g2 := tp_lt a
 have HX1 : Hid (IntKind.i64.wrap (E + L) = E + L) := Lib.hid (IntWalk.i64_in _ (by omega))
 have HX2 : Hid (IntKind.i64.wrap (E + L - 64) = x) := Lib.hid (by rw [hx]; exact IntWalk.i64_in _ (by omega))
 obtain ⟨v, hv⟩ : ∃ v, L - 64 = v := ⟨_, rfl⟩
 have HV : Hid (IntKind.i64.wrap (L - 64) = v) := Lib.hid (by rw [hv]; exact IntWalk.i64_in _ (by omega))
 have HSH : Hid (a / 2 ^ v.toNat = tp a) := Lib.hid (by rw [← hv, ← hL]; exact tp_one (by omega))
 obtain ⟨U, hU⟩ : ∃ U, tp a + 1 = U := ⟨_, rfl⟩; have HU := Lib.hid hU; rw [hU] at hr hc; obtain ⟨T, hT⟩ : ∃ T, ((U : Nat) : Int) = T := ⟨_, rfl⟩; rw [hT] at hr; have HT := Lib.hid hT; have HR := Lib.hid hr
 have hT1 : 9223372036854775808 ≤ T := by omega
 have hT2 : T < 18446744073709551616 := by omega
 have HG2 := Lib.hid hc; obtain ⟨ℓ, hℓ⟩ : ∃ ℓ, ((blen U : Nat) : Int) = ℓ := ⟨_, rfl⟩
 have hℓ2 : ℓ ≤ 64 := by
   have := blen_mono_le hc
   omega
 have HLU := Lib.hid hℓ; clear hN hE ha hs hL hx hr hT hv g1 g2 hl0 hc hU hℓ
 go_enter Tryz.func89, Tryz.ntmps89
 go_upto_region 1 with (fail)
 generalize hW1 : (w.alloc _).alloc _ = w1 at *; obtain ⟨X1, XR, HB⟩ := Bo.en2 hW1; replace h := h.below HB.out; clear hW1; have xX1 := X1.cell
 go_wp2_with fail
 refine (q3Make h hn HN.out HE.out).mono ?_; rintro ee w2 ⟨s1, A1, n1, c1, rfl, p1, k1, B⟩; clear xX1; replace X1 := X1.below B; replace XR := XR.below B; replace h := h.below B; replace HB := Hqb HB B; clear B
 go_upto_region 2 with (fail)
 have lX5 := Nat.le_refl (World.heap w2).size; have nX5X1 := X1.lt; have nX5XR := XR.lt; generalize hWn : w2.alloc _ = w3 at *; obtain ⟨X5, BW⟩ := Bo.nw hWn; clear hWn; replace X1 := X1.below BW; replace XR := XR.below BW; replace p1 := p1.below BW; replace HB := Hqb HB BW; clear BW; clear lX5
 obtain rfl : s1 = sg0 := p1.2.trans HSG.out
 have p2 : Nm w3 A1 n1 c1 a := HA.out ▸ p1.1
 have hbl := p2.rd.blen_le
 have hn1 : n1 ≤ 100000 := by omega
 have hpos : 0 < n1 := p2.pos.2 (by omega)
 clear p1 HSG
 have e0 : ((n1 : Int) == 0) = false := by
   have : (n1 : Int) ≠ 0 := by omega
   simpa using this
 have hbg : n1 ≤ 1099511627776 := by omega
 have f1 : (s1 != s1) = false := by cases s1 <;> rfl
 have f2 : (!s1 != s1) = true := by cases s1 <;> rfl
 have f3 : (s1 == s1) = true := by cases s1 <;> rfl
 have f4 : ((!s1) == s1) = false := by cases s1 <;> rfl
 have xX5 := X5.cell
 go_wp2_with fail
 refine (rLen p2.rd HL.out).mono ?_; rintro ee w4 ⟨rfl, B⟩; clear xX5; replace XR := XR.below B; replace X5 := X5.below B; replace p2 := p2.below B; replace HB := Hqb HB B; clear B; have xX5 := X5.cell; have hv := HV.out
 go_wp2_with fail
 refine (rShrP v p2.rd (by omega)).mono ?_; rintro ee w5 ⟨A3, n3, c3, rfl, p3, k3, B⟩; clear xX5; replace XR := XR.below B; replace X5 := X5.below B; replace p2 := p2.below B; replace HB := Hqb HB B; clear B hv; rw [HSH.out] at p3; have xX5 := X5.cell; have hx1 := HX1.out; have hx2 := HX2.out
 go_wp2_with fail
 clear hx1 hx2; refine (rAddE (p3.rd.below (bel1 _ _)) (one_rd _) (by omega) (by omega) HU.out).mono ?_; rintro ee w6 ⟨A4, n4, c4, rfl, p4, k4, B⟩; replace B := bt (bel1 _ _) B; clear xX5; replace XR := XR.below B; replace X5 := X5.below B; replace p3 := p3.below B; replace HB := Hqb HB B; clear B
 have hn3 : n3 ≤ 100000 := by omega
 go_wp2_with fail
 refine (rLen p4.rd HLU.out).mono ?_; rintro ee w7 ⟨rfl, B⟩; replace XR := XR.below B; replace X5 := X5.below B; replace p4 := p4.below B; replace HB := Hqb HB B; clear B
 go_upto_region 15 with (fail)
 have p9 := p4; refine Jo.rk [0, 1, 2, 3, 4, 5, 6, 7] [some 71, some 72, some 73, some 74, some 75, some 76, some 77, some 78, none] [[], [0], [1], [], [3], [], [], [2, 4, 5, 6], []] 9 1 [Jo.qp w2.heap.size 0, Jo.qp w2.heap.size 0, Jo.qb s1, Jo.Fact.eq (.slice A4 n4 c4), Jo.Fact.eq (.int .u64 T), Jo.qi x, Jo.qb true, Jo.Fact.num r, Jo.Fact.any] (by kernel_rfl) (by kernel_rfl) (by decide) rfl ?_ ?_
 · iterate 2 (refine Jo.jm rfl ?_ ?_; rotate_left)
   refine Jo.jm rfl ?_ ?_
   · rintro wj hJ _ rfl K hK; simp only [Jo.z] at hK ⊢; have xX50 := (X5.below hJ).a 0 (.bool s1) rfl; go_simp; exact hK.out _ _ rfl (br _ _)
   refine Jo.jm rfl ?_ ?_; rotate_left
   refine Jo.jm rfl ?_ ?_
   · rintro wj hJ _ rfl K hK; simp only [Jo.z] at hK ⊢; go_simp; refine (yWord (p9.below hJ) HG2.out HT.out).mono ?_; rintro ee wk ⟨rfl, B⟩; exact hK.out _ _ rfl B
   iterate 2 (refine Jo.jm rfl ?_ ?_; rotate_left)
   refine Jo.jm rfl ?_ ?_
   · rintro wj hJ _ rfl _ rfl _ rfl _ rfl K hK; simp only [Jo.z] at hK ⊢; go_simp; refine (yFin hT1 hT2 HR.out).mono ?_; rintro ee wk ⟨K4, s4, M4, E4, rfl, q4, B⟩; exact hK.out _ _ ⟨K4, s4, M4, E4, rfl, q4⟩ B
   exact Jo.Steps.nil
   all_goals (rintro wj hJ; (repeat rintro _ rfl); intro K hK; simp only [Jo.z] at hK ⊢; go_simp; exact hK.out _ _ rfl (br _ _))
 rintro w8 hJ _ _ _ _ _ rfl _ rfl _ rfl _ rfl _ rfl _ ⟨K4, s4, M4, E4, rfl, q4⟩ -; simp only [Jo.z]; replace XR := XR.below hJ; replace X5 := X5.below hJ; replace p9 := p9.below hJ; replace HB := Hqb HB hJ; have xXR := XR.cell; have zXR0 := XR.frozen
 refine Jo.jnext (i := 8) (o := ⟨none, _, _, _, _, _⟩) (by kernel_rfl) rfl (fun K hK => ?_)
 go_simp; refine hK.out _ _ ?_; clear hK K xXR zXR0; have SX := StN.mk4 XR (.int .i64 K4) (.bool s4) (.int .u64 M4) (.int .i64 E4); refine Jo.jdone (by kernel_rfl) ?_; go_wp2; exact bodyPost_ret (by simp [results, Tryz.results89, go_sem, SX.box.cell]) rfl ⟨_, _, _, _, rfl, q4, (SX.below HB.out (by omega))⟩
theorem yround_bc {w : World} {A : Option Addr} {n c a : Nat} {s sg0 : Bool} {z e N E L x r : Int} (h : Wr w s A n c z) (hn : n ≤ 100000) (hN : (mk z e).1 = N) (hE : (mk z e).2 = E) (ha : N.natAbs = a) (hs : decide (N < 0) = sg0) (h0 : a ≠ 0) (hL : ((blen a : Nat) : Int) = L) (hl : 64 < L) (hx : E + L - 64 = x) (hb : L ≤ 3200000) (hc : tp a + 1 = 2 ^ 64) (hr : fin sg0 9223372036854775808 (x + 1) true = r) :
   Calls Tryz.prog 89 #[.agg #[.bool s, .slice A n c, .int .i64 e], .bool (!sg0)] w (PN w r) := by
 obtain ⟨b1, b2⟩ := mk_bd z e; rw [hE] at b1 b2; have HN := Lib.hid hN; have HE := Lib.hid hE; have HA := Lib.hid ha; have HSG := Lib.hid hs; have HL := Lib.hid hL
 have hl0 : blen a ≠ 0 := fun e => h0 (blen_eq_zero.1 e)
 have g1 := tp_ge h0; have g2 := tp_lt a
 have HX1 : Hid (IntKind.i64.wrap (E + L) = E + L) := Lib.hid (IntWalk.i64_in _ (by omega))
 have HX2 : Hid (IntKind.i64.wrap (E + L - 64) = x) := Lib.hid (by rw [hx]; exact IntWalk.i64_in _ (by omega))
 obtain ⟨v, hv⟩ : ∃ v, L - 64 = v := ⟨_, rfl⟩
 have HV : Hid (IntKind.i64.wrap (L - 64) = v) := Lib.hid (by rw [hv]; exact IntWalk.i64_in _ (by omega))
 have HSH : Hid (a / 2 ^ v.toNat = tp a) := Lib.hid (by rw [← hv, ← hL]; exact tp_one (by omega))
 obtain ⟨U, hU⟩ : ∃ U, tp a + 1 = U := ⟨_, rfl⟩; have HU := Lib.hid hU; rw [hU] at hc; have HR := Lib.hid hr
 have hT1 : (9223372036854775808 : Int) ≤ 9223372036854775808 := by decide
 have hT2 : (9223372036854775808 : Int) < 18446744073709551616 := by decide
 have hc2 : U = 18446744073709551616 := hc
 have HG2 : Hid (9223372036854775808 < 18446744073709551616) := Lib.hid (by decide)
 have HW3 : Hid (IntKind.i64.wrap (x + 1) = x + 1) := Lib.hid (IntWalk.i64_in _ (by omega))
 have HLU : Hid (((blen U : Nat) : Int) = 65) := Lib.hid (by rw [hc, blen_pow]; rfl)
 have HDV : Hid (U / 2 ^ (1 : Int).toNat = 9223372036854775808) := Lib.hid (by rw [hc2]; decide)
 clear hN hE ha hs hL hx hr hv g1 g2 hl0 hc hU hc2
 go_enter Tryz.func89, Tryz.ntmps89
 go_upto_region 1 with (fail)
 generalize hW1 : (w.alloc _).alloc _ = w1 at *; obtain ⟨X1, XR, HB⟩ := Bo.en2 hW1; replace h := h.below HB.out; clear hW1; have xX1 := X1.cell
 go_wp2_with fail
 refine (q3Make h hn HN.out HE.out).mono ?_; rintro ee w2 ⟨s1, A1, n1, c1, rfl, p1, k1, B⟩; clear xX1; replace X1 := X1.below B; replace XR := XR.below B; replace h := h.below B; replace HB := Hqb HB B; clear B
 go_upto_region 2 with (fail)
 have lX5 := Nat.le_refl (World.heap w2).size; have nX5X1 := X1.lt; have nX5XR := XR.lt; generalize hWn : w2.alloc _ = w3 at *; obtain ⟨X5, BW⟩ := Bo.nw hWn; clear hWn; replace X1 := X1.below BW; replace XR := XR.below BW; replace p1 := p1.below BW; replace HB := Hqb HB BW; clear BW; clear lX5
 obtain rfl : s1 = sg0 := p1.2.trans HSG.out
 have p2 : Nm w3 A1 n1 c1 a := HA.out ▸ p1.1
 have hbl := p2.rd.blen_le
 have hn1 : n1 ≤ 100000 := by omega
 have hpos : 0 < n1 := p2.pos.2 (by omega)
 clear p1 HSG
 have e0 : ((n1 : Int) == 0) = false := by
   have : (n1 : Int) ≠ 0 := by omega
   simpa using this
 have hbg : n1 ≤ 1099511627776 := by omega
 have f1 : (s1 != s1) = false := by cases s1 <;> rfl
 have f2 : (!s1 != s1) = true := by cases s1 <;> rfl
 have f3 : (s1 == s1) = true := by cases s1 <;> rfl
 have f4 : ((!s1) == s1) = false := by cases s1 <;> rfl
 have xX5 := X5.cell
 go_wp2_with fail
 refine (rLen p2.rd HL.out).mono ?_; rintro ee w4 ⟨rfl, B⟩; clear xX5; replace XR := XR.below B; replace X5 := X5.below B; replace p2 := p2.below B; replace HB := Hqb HB B; clear B; have xX5 := X5.cell; have hv := HV.out
 go_wp2_with fail
 refine (rShrP v p2.rd (by omega)).mono ?_; rintro ee w5 ⟨A3, n3, c3, rfl, p3, k3, B⟩; clear xX5; replace XR := XR.below B; replace X5 := X5.below B; replace p2 := p2.below B; replace HB := Hqb HB B; clear B hv; rw [HSH.out] at p3; have xX5 := X5.cell; have hx1 := HX1.out; have hx2 := HX2.out
 go_wp2_with fail
 clear hx1 hx2; refine (rAddE (p3.rd.below (bel1 _ _)) (one_rd _) (by omega) (by omega) HU.out).mono ?_; rintro ee w6 ⟨A4, n4, c4, rfl, p4, k4, B⟩; replace B := bt (bel1 _ _) B; clear xX5; replace XR := XR.below B; replace X5 := X5.below B; replace p3 := p3.below B; replace HB := Hqb HB B; clear B
 have hn3 : n3 ≤ 100000 := by omega
 go_wp2_with fail
 refine (rLen p4.rd HLU.out).mono ?_; rintro ee w7 ⟨rfl, B⟩; replace XR := XR.below B; replace X5 := X5.below B; replace p4 := p4.below B; replace HB := Hqb HB B; clear B
 go_wp2_with fail
 refine (rShrP 1 p4.rd (by omega)).mono ?_; rintro ee w71 ⟨A5, n5, c5, rfl, p5, k5, B⟩; replace XR := XR.below B; replace X5 := X5.below B; replace p4 := p4.below B; replace HB := Hqb HB B; clear B; rw [HDV.out] at p5; have hw3 := HW3.out
 go_upto_region 15 with (fail)
 clear hw3; have p9 := p5; refine Jo.rk [0, 1, 2, 3, 4, 5, 6, 7] [some 71, some 72, some 73, some 74, some 75, some 76, some 77, some 78, none] [[], [0], [1], [], [3], [], [], [2, 4, 5, 6], []] 9 1 [Jo.qp w2.heap.size 0, Jo.qp w2.heap.size 0, Jo.qb s1, Jo.Fact.eq (.slice A5 n5 c5), Jo.Fact.eq (.int .u64 9223372036854775808), Jo.Fact.eq (.int .i64 (x + 1)), Jo.qb true, Jo.Fact.num r, Jo.Fact.any] (by kernel_rfl) (by kernel_rfl) (by decide) rfl ?_ ?_
 · iterate 2 (refine Jo.jm rfl ?_ ?_; rotate_left)
   refine Jo.jm rfl ?_ ?_
   · rintro wj hJ _ rfl K hK; simp only [Jo.z] at hK ⊢; have xX50 := (X5.below hJ).a 0 (.bool s1) rfl; go_simp; exact hK.out _ _ rfl (br _ _)
   refine Jo.jm rfl ?_ ?_; rotate_left
   refine Jo.jm rfl ?_ ?_
   · rintro wj hJ _ rfl K hK; simp only [Jo.z] at hK ⊢; go_simp; refine (yWord (p9.below hJ) HG2.out rfl).mono ?_; rintro ee wk ⟨rfl, B⟩; exact hK.out _ _ rfl B
   iterate 2 (refine Jo.jm rfl ?_ ?_; rotate_left)
   refine Jo.jm rfl ?_ ?_
   · rintro wj hJ _ rfl _ rfl _ rfl _ rfl K hK; simp only [Jo.z] at hK ⊢; go_simp; refine (yFin hT1 hT2 HR.out).mono ?_; rintro ee wk ⟨K4, s4, M4, E4, rfl, q4, B⟩; exact hK.out _ _ ⟨K4, s4, M4, E4, rfl, q4⟩ B
   exact Jo.Steps.nil
   all_goals (rintro wj hJ; (repeat rintro _ rfl); intro K hK; simp only [Jo.z] at hK ⊢; go_simp; exact hK.out _ _ rfl (br _ _))
 rintro w8 hJ _ _ _ _ _ rfl _ rfl _ rfl _ rfl _ rfl _ ⟨K4, s4, M4, E4, rfl, q4⟩ -; simp only [Jo.z]; replace XR := XR.below hJ; replace X5 := X5.below hJ; replace p9 := p9.below hJ; replace HB := Hqb HB hJ; have xXR := XR.cell; have zXR0 := XR.frozen
 refine Jo.jnext (i := 8) (o := ⟨none, _, _, _, _, _⟩) (by kernel_rfl) rfl (fun K hK => ?_)
 go_simp; refine hK.out _ _ ?_; clear hK K xXR zXR0; have SX := StN.mk4 XR (.int .i64 K4) (.bool s4) (.int .u64 M4) (.int .i64 E4); refine Jo.jdone (by kernel_rfl) ?_; go_wp2; exact bodyPost_ret (by simp [results, Tryz.results89, go_sem, SX.box.cell]) rfl ⟨_, _, _, _, rfl, q4, (SX.below HB.out (by omega))⟩
theorem yRound {w : World} {A : Option Addr} {n c : Nat} {s up : Bool} {z e N E r : Int} (h : Wr w s A n c z) (hn : n ≤ 100000) (hN : (mk z e).1 = N) (hE : (mk z e).2 = E) (hr : rnd up N E = r) :
   Calls Tryz.prog 89 #[.agg #[.bool s, .slice A n c, .int .i64 e], .bool up] w (PN w r) := by
 obtain ⟨σ, hσ⟩ : ∃ σ, decide (N < 0) = σ := ⟨_, rfl⟩
 have hbl : blen N.natAbs ≤ 3200000 := by
   have hb := h.rd.blen_le
   have : blen N.natAbs ≤ blen z.natAbs := by
     rcases mk_cases z e with h0 | ⟨h0, h1, h2, h3, h4, h5, h6⟩
     · rw [h0] at hN; rw [← hN]; exact Nat.zero_le _
     · rw [hN] at h6 h4; rw [h6, natAbs_mul_pow, blen_mul (by omega)]
       omega
   omega
 by_cases h0 : N.natAbs = 0
 · have hN0 : N = 0 := by omega
   have : r = 0 := by
     rw [← hr, hN0, rnd_ext rfl]
     rfl
   rw [this]; exact yround_zero h hn hN hE rfl hσ h0
 · by_cases hs : σ = up
   · subst hs; rw [rnd_same hσ.symm rfl, ← fin_nc σ h0] at hr
     by_cases hl : blen N.natAbs ≤ 64
     · exact yround_ss h hn hN hE rfl hσ h0 rfl (by omega) rfl (by omega) hr
     · exact yround_bs h hn hN hE rfl hσ h0 rfl (by omega) rfl (by omega) hr
   · obtain rfl : (!σ) = up := by cases σ <;> cases up <;> first | rfl | exact absurd rfl hs
     rw [rnd_diff hσ.symm] at hr
     by_cases hl : blen N.natAbs ≤ 64
     · rw [← fin_small σ h0 hl] at hr; exact yround_sd h hn hN hE rfl hσ h0 rfl (by omega) rfl (by omega) hr
     · have g := tp_lt N.natAbs
       by_cases hc : tp N.natAbs + 1 < 2 ^ 64
       · rw [← fin_up σ (by omega) hc] at hr; exact yround_bd h hn hN hE rfl hσ h0 rfl (by omega) rfl (by omega) hc hr
       · rw [← fin_carry σ (by omega) (by omega)] at hr; exact yround_bc h hn hN hE rfl hσ h0 rfl (by omega) rfl (by omega) (by omega) hr
theorem of_rnd {n : Int} (h1 : -9223372036854775808 ≤ n) (h2 : n ≤ 9223372036854775807) : rnd true (mk n 0).1 (mk n 0).2 = sgi (decide (n < 0)) (lo n.natAbs 0) := by
 by_cases h0 : n = 0
 · subst h0; rw [mk_zero]; rw [rnd_ext rfl]
 · have hv := v2_pow_le (n := n.natAbs) (by omega)
   have hv2 : v2 n.natAbs < 64 := by
     have : 2 ^ v2 n.natAbs < 2 ^ 64 := by omega
     exact (Nat.pow_lt_pow_iff_right (a := 2) (by decide)).1 this
   obtain ⟨e1, e2, e3, e4, e5⟩ := mk_in (z := n) (e := 0) h0 (by decide) (by omega)
   revert e1 e3 e4 e5
   generalize mk n 0 = p; obtain ⟨N, E⟩ := p
   intro e1 e3 e4 e5
   simp only at e1 e3 e4 e5 ⊢
   have ea : n.natAbs = N.natAbs * 2 ^ v2 n.natAbs := by
     have := congrArg Int.natAbs e5
     rwa [natAbs_mul_pow] at this
   have hN0 : N.natAbs ≠ 0 := by omega
   have hbl : blen N.natAbs + v2 n.natAbs ≤ 64 := by
     have b1 := blen_mul hN0 (v2 n.natAbs); have b2 := blen_mono_le (n := n.natAbs) (k := 64) (by omega); rw [← ea] at b1
     omega
   have hx : ext N.natAbs E = true := by
     have e0 : (N.natAbs == 0) = false := by simpa using hN0
     unfold ext xp
     rw [e0, Bool.false_or, decide_eq_true (by omega), decide_eq_true (by omega), decide_eq_true (by omega)]
     rfl
   rw [rnd_ext hx, show decide (N < 0) = decide (n < 0) by simp only [e3]]
   congr 1
   have := lo_mul hN0 (v2 n.natAbs) 0
   rw [← ea] at this; rw [this, e1]
theorem yOf {n r : Int} (w : World) (h1 : -9223372036854775808 ≤ n) (h2 : n ≤ 9223372036854775807) (hr : sgi (decide (n < 0)) (lo n.natAbs 0) = r) : Calls Tryz.prog 48 #[.int .i64 n] w (PN w r) := by
 have HR := Lib.hid ((of_rnd h1 h2).trans hr); clear hr; obtain ⟨N, hN⟩ : ∃ N, (mk n 0).1 = N := ⟨_, rfl⟩; obtain ⟨E, hE⟩ : ∃ E, (mk n 0).2 = E := ⟨_, rfl⟩
 have HR := Lib.hid (show rnd true (mk N E).1 (mk N E).2 = r by
   have := HR.out
   rw [← hN, ← hE, show mk (mk n 0).1 (mk n 0).2 = mk n 0 from mk_nf n 0]
   exact this)
 have HN := Lib.hid hN; have HE := Lib.hid hE; clear hN hE
 go_enter Tryz.func48, Tryz.ntmps48
 go_upto_region 1 with (fail)
 generalize hW1 : w.alloc _ = w1 at *; obtain ⟨XR, HB⟩ := Bo.en1 hW1; clear hW1
 go_wp2_with fail
 refine (qFrom n _ h1 h2).mono ?_; rintro ee w2 ⟨s1, A1, n1, c1, rfl, p1, k1, B⟩; replace XR := XR.below B; replace HB := Hqb HB B; clear B
 go_wp2_with fail
 refine (q3Make p1.wr (by omega) HN.out HE.out).mono ?_; rintro ee w3 ⟨s2, A2, n2, c2, rfl, p2, k2, B⟩; replace XR := XR.below B; replace p1 := p1.below B; replace HB := Hqb HB B; clear B
 go_wp2_with fail
 refine (yRound p2.wr (by omega) rfl rfl HR.out).mono ?_; rintro ee w4 ⟨K3, s3, M3, E3, rfl, q3, B⟩; replace XR := XR.below B; replace p2 := p2.below B; replace HB := Hqb HB B; clear B; have xXR := XR.cell; have zXR0 := XR.frozen; go_wp2; clear xXR zXR0; have SX := StN.mk4 XR (.int .i64 K3) (.bool s3) (.int .u64 M3) (.int .i64 E3); exact bodyPost_ret (by simp [results, Tryz.results48, go_sem, SX.box.cell]) rfl ⟨_, _, _, _, rfl, q3, (SX.below HB.out (by omega))⟩
theorem fdiv_bd (N : Int) {P : Int} (hP : 0 < P) : N.fdiv P * P ≤ N ∧ N < (N.fdiv P + 1) * P := by
 have h1 := Int.mul_fdiv_add_fmod N P; have h2 := Int.fmod_nonneg_of_pos N hP; have h3 := Int.fmod_lt_of_pos N hP; rw [Int.mul_comm] at h1; rw [Int.add_mul, Int.one_mul]
 omega
theorem nat_p2 (k : Nat) : ((2 ^ k : Nat) : Int) = 2 ^ k := by simp
theorem flr_vl {p : Int × Int} (hp : Nf p) : flr p.1 p.2 * 2 ^ KK ≤ vl p ∧ vl p < (flr p.1 p.2 + 1) * 2 ^ KK := by
 have b := hp.bd
 unfold flr vl
 by_cases hE : 0 ≤ p.2
 · rw [if_pos hE, nat_p2, Int.mul_assoc, ← Int.pow_add, show p.2.toNat + KK = (p.2 + KK).toNat by omega, Int.add_mul, Int.mul_assoc, ← Int.pow_add, show p.2.toNat + KK = (p.2 + KK).toNat by omega]
   have := p2pos KK
   omega
 · rw [if_neg hE, nat_p2]; obtain ⟨h1, h2⟩ := fdiv_bd p.1 (p2pos (-p.2).toNat)
   have hk : KK = (-p.2).toNat + (p.2 + KK).toNat := by rw [KK_eq]; omega
   have hq := p2pos (p.2 + KK).toNat
   have e : (2 : Int) ^ KK = 2 ^ (-p.2).toNat * 2 ^ (p.2 + KK).toNat := by rw [← Int.pow_add, ← hk]
   rw [e, ← Int.mul_assoc, ← Int.mul_assoc]; exact ⟨Int.mul_le_mul_of_nonneg_right h1 (by omega), Int.mul_lt_mul_of_pos_right h2 hq⟩
end Go.Proofs.YtmmallhniijdfaaGreatDoor

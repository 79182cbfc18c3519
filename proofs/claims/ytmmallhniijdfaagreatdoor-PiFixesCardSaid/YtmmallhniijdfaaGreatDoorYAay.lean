/-
 Contracts that the proof rests on.
-/
import Derived.Test.YtmmallhniijdfaaGreatDoorYAax
namespace Go.Proofs.YtmmallhniijdfaaGreatDoor
set_option maxHeartbeats 4000000
open Go.RowKit
set_option linter.unusedVariables false
set_option maxRecDepth 100000
theorem dfloor_up {w : World} {A : Option Addr} {n c : Nat} {s : Bool} {z e N1 E1 r : Int} (hT : Tab w) (h : Wr w s A n c z) (hn : n ≤ 100000) (HN1 : Hid ((mk z e).1 = N1)) (HE1 : Hid ((mk z e).2 = E1)) (h0 : 0 ≤ E1) (hb : E1 ≤ 4194304) (HR : Hid (N1 * ((2 ^ (E1 - 0).toNat : Nat) : Int) = r)) :
   Calls Tryz.prog 43 #[.agg #[.bool s, .slice A n c, .int .i64 e]] w (W1 w (n + 131100) r) := by
 go_enter Tryz.func43, Tryz.ntmps43
 go_upto_region 1 with (fail)
 generalize hW1 : (w.alloc _).alloc _ = w1 at *; obtain ⟨X1, XR, HB⟩ := Bo.en2 hW1; replace hT := hT.below HB.out; replace h := h.below HB.out; clear hW1; have xX1 := X1.cell
 go_wp2_with fail
 refine (dTaken hT h hn HN1.out HE1.out).mono ?_; rintro ee w2 ⟨s1, A1, n1, c1, rfl, p1, k1, B⟩; clear xX1; replace X1 := X1.below B; replace XR := XR.below B; replace hT := hT.below B; replace h := h.below B; replace HB := Hqb HB B; clear B; have xX1 := X1.cell; have zX10 := X1.frozen
 go_upto_region 2 with (fail)
 clear xX1 zX10; generalize hS : ((w2.setCell _ _).setCell _ _).setCell _ _ = w3 at *; have SX := StN.of3 X1 hS; replace XR := XR.stn SX (by omega); replace hT := hT.stn SX (by simp [no8]); replace h := h.stn SX (by simp [no32]); replace p1 := p1.stn SX (by simp [no32]); replace HB := Hqs HB SX (by omega); replace X1 := SX.box; clear SX hS; have xX1 := X1.cell
 go_wp2_with fail
 refine (dTimes p1 (by omega) h0 (by omega) HR.out).mono ?_; rintro ee w4 ⟨s4, A4, n4, c4, rfl, p4, k4, B⟩; clear xX1; replace X1 := X1.below B; replace XR := XR.below B; replace hT := hT.below B; replace h := h.below B; replace p1 := p1.below B; replace HB := Hqb HB B; clear B; have xXR := XR.cell; have zXR0 := XR.frozen; go_wp2; clear xXR zXR0; generalize hS : (w4.setCell _ _).setCell _ _ = w5 at *
 have SX := StN.of2 XR hS; replace X1 := X1.stn SX (by omega); replace p4 := p4.stn SX (by simp [no32]); replace HB := Hqs HB SX (by omega); replace XR := SX.box; clear SX hS
 have k0 : (E1 - 0).toNat / 32 ≤ 131072 := by omega
 exact bodyPost_ret (v := .agg #[.bool s4, .slice A4 n4 c4]) (by simp [results, Tryz.results43, go_sem, XR.cell]) rfl ⟨s4, A4, n4, c4, rfl, p4, by omega, HB.out⟩
theorem dfloor_neg {w : World} {A : Option Addr} {n c : Nat} {s : Bool} {z e N1 E1 r : Int} (hT : Tab w) (h : Wr w s A n c z) (hn : n ≤ 100000) (HN1 : Hid ((mk z e).1 = N1)) (HE1 : Hid ((mk z e).2 = E1)) (h0 : E1 < 0) (hb : -4194304 ≤ E1) (hs : N1 < 0) (HR : Hid (-((N1.natAbs / 2 ^ (-E1).toNat + 1 : Nat) : Int) = r)) :
   Calls Tryz.prog 43 #[.agg #[.bool s, .slice A n c, .int .i64 e]] w (W1 w (n + 131100) r) := by
 obtain ⟨d, hd⟩ : ∃ d, -E1 = d := ⟨_, rfl⟩; have HD := Lib.hid hd
 have hd0 : 0 ≤ d := by omega
 have hd1 : d ≤ 4194304 := by omega
 have HW : Hid (IntKind.i64.wrap (-E1) = d) := Lib.hid (by rw [hd]; exact IntWalk.i64_in _ (by omega))
 rw [hd] at HR; clear hd
 go_enter Tryz.func43, Tryz.ntmps43
 go_upto_region 1 with (fail)
 generalize hW1 : (w.alloc _).alloc _ = w1 at *; obtain ⟨X1, XR, HB⟩ := Bo.en2 hW1; replace hT := hT.below HB.out; replace h := h.below HB.out; clear hW1; have xX1 := X1.cell
 go_wp2_with fail
 refine (dTaken hT h hn HN1.out HE1.out).mono ?_; rintro ee w2 ⟨s1, A1, n1, c1, rfl, p1, k1, B⟩; clear xX1; replace X1 := X1.below B; replace XR := XR.below B; replace hT := hT.below B; replace h := h.below B; replace HB := Hqb HB B; clear B; have xX1 := X1.cell; have zX10 := X1.frozen
 go_upto_region 2 with (fail)
 clear xX1 zX10; generalize hS : ((w2.setCell _ _).setCell _ _).setCell _ _ = w3 at *; have SX := StN.of3 X1 hS; replace XR := XR.stn SX (by omega); replace hT := hT.stn SX (by simp [no8]); replace h := h.stn SX (by simp [no32]); replace p1 := p1.stn SX (by simp [no32]); replace HB := Hqs HB SX (by omega); replace X1 := SX.box; clear SX hS
 obtain rfl : s1 = true := by rw [p1.2]; simp; omega
 have xX1 := X1.cell; have hw := HW.out
 go_wp2_with fail
 refine (vShrE p1.1.rd (by clear hw; omega) rfl).mono ?_; rintro ee w4 ⟨A3, n3, c3, rfl, p3, k3, B⟩; clear xX1; replace X1 := X1.below B; replace XR := XR.below B; replace hT := hT.below B; replace h := h.below B; replace p1 := p1.below B; replace HB := Hqb HB B; clear B; clear hw; have xX1 := X1.cell
 go_wp2_with fail
 refine (vAdd (p3.rd.below (bel1 _ _)) (one_rd _) (by omega) (by omega)).mono ?_; rintro ee w5 ⟨A6, n6, c6, rfl, p6, k6, B⟩; replace B := bt (bel1 _ _) B; clear xX1; replace X1 := X1.below B; replace XR := XR.below B; replace p3 := p3.below B; replace HB := Hqb HB B; clear B; have xX1 := X1.cell
 go_wp2_with fail
 refine (wMake true p6.rd).mono ?_; rintro ee w6 ⟨s4, A4, n4, c4, rfl, p4, k4, B⟩; clear xX1; replace X1 := X1.below B; replace XR := XR.below B; replace p6 := p6.below B; replace HB := Hqb HB B; clear B
 replace p4 : Wn w6 s4 A4 n4 c4 r := by
   have e := HR.out; rw [← e]; exact p4
 have xXR := XR.cell; have zXR0 := XR.frozen; go_wp2; clear xXR zXR0; have SX := StN.mk2 XR (.bool s4) (.slice A4 n4 c4); replace p4 := p4.stn SX (by simp [no32]); exact bodyPost_ret (v := .agg #[.bool s4, .slice A4 n4 c4]) (by simp [results, Tryz.results43, go_sem, SX.box.cell]) rfl ⟨s4, A4, n4, c4, rfl, p4, by omega, (SX.below HB.out (by omega))⟩
theorem dfloor_pos {w : World} {A : Option Addr} {n c : Nat} {s : Bool} {z e N1 E1 r : Int} (hT : Tab w) (h : Wr w s A n c z) (hn : n ≤ 100000) (HN1 : Hid ((mk z e).1 = N1)) (HE1 : Hid ((mk z e).2 = E1)) (h0 : E1 < 0) (hb : -4194304 ≤ E1) (hs : 0 ≤ N1) (HR : Hid (((N1.natAbs / 2 ^ (-E1).toNat : Nat) : Int) = r)) :
   Calls Tryz.prog 43 #[.agg #[.bool s, .slice A n c, .int .i64 e]] w (W1 w (n + 131100) r) := by
 obtain ⟨d, hd⟩ : ∃ d, -E1 = d := ⟨_, rfl⟩; have HD := Lib.hid hd
 have hd0 : 0 ≤ d := by omega
 have hd1 : d ≤ 4194304 := by omega
 have HW : Hid (IntKind.i64.wrap (-E1) = d) := Lib.hid (by rw [hd]; exact IntWalk.i64_in _ (by omega))
 rw [hd] at HR; clear hd
 go_enter Tryz.func43, Tryz.ntmps43
 go_upto_region 1 with (fail)
 generalize hW1 : (w.alloc _).alloc _ = w1 at *; obtain ⟨X1, XR, HB⟩ := Bo.en2 hW1; replace hT := hT.below HB.out; replace h := h.below HB.out; clear hW1; have xX1 := X1.cell
 go_wp2_with fail
 refine (dTaken hT h hn HN1.out HE1.out).mono ?_; rintro ee w2 ⟨s1, A1, n1, c1, rfl, p1, k1, B⟩; clear xX1; replace X1 := X1.below B; replace XR := XR.below B; replace hT := hT.below B; replace h := h.below B; replace HB := Hqb HB B; clear B; have xX1 := X1.cell; have zX10 := X1.frozen
 go_upto_region 2 with (fail)
 clear xX1 zX10; generalize hS : ((w2.setCell _ _).setCell _ _).setCell _ _ = w3 at *; have SX := StN.of3 X1 hS; replace XR := XR.stn SX (by omega); replace hT := hT.stn SX (by simp [no8]); replace h := h.stn SX (by simp [no32]); replace p1 := p1.stn SX (by simp [no32]); replace HB := Hqs HB SX (by omega); replace X1 := SX.box; clear SX hS
 obtain rfl : s1 = false := by rw [p1.2]; simp; omega
 have xX1 := X1.cell; have hw := HW.out
 go_wp2_with fail
 refine (vShrE p1.1.rd (by clear hw; omega) rfl).mono ?_; rintro ee w4 ⟨A3, n3, c3, rfl, p3, k3, B⟩; clear xX1; replace X1 := X1.below B; replace XR := XR.below B; replace hT := hT.below B; replace h := h.below B; replace p1 := p1.below B; replace HB := Hqb HB B; clear B; clear hw; have xX1 := X1.cell
 go_wp2_with fail
 refine (wMake false p3.rd).mono ?_; rintro ee w6 ⟨s4, A4, n4, c4, rfl, p4, k4, B⟩; clear xX1; replace X1 := X1.below B; replace XR := XR.below B; replace p3 := p3.below B; replace HB := Hqb HB B; clear B
 replace p4 : Wn w6 s4 A4 n4 c4 r := by
   have e := HR.out; rw [← e]; exact p4
 have xXR := XR.cell; have zXR0 := XR.frozen; go_wp2; clear xXR zXR0; have SX := StN.mk2 XR (.bool s4) (.slice A4 n4 c4); replace p4 := p4.stn SX (by simp [no32]); exact bodyPost_ret (v := .agg #[.bool s4, .slice A4 n4 c4]) (by simp [results, Tryz.results43, go_sem, SX.box.cell]) rfl ⟨s4, A4, n4, c4, rfl, p4, by omega, (SX.below HB.out (by omega))⟩
theorem dFloor {w : World} {A : Option Addr} {n c : Nat} {s : Bool} {z e r : Int} (hT : Tab w) (h : Wr w s A n c z) (hn : n ≤ 100000) (hr : flr (mk z e).1 (mk z e).2 = r) :
   Calls Tryz.prog 43 #[.agg #[.bool s, .slice A n c, .int .i64 e]] w (W1 w (n + 131100) r) := by
 have hb := mk_bd z e
 have hnf := (mk_nf z e).cases
 by_cases h0 : 0 ≤ (mk z e).2
 · exact dfloor_up hT h hn (Lib.hid rfl) (Lib.hid rfl) h0 hb.2 (Lib.hid (by rw [← hr, Int.sub_zero]; unfold flr; rw [if_pos h0]))
 · have hod : (mk z e).1.natAbs % 2 = 1 := by
     rcases hnf with e1 | ⟨_, e1, _⟩
     · rw [e1] at h0; simp at h0
     · exact e1
   by_cases hs : (mk z e).1 < 0
   · exact dfloor_neg hT h hn (Lib.hid rfl) (Lib.hid rfl) (by omega) hb.1 hs (Lib.hid (by rw [← hr, flr_neg (by omega) hod hs]))
   · exact dfloor_pos hT h hn (Lib.hid rfl) (Lib.hid rfl) (by omega) hb.1 (by omega) (Lib.hid (by rw [← hr, flr_pos (by omega) (by omega)]))
set_option linter.unusedSimpArgs false
theorem vShlA {w : World} {A1 : Option Addr} {n c1 a r : Nat} {z : Int} (h1 : Rd w A1 n c1 a) (hn : n ≤ 1000000) (hz : z ≤ 16777216) (hr : a * 2 ^ z.toNat = r) : Calls Tryz.prog 35 #[.slice A1 n c1, .int .i64 z] w (P1 w (n + z.toNat / 32 + 1) r) := by
 subst hr
 by_cases h0 : z < 1
 · rw [show z.toNat = 0 by omega, Nat.pow_zero, Nat.mul_one]
   refine (vShl_low z h1 h0).mono ?_; rintro e w' ⟨A, m, c, e, h, k, B⟩; exact ⟨A, m, c, e, h, by omega, B⟩
 · have := vShl z.toNat h1 (by omega) (by omega)
   rwa [show ((z.toNat : Nat) : Int) = z by omega] at this
def PU (w : World) (z : Int) (e : Ending) (w' : World) : Prop := e = .returned (.int .u64 z) ∧ Below w.heap.size w w'
theorem tp_word {a : Nat} {v : Int} (hv : v = (blen a : Int) - 64) : a / 2 ^ v.toNat * 2 ^ (-v).toNat = tp a := by
 subst hv
 rcases Nat.lt_or_ge (blen a) 64 with h | h
 · rw [show ((blen a : Int) - 64).toNat = 0 by omega, Nat.pow_zero, Nat.div_one, tp_small (by omega), show (-((blen a : Int) - 64)).toNat = 64 - blen a by omega]
 · rw [show (-((blen a : Int) - 64)).toNat = 0 by omega, Nat.pow_zero, Nat.mul_one, tp_big h, show ((blen a : Int) - 64).toNat = blen a - 64 by omega]
theorem limbs_two {v : Nat} (h1 : 4294967296 ≤ v) (h2 : v < 18446744073709551616) : limbs v = [v % 4294967296, v / 4294967296] := by
 rw [limbs_pos (by omega), limbs_pos (by omega), show v / 4294967296 / 4294967296 = 0 by omega, limbs_zero, Nat.mod_eq_of_lt (show v / 4294967296 < 4294967296 by omega)]
theorem nWord {w : World} {A : Option Addr} {n c a : Nat} {L T : Int} (h : Rd w A n c a) (hn : n ≤ 100000) (h0 : a ≠ 0) (hL : ((blen a : Nat) : Int) = L) (hT : ((tp a : Nat) : Int) = T) : Calls Tryz.prog 143 #[.slice A n c, .int .i64 L] w (PU w T) := by
 have hb := h.blen_le; obtain ⟨v, hv⟩ : ∃ v : Int, L - 64 = v := ⟨_, rfl⟩; have hw := tp_word (a := a) (v := v) (by omega)
 have HW1 : Hid (IntKind.i64.wrap (L - 64) = v) := Lib.hid (by rw [hv]; exact IntWalk.i64_in _ (by omega))
 have HW2 : Hid (IntKind.i64.wrap (-v) = -v) := Lib.hid (IntWalk.i64_in _ (by omega))
 obtain ⟨q, hq⟩ : ∃ q, a / 2 ^ v.toNat = q := ⟨_, rfl⟩; rw [hq] at hw; have HQ := Lib.hid hq; have HT := Lib.hid hw; have g1 := tp_ge h0; have g2 := tp_lt a
 revert hT g1 g2 HT
 generalize tp a = W
 intro hT HT g1 g2
 have hlm := limbs_two (v := W) (by omega) (by omega); obtain ⟨X, hX0⟩ : ∃ X, W / 4294967296 = X := ⟨_, rfl⟩; obtain ⟨Y, hY0⟩ : ∃ Y, W % 4294967296 = Y := ⟨_, rfl⟩; rw [hX0, hY0] at hlm
 have hX : X < 4294967296 := by omega
 have hY : Y < 4294967296 := by omega
 have hTT : (X : Int) * 4294967296 + (Y : Int) = T := by omega
 have hor := or_join X Y hX hY; rw [hTT] at hor
 have HS1 := Lib.hid (show IntKind.u64.wrap (X : Int) = X from IntWalk.u64_in _ (by omega))
 have HS2 := Lib.hid (show IntKind.u64.wrap ((X : Int) * 4294967296) = (X : Int) * 4294967296 from IntWalk.u64_in _ (by omega))
 have HS3 := Lib.hid (show IntKind.u64.wrap (Y : Int) = Y from IntWalk.u64_in _ (by omega))
 have hv1 : -64 ≤ v := by omega
 have hv2 : v ≤ 3200000 := by omega
 have HO := Lib.hid hor; have HL := Lib.hid hlm; clear hor hlm hTT hT g1 g2 hw hq hv hL hX0 hY0
 go_enter Tryz.func143, Tryz.ntmps143
 have HB := Lib.hid (Below.refl w.heap.size w); have hw1 := HW1.out
 go_wp2_with fail
 refine (vShrE h (by omega) HQ.out).mono ?_; rintro ee w2 ⟨A2, n2, c2, rfl, p2, k2, B⟩; replace h := h.below B; replace HB := Hqb HB B; clear B; clear hw1; have hw2 := HW2.out
 go_wp2_with fail
 refine (vShlA p2.rd (by omega) (by omega) HT.out).mono ?_; rintro ee w3 ⟨A3, n3, c3, rfl, p3, k3, B⟩; replace p2 := p2.below B; replace HB := Hqb HB B; clear B; clear hw2 HW1 HW2 HQ HT; obtain ⟨b, hs⟩ := p3; have hl := hs.len; rw [HL.out] at hs hl
 obtain rfl : 2 = n3 := hl
 obtain ⟨o, rfl, hc⟩ := hs.at (by decide); have c0 := hc 0 (by decide); have c1 := hc 1 (by decide); rw [List.getD_cons_zero, Nat.add_zero] at c0; rw [List.getD_cons_succ, List.getD_cons_zero] at c1; clear hc hs HL
 go_upto_region 3 with (fail)
 refine Jo.rk [0, 1, 2, 3, 4, 5, 6, 7, 8, 9, 10] [some 15, some 16, some 17, some 18, some 19, some 20, some 21, some 22, some 23, some 24, some 4] [[], [0], [1], [2], [3], [], [5], [6], [7], [4, 8], [9]] 11 0 [Jo.Fact.eq (.slice (some ⟨b, o, none⟩) 2 c3), Jo.Fact.eq (.pointer (some ⟨b, o + 1, none⟩)), Jo.Fact.eq (.int .u32 (X : Int)), Jo.Fact.eq (.int .u64 (X : Int)), Jo.Fact.eq (.int .u64 ((X : Int) * 4294967296)), Jo.Fact.eq (.slice (some ⟨b, o, none⟩) 2 c3), Jo.Fact.eq (.pointer (some ⟨b, o, none⟩)), Jo.Fact.eq (.int .u32 (Y : Int)), Jo.Fact.eq (.int .u64 (Y : Int)), Jo.Fact.eq (.int .u64 T), Jo.Fact.eq (.int .u64 T)] (by kernel_rfl) (by kernel_rfl) (by decide) rfl ?_ ?_
 · iterate 2 (refine Jo.jm rfl ?_ ?_; rotate_left)
   refine Jo.jm rfl ?_ ?_
   · rintro wj hJ _ rfl K hK; simp only [Jo.z] at hK ⊢
     have c0' := (hJ.cell (p := ⟨b, _, none⟩) (block_lt_of_cell c0)).trans c0
     have c1' := (hJ.cell (p := ⟨b, _, none⟩) (block_lt_of_cell c1)).trans c1
     go_simp; exact hK.out _ _ rfl (br _ _)
   refine Jo.jm rfl ?_ ?_
   · rintro wj hJ _ rfl K hK; simp only [Jo.z] at hK ⊢; have hs1 := HS1.out; go_simp; exact hK.out _ _ rfl (br _ _)
   refine Jo.jm rfl ?_ ?_
   · rintro wj hJ _ rfl K hK; simp only [Jo.z] at hK ⊢; have hs2 := HS2.out; go_simp; exact hK.out _ _ rfl (br _ _)
   iterate 2 (refine Jo.jm rfl ?_ ?_; rotate_left)
   refine Jo.jm rfl ?_ ?_
   · rintro wj hJ _ rfl K hK; simp only [Jo.z] at hK ⊢
     have c0' := (hJ.cell (p := ⟨b, _, none⟩) (block_lt_of_cell c0)).trans c0
     have c1' := (hJ.cell (p := ⟨b, _, none⟩) (block_lt_of_cell c1)).trans c1
     go_simp; exact hK.out _ _ rfl (br _ _)
   refine Jo.jm rfl ?_ ?_
   · rintro wj hJ _ rfl K hK; simp only [Jo.z] at hK ⊢; have hs3 := HS3.out; go_simp; exact hK.out _ _ rfl (br _ _)
   refine Jo.jm rfl ?_ ?_
   · rintro wj hJ _ rfl _ rfl K hK; simp only [Jo.z] at hK ⊢; have hor := HO.out; go_simp; exact hK.out _ _ rfl (br _ _)
   refine Jo.jm rfl ?_ ?_; rotate_left
   exact Jo.Steps.nil
   all_goals (rintro wj hJ; (repeat rintro _ rfl); intro K hK; simp only [Jo.z] at hK ⊢; go_simp; exact hK.out _ _ rfl (br _ _))
 rintro w4 hJ _ rfl _ _ _ rfl _ rfl _ rfl _ rfl _ _ _ rfl _ rfl _ rfl _ rfl -; simp only [Jo.z]; replace HB := Hqb HB hJ; refine Jo.jdone (by kernel_rfl) ?_; go_wp2
 go_ret
 exact ⟨rfl, HB.out⟩
theorem yWord {w : World} {A : Option Addr} {n c v : Nat} {T : Int} (h : Nm w A n c v) (hv : v < 18446744073709551616) (hT : (v : Int) = T) : Calls Tryz.prog 117 #[.slice A n c] w (PU w T) := by
 have HT := Lib.hid hT; clear hT
 have hn2 : n ≤ 2 := by
   have hl := h.len
   have : (limbs v).length ≤ 2 := limbs_length_le (by simpa using hv)
   omega
 obtain ⟨b, hs⟩ := h; have HV := Lib.hid (val_limbs v)
 revert hs HV
 generalize limbs v = xs
 intro hs HV
 go_enter Tryz.func117, Tryz.ntmps117
 go_wp2
 go_loop [3, 4] (fun u i => ∃ k : Nat, k ≤ n ∧ i = .int .i64 ((k : Int) - 1) ∧ u = .int .u64 (val (xs.drop k) : Nat)) (fun _ i => (intOf i + 1).toNat)
 case atStart => exact ⟨n, Nat.le_refl _, rfl, by rw [List.drop_of_length_le (by rw [hs.len]; omega)]; rfl⟩
 case round =>
   obtain ⟨k, hk, rfl, rfl⟩ := hrel
   rcases Nat.eq_zero_or_pos k with e | hk0
   · subst e; rw [List.drop_zero, HV.out, HT.out]
     have c0 : (((0 : Nat) : Int) - 1) = -1 := rfl
     rw [c0]; go_wp2
     go_ret
     exact ⟨rfl, Below.refl _ _⟩
   · obtain ⟨o, rfl, hcell⟩ := hs.at (by omega); have hck := hcell (k - 1) (by omega); have hx := hs.lim.getD (k - 1)
     have HD : Hid (val (xs.drop (k - 1)) = xs.getD (k - 1) 0 + 4294967296 * val (xs.drop k)) := Lib.hid (by rw [val_drop (by rw [hs.len]; omega), show k - 1 + 1 = k by omega])
     have hu : val (xs.drop k) < 4294967296 := by
       have := val_lt (hs.lim.drop k)
       rw [List.length_drop, hs.len] at this; exact Nat.lt_of_lt_of_le this (Nat.pow_le_pow_right (n := 4294967296) (j := 1) (by decide) (by omega))
     have hi : ((k : Int) - 1).toNat = k - 1 := by omega
     clear hcell
     revert hck hx HD hu
     generalize xs.getD (k - 1) 0 = x; generalize val (xs.drop k) = u
     intro hck hx HD hu
     go_wp2
     go_round
     case rel => exact ⟨k - 1, by omega, val_int (by omega), val_int (by have := HD.out; omega)⟩
     case measure => simp [intOf]; omega
def PNB (w : World) (r : Int) (t : Bool) (e : Ending) (w' : World) : Prop := ∃ K s M E, e = .returned (.tuple #[.agg #[.int .i64 K, .bool s, .int .u64 M, .int .i64 E], .bool t]) ∧ Fq K s M E r ∧ Below w.heap.size w w'
theorem ncut_zero {w : World} {A : Option Addr} {n c a : Nat} {s : Bool} {E L x r : Int} {t : Bool} (h : Rd w A n c a) (hn : n ≤ 100000) (b1 : -4194304 ≤ E) (b2 : E ≤ 4194304) (h0 : a = 0) (hr : 0 = r) (ht : true = t) :
   Calls Tryz.prog 137 #[.agg #[.bool s, .slice A n c, .int .i64 E]] w (PNB w r t) := by
 have hb := h.blen_le; subst h0; subst hr; subst ht
 go_enter Tryz.func137, Tryz.ntmps137
 go_upto_region 1 with (fail)
 generalize hW1 : (w.alloc _).alloc _ = w1 at *; obtain ⟨X1, XR, HB⟩ := Bo.en2 hW1; replace h := h.below HB.out; clear hW1; have xX1 := X1.cell
 go_wp2_with fail
 refine (vLenE (z := 0) h rfl).mono ?_; rintro ee w2 ⟨rfl, B⟩; clear xX1; replace X1 := X1.below B; replace XR := XR.below B; replace h := h.below B; replace HB := Hqb HB B; clear B; have xXR := XR.cell; have zXR0 := XR.frozen; have xX1 := X1.cell; go_wp2; clear xXR zXR0 xX1; have SX := StN.mk4 XR (.int .i64 0) (.bool false) (.int .u64 0) (.int .i64 0)
 exact bodyPost_ret (v := .tuple #[.agg #[.int .i64 0, .bool false, .int .u64 0, .int .i64 0], .bool true]) (by simp [results, Tryz.results137, go_sem, SX.box.cell]) rfl ⟨_, _, _, _, rfl, Fq.nought, (SX.below HB.out (by omega))⟩
theorem ncut_big {w : World} {A : Option Addr} {n c a : Nat} {s : Bool} {E L x r : Int} (h : Rd w A n c a) (hn : n ≤ 100000) (b1 : -4194304 ≤ E) (b2 : E ≤ 4194304) (h0 : a ≠ 0) (hL : ((blen a : Nat) : Int) = L) (hx : E + L - 64 = x) (hx3 : 1048576 < x) (hr : sgi s 19342822337206103650074624 = r) :
   Calls Tryz.prog 137 #[.agg #[.bool s, .slice A n c, .int .i64 E]] w (PNB w r false) := by
 have hb := h.blen_le
 have h1 : blen a ≠ 0 := fun e => h0 (blen_eq_zero.1 e)
 have HL := Lib.hid hL
 have HX1 : Hid (IntKind.i64.wrap (E + L) = E + L) := Lib.hid (IntWalk.i64_in _ (by omega))
 have HX2 : Hid (IntKind.i64.wrap (E + L - 64) = x) := Lib.hid (by rw [hx]; exact IntWalk.i64_in _ (by omega))
 have e0 : (L == 0) = false := by
   have : L ≠ 0 := by omega
   simpa using this
 have hF : Fq 1 s 18446744073709551615 1048576 r := Fq.fin (by decide) (by decide) (by decide) (by decide) hr
 clear hL hx hr h1
 go_enter Tryz.func137, Tryz.ntmps137
 go_upto_region 1 with (fail)
 generalize hW1 : (w.alloc _).alloc _ = w1 at *; obtain ⟨X1, XR, HB⟩ := Bo.en2 hW1; replace h := h.below HB.out; clear hW1; have xX1 := X1.cell
 go_wp2_with fail
 refine (vLenE h HL.out).mono ?_; rintro ee w2 ⟨rfl, B⟩; clear xX1; replace X1 := X1.below B; replace XR := XR.below B; replace h := h.below B; replace HB := Hqb HB B; clear B; have hx1 := HX1.out; have hx2 := HX2.out; have xX1 := X1.cell
 go_wp2_with fail
 refine (nH).mono ?_; rintro ee w3 ⟨rfl, B⟩; clear xX1; replace X1 := X1.below B; replace XR := XR.below B; replace h := h.below B; replace HB := Hqb HB B; clear B; have xXR := XR.cell; have zXR0 := XR.frozen; have xX1 := X1.cell; go_wp2; clear xXR zXR0 xX1; have SX := StN.mk4 XR (.int .i64 1) (.bool s) (.int .u64 18446744073709551615) (.int .i64 1048576)
 exact bodyPost_ret (v := .tuple #[.agg #[.int .i64 1, .bool s, .int .u64 18446744073709551615, .int .i64 1048576], .bool false]) (by simp [results, Tryz.results137, go_sem, SX.box.cell]) rfl ⟨_, _, _, _, rfl, hF, (SX.below HB.out (by omega))⟩
theorem ncut_low {w : World} {A : Option Addr} {n c a : Nat} {s : Bool} {E L x : Int} (h : Rd w A n c a) (hn : n ≤ 100000) (b1 : -4194304 ≤ E) (b2 : E ≤ 4194304) (h0 : a ≠ 0) (hL : ((blen a : Nat) : Int) = L) (hx : E + L - 64 = x) (hx3 : x < -1048576) :
   Calls Tryz.prog 137 #[.agg #[.bool s, .slice A n c, .int .i64 E]] w (PNB w 0 false) := by
 have hb := h.blen_le
 have h1 : blen a ≠ 0 := fun e => h0 (blen_eq_zero.1 e)
 have HL := Lib.hid hL
 have HX1 : Hid (IntKind.i64.wrap (E + L) = E + L) := Lib.hid (IntWalk.i64_in _ (by omega))
 have HX2 : Hid (IntKind.i64.wrap (E + L - 64) = x) := Lib.hid (by rw [hx]; exact IntWalk.i64_in _ (by omega))
 have e0 : (L == 0) = false := by
   have : L ≠ 0 := by omega
   simpa using this
 clear hL hx h1
 go_enter Tryz.func137, Tryz.ntmps137
 go_upto_region 1 with (fail)
 generalize hW1 : (w.alloc _).alloc _ = w1 at *; obtain ⟨X1, XR, HB⟩ := Bo.en2 hW1; replace h := h.below HB.out; clear hW1; have xX1 := X1.cell
 go_wp2_with fail
 refine (vLenE h HL.out).mono ?_; rintro ee w2 ⟨rfl, B⟩; clear xX1; replace X1 := X1.below B; replace XR := XR.below B; replace h := h.below B; replace HB := Hqb HB B; clear B; have hx1 := HX1.out; have hx2 := HX2.out; have xXR := XR.cell; have zXR0 := XR.frozen; have xX1 := X1.cell; go_wp2; clear xXR zXR0 xX1; have SX := StN.mk4 XR (.int .i64 0) (.bool false) (.int .u64 0) (.int .i64 0)
 exact bodyPost_ret (v := .tuple #[.agg #[.int .i64 0, .bool false, .int .u64 0, .int .i64 0], .bool false]) (by simp [results, Tryz.results137, go_sem, SX.box.cell]) rfl ⟨_, _, _, _, rfl, Fq.nought, (SX.below HB.out (by omega))⟩
theorem ncut_mid {w : World} {A : Option Addr} {n c a : Nat} {s : Bool} {E L x r : Int} {t : Bool} (h : Rd w A n c a) (hn : n ≤ 100000) (b1 : -4194304 ≤ E) (b2 : E ≤ 4194304) (h0 : a ≠ 0) (hL : ((blen a : Nat) : Int) = L) (hx : E + L - 64 = x) (hx3 : -1048576 ≤ x) (hx4 : x ≤ 1048576) (hr : sgi s ((tp a : Int) - 9223372036854775808 + 1 + (x + 1048576) * 9223372036854775808) = r) (ht : decide (L ≤ 64) = t) :
   Calls Tryz.prog 137 #[.agg #[.bool s, .slice A n c, .int .i64 E]] w (PNB w r t) := by
 have hb := h.blen_le
 have h1 : blen a ≠ 0 := fun e => h0 (blen_eq_zero.1 e)
 have HL := Lib.hid hL
 have HX1 : Hid (IntKind.i64.wrap (E + L) = E + L) := Lib.hid (IntWalk.i64_in _ (by omega))
 have HX2 : Hid (IntKind.i64.wrap (E + L - 64) = x) := Lib.hid (by rw [hx]; exact IntWalk.i64_in _ (by omega))
 have e0 : (L == 0) = false := by
   have : L ≠ 0 := by omega
   simpa using this
 obtain ⟨T, hT⟩ : ∃ T, ((tp a : Nat) : Int) = T := ⟨_, rfl⟩; rw [hT] at hr
 have hF : Fq 1 s T x r := by
   have g1 := tp_ge h0; have g2 := tp_lt a; exact Fq.fin (by omega) (by omega) hx3 hx4 hr
 have HT := Lib.hid hT; have HTT := Lib.hid ht; clear hL hx hr h1 hT ht
 go_enter Tryz.func137, Tryz.ntmps137
 go_upto_region 1 with (fail)
 generalize hW1 : (w.alloc _).alloc _ = w1 at *; obtain ⟨X1, XR, HB⟩ := Bo.en2 hW1; replace h := h.below HB.out; clear hW1; have xX1 := X1.cell
 go_wp2_with fail
 refine (vLenE h HL.out).mono ?_; rintro ee w2 ⟨rfl, B⟩; clear xX1; replace X1 := X1.below B; replace XR := XR.below B; replace h := h.below B; replace HB := Hqb HB B; clear B; have hx1 := HX1.out; have hx2 := HX2.out; have xX1 := X1.cell
 go_upto_region 9 with (fail)
 clear hx1 hx2; clear xX1; refine Jo.rl (w.heap.size + 1) #[.int .i64 1, .bool s, .int .u64 T, .int .i64 x] 33 [0, 1, 2, 3, 4, 5, 6, 7, 8, 9, 10, 11, 12] [some 27, some 28, some 29, some 30, some 31, some 32, some 33, some 34, some 35, some 36, some 37, some 38, none, some 3] [[], [0], [1], [], [3], [4], [], [5, 6], [], [2, 7, 8], [], [10], [9], []] 14 1 [Jo.kp w.heap.size 0, Jo.kp w.heap.size 0, Jo.LFact.eq (.bool s), Jo.kp w.heap.size 0, Jo.kp w.heap.size 1, Jo.LFact.eq (.slice A n c), Jo.LFact.eq (.int .i64 L), Jo.LFact.eq (.int .u64 T), Jo.LFact.eq (.int .i64 x), Jo.LFact.eq (.agg #[.int .i64 1, .bool s, .int .u64 T, .int .i64 x]), Jo.LFact.eq (.int .i64 L), Jo.LFact.eq (.bool t), Jo.LFact.done, Jo.LFact.any] (by kernel_rfl) (by kernel_rfl) (by decide) rfl ?_ ?_
 · refine Jo.lm rfl ?_ ?_
   · rintro wj hJ K hK; simp only [Jo.z] at hK ⊢; go_simp; exact hK.out _ _ rfl (Jo.Off.refl _ _ _ _)
   refine Jo.lm rfl ?_ ?_
   · rintro wj hJ _ rfl K hK; simp only [Jo.z] at hK ⊢; go_simp; exact hK.out _ _ rfl (Jo.Off.refl _ _ _ _)
   refine Jo.lm rfl ?_ ?_
   · rintro wj hJ _ rfl K hK; simp only [Jo.z] at hK ⊢; replace X1 := X1.off (by omega) hJ; have xX1 := X1.cell; go_simp; exact hK.out _ _ rfl (Jo.Off.refl _ _ _ _)
   refine Jo.lm rfl ?_ ?_
   · rintro wj hJ K hK; simp only [Jo.z] at hK ⊢; go_simp; exact hK.out _ _ rfl (Jo.Off.refl _ _ _ _)
   refine Jo.lm rfl ?_ ?_
   · rintro wj hJ _ rfl K hK; simp only [Jo.z] at hK ⊢; go_simp; exact hK.out _ _ rfl (Jo.Off.refl _ _ _ _)
   refine Jo.lm rfl ?_ ?_
   · rintro wj hJ _ rfl K hK; simp only [Jo.z] at hK ⊢; replace X1 := X1.off (by omega) hJ; have xX1 := X1.cell; go_simp; exact hK.out _ _ rfl (Jo.Off.refl _ _ _ _)
   refine Jo.lm rfl ?_ ?_
   · rintro wj hJ K hK; simp only [Jo.z] at hK ⊢; go_simp; exact hK.out _ _ rfl (Jo.Off.refl _ _ _ _)
   refine Jo.lm rfl ?_ ?_
   · rintro wj hJ _ rfl _ rfl K hK; simp only [Jo.z] at hK ⊢; go_simp; refine (nWord (h.off XR (by simp [no32]) hJ) hn h0 HL.out HT.out).mono ?_; rintro ee wk ⟨rfl, B⟩; exact hK.out _ _ rfl (Jo.Off.of_below B (Nat.lt_of_lt_of_le XR.lt hJ.size))
   refine Jo.lm rfl ?_ ?_
   · rintro wj hJ K hK; simp only [Jo.z] at hK ⊢; go_simp; exact hK.out _ _ rfl (Jo.Off.refl _ _ _ _)
   refine Jo.lm rfl ?_ ?_
   · rintro wj hJ _ rfl _ rfl _ rfl K hK; simp only [Jo.z] at hK ⊢; go_simp; exact hK.out _ _ rfl (Jo.Off.refl _ _ _ _)
   refine Jo.lm rfl ?_ ?_
   · rintro wj hJ K hK; simp only [Jo.z] at hK ⊢; go_simp; exact hK.out _ _ rfl (Jo.Off.refl _ _ _ _)
   refine Jo.lm rfl ?_ ?_
   · rintro wj hJ _ rfl K hK; simp only [Jo.z] at hK ⊢; have htt := HTT.out; go_simp
     exact hK.out _ _ (by first | rfl | (show Value.bool _ = Value.bool _; rw [htt])) (Jo.Off.refl _ _ _ _)
   refine Jo.lm rfl ?_ ?_
   · rintro wj hJ _ rfl K hK; simp only [Jo.z] at hK ⊢
     obtain ⟨v0, v1, v2, v3, XO⟩ : ∃ v0 v1 v2 v3, Bo wj (w.heap.size + 1) #[v0, v1, v2, v3] 33 := by
       rcases hJ.own with e | e
       · exact ⟨_, _, _, _, XR.keep e⟩
       · exact ⟨_, _, _, _, e⟩
     have y0 := XO.a 0 (v0) rfl; have u0 := XO.frozen 0; have y1 := XO.a 1 (v1) rfl; have u1 := XO.frozen 1; have y2 := XO.a 2 (v2) rfl; have u2 := XO.frozen 2; have y3 := XO.a 3 (v3) rfl; have u3 := XO.frozen 3; go_simp; have SX := StN.mk4 XO (.int .i64 1) (.bool s) (.int .u64 T) (.int .i64 x); exact hK.out undef _ SX.box (Jo.Off.of_stn SX)
   exact Jo.Steps.nil
 rintro w3 hJ _ _ _ _ _ rfl _ _ _ _ _ rfl _ rfl _ rfl _ rfl _ rfl _ rfl _ rfl u12 d12 -; simp only [Jo.z]; replace h := h.off XR (by simp [no32]) hJ; replace HB := Lib.hid (hJ.below HB.out (by omega) XR.lt); replace X1 := X1.off (by omega) hJ
 replace XR : Bo w3 (w.heap.size + 1) #[.int .i64 1, .bool s, .int .u64 T, .int .i64 x] 33 := d12
 refine Jo.jnext (i := 13) (o := ⟨some 3, _, _, _, _, _⟩) (by kernel_rfl) rfl (fun K hK => ?_)
 go_simp; refine hK.out _ _ ?_; clear hK K; refine Jo.jdone (by kernel_rfl) ?_; go_wp2; exact bodyPost_ret (v := .tuple #[.agg #[.int .i64 1, .bool s, .int .u64 T, .int .i64 x], .bool t]) (by simp [results, Tryz.results137, go_sem, XR.cell]) rfl ⟨_, _, _, _, rfl, hF, HB.out⟩
theorem nCut {w : World} {A : Option Addr} {n c a : Nat} {s : Bool} {E r : Int} {t : Bool} (h : Rd w A n c a) (hn : n ≤ 100000) (b1 : -4194304 ≤ E) (b2 : E ≤ 4194304) (hr : sgi s (lo a E) = r) (ht : ext a E = t) :
   Calls Tryz.prog 137 #[.agg #[.bool s, .slice A n c, .int .i64 E]] w (PNB w r t) := by
 unfold lo at hr
 unfold ext at ht
 by_cases h0 : a = 0
 · rw [if_pos h0] at hr
   have e0 : (a == 0) = true := by simpa using h0
   rw [e0] at ht
   exact ncut_zero (L := 0) (x := 0) h hn b1 b2 h0 (by rw [← hr]; cases s <;> rfl) ht
 · rw [if_neg h0] at hr
   have e0 : (a == 0) = false := by simpa using h0
   rw [e0, Bool.false_or] at ht
   have hx : E + ((blen a : Nat) : Int) - 64 = xp a E := rfl
   by_cases c1 : 1048576 < xp a E
   · rw [if_pos c1] at hr
     rw [show decide (xp a E ≤ 1048576) = false from decide_eq_false (by omega), Bool.false_and] at ht
     subst ht; exact ncut_big h hn b1 b2 h0 rfl hx c1 hr
   · rw [if_neg c1] at hr
     rw [show decide (xp a E ≤ 1048576) = true from decide_eq_true (by omega), Bool.true_and] at ht
     by_cases c2 : xp a E < -1048576
     · rw [if_pos c2] at hr
       rw [show decide (-1048576 ≤ xp a E) = false from decide_eq_false (by omega), Bool.false_and] at ht
       subst ht
       obtain rfl : 0 = r := by rw [← hr]; cases s <;> rfl
       exact ncut_low h hn b1 b2 h0 rfl hx c2
     · rw [if_neg c2] at hr
       rw [show decide (-1048576 ≤ xp a E) = true from decide_eq_true (by omega), Bool.true_and] at ht
       refine ncut_mid h hn b1 b2 h0 rfl hx (by omega) (by omega) hr ?_; rw [← ht, Bool.eq_iff_iff]
       simp
       omega
end Go.Proofs.YtmmallhniijdfaaGreatDoor

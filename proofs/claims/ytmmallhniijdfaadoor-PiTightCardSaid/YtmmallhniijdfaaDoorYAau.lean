/-
 Contracts that the proof rests on.
-/
import Derived.Test.YtmmallhniijdfaaDoorYAat
namespace Go.Proofs.YtmmallhniijdfaaDoor
set_option maxHeartbeats 4000000
open Go.RowKit
set_option linter.unusedVariables false
set_option maxRecDepth 100000
theorem dfloor_up {w : World} {A : Option Addr} {n c : Nat} {s : Bool} {z e N1 E1 r : Int} (hT : Tab w) (h : Wr w s A n c z) (hn : n ≤ 100000) (HN1 : Hid ((mk z e).1 = N1)) (HE1 : Hid ((mk z e).2 = E1)) (h0 : 0 ≤ E1) (hb : E1 ≤ 4194304) (HR : Hid (N1 * ((2 ^ (E1 - 0).toNat : Nat) : Int) = r)) :
   Calls Tryd.prog 28 #[.agg #[.bool s, .slice A n c, .int .i64 e]] w (W1 w (n + 131100) r) := by
 go_enter Tryd.func28, Tryd.ntmps28
 go_upto_region 1 with (fail)
 generalize hW1 : (w.alloc _).alloc _ = w1 at *; obtain ⟨X1, XR, HB⟩ := Bo.en2 hW1; replace hT := hT.below HB.out; replace h := h.below HB.out; clear hW1; have xX1 := X1.cell
 go_wp2_with fail
 refine (dTaken hT h hn HN1.out HE1.out).mono ?_; rintro ee w2 ⟨s1, A1, n1, c1, rfl, p1, k1, B⟩; clear xX1; replace X1 := X1.below B; replace XR := XR.below B; replace hT := hT.below B; replace h := h.below B; replace HB := Hqb HB B; clear B; have xX1 := X1.cell; have zX10 := X1.frozen
 go_upto_region 2 with (fail)
 clear xX1 zX10; generalize hS : ((w2.setCell _ _).setCell _ _).setCell _ _ = w3 at *; have SX := StN.of3 X1 hS; replace XR := XR.stn SX (by omega); replace hT := hT.stn SX (by simp [no8]); replace h := h.stn SX (by simp [no32]); replace p1 := p1.stn SX (by simp [no32]); replace HB := Hqs HB SX (by omega); replace X1 := SX.box; clear SX hS; have xX1 := X1.cell
 go_wp2_with fail
 refine (dTimes p1 (by omega) h0 (by omega) HR.out).mono ?_; rintro ee w4 ⟨s4, A4, n4, c4, rfl, p4, k4, B⟩; clear xX1; replace X1 := X1.below B; replace XR := XR.below B; replace hT := hT.below B; replace h := h.below B; replace p1 := p1.below B; replace HB := Hqb HB B; clear B; have xXR := XR.cell; have zXR0 := XR.frozen; go_wp2; clear xXR zXR0; generalize hS : (w4.setCell _ _).setCell _ _ = w5 at *
 have SX := StN.of2 XR hS; replace X1 := X1.stn SX (by omega); replace p4 := p4.stn SX (by simp [no32]); replace HB := Hqs HB SX (by omega); replace XR := SX.box; clear SX hS
 have k0 : (E1 - 0).toNat / 32 ≤ 131072 := by omega
 exact bodyPost_ret (v := .agg #[.bool s4, .slice A4 n4 c4]) (by simp [results, Tryd.results28, go_sem, XR.cell]) rfl ⟨s4, A4, n4, c4, rfl, p4, by omega, HB.out⟩
theorem dfloor_neg {w : World} {A : Option Addr} {n c : Nat} {s : Bool} {z e N1 E1 r : Int} (hT : Tab w) (h : Wr w s A n c z) (hn : n ≤ 100000) (HN1 : Hid ((mk z e).1 = N1)) (HE1 : Hid ((mk z e).2 = E1)) (h0 : E1 < 0) (hb : -4194304 ≤ E1) (hs : N1 < 0) (HR : Hid (-((N1.natAbs / 2 ^ (-E1).toNat + 1 : Nat) : Int) = r)) :
   Calls Tryd.prog 28 #[.agg #[.bool s, .slice A n c, .int .i64 e]] w (W1 w (n + 131100) r) := by
 obtain ⟨d, hd⟩ : ∃ d, -E1 = d := ⟨_, rfl⟩; have HD := Lib.hid hd
 have hd0 : 0 ≤ d := by omega
 have hd1 : d ≤ 4194304 := by omega
 have HW : Hid (IntKind.i64.wrap (-E1) = d) := Lib.hid (by rw [hd]; exact IntWalk.i64_in _ (by omega))
 rw [hd] at HR; clear hd
 go_enter Tryd.func28, Tryd.ntmps28
 go_upto_region 1 with (fail)
 generalize hW1 : (w.alloc _).alloc _ = w1 at *; obtain ⟨X1, XR, HB⟩ := Bo.en2 hW1; replace hT := hT.below HB.out; replace h := h.below HB.out; clear hW1; have xX1 := X1.cell
 go_wp2_with fail
 refine (dTaken hT h hn HN1.out HE1.out).mono ?_; rintro ee w2 ⟨s1, A1, n1, c1, rfl, p1, k1, B⟩; clear xX1; replace X1 := X1.below B; replace XR := XR.below B; replace hT := hT.below B; replace h := h.below B; replace HB := Hqb HB B; clear B; have xX1 := X1.cell; have zX10 := X1.frozen
 go_upto_region 2 with (fail)
 clear xX1 zX10; generalize hS : ((w2.setCell _ _).setCell _ _).setCell _ _ = w3 at *; have SX := StN.of3 X1 hS; replace XR := XR.stn SX (by omega); replace hT := hT.stn SX (by simp [no8]); replace h := h.stn SX (by simp [no32]); replace p1 := p1.stn SX (by simp [no32]); replace HB := Hqs HB SX (by omega); replace X1 := SX.box; clear SX hS
 obtain rfl : s1 = true := by rw [p1.2]; simp; omega
 have xX1 := X1.cell; have hw := HW.out
 go_wp2_with fail
 refine (vShrE p1.1.rd (by clear hw; omega) rfl).mono ?_; rintro ee w4 ⟨A3, n3, c3, rfl, p3, k3, B⟩; clear xX1; replace X1 := X1.below B; replace XR := XR.below B; replace hT := hT.below B; replace h := h.below B; replace p1 := p1.below B; replace HB := Hqb HB B; clear B; clear hw; have xX1 := X1.cell
 go_wp2_with fail
 refine (vAdd (p3.rd.below (bel1 _ _)) (one_rd _) (by omega) (by omega)).mono ?_; rintro ee w5 ⟨A6, n6, c6, rfl, p6, k6, B⟩; replace B := bt (bel1 _ _) B; clear xX1; replace X1 := X1.below B; replace XR := XR.below B; replace p3 := p3.below B; replace HB := Hqb HB B; clear B; have xX1 := X1.cell
 go_wp2_with fail
 refine (wMake true p6.rd).mono ?_; rintro ee w6 ⟨s4, A4, n4, c4, rfl, p4, k4, B⟩; clear xX1; replace X1 := X1.below B; replace XR := XR.below B; replace p6 := p6.below B; replace HB := Hqb HB B; clear B
 replace p4 : Wn w6 s4 A4 n4 c4 r := by
   have e := HR.out; rw [← e]; exact p4
 have xXR := XR.cell; have zXR0 := XR.frozen; go_wp2; clear xXR zXR0; have SX := StN.mk2 XR (.bool s4) (.slice A4 n4 c4); replace p4 := p4.stn SX (by simp [no32]); exact bodyPost_ret (v := .agg #[.bool s4, .slice A4 n4 c4]) (by simp [results, Tryd.results28, go_sem, SX.box.cell]) rfl ⟨s4, A4, n4, c4, rfl, p4, by omega, (SX.below HB.out (by omega))⟩
theorem dfloor_pos {w : World} {A : Option Addr} {n c : Nat} {s : Bool} {z e N1 E1 r : Int} (hT : Tab w) (h : Wr w s A n c z) (hn : n ≤ 100000) (HN1 : Hid ((mk z e).1 = N1)) (HE1 : Hid ((mk z e).2 = E1)) (h0 : E1 < 0) (hb : -4194304 ≤ E1) (hs : 0 ≤ N1) (HR : Hid (((N1.natAbs / 2 ^ (-E1).toNat : Nat) : Int) = r)) :
   Calls Tryd.prog 28 #[.agg #[.bool s, .slice A n c, .int .i64 e]] w (W1 w (n + 131100) r) := by
 obtain ⟨d, hd⟩ : ∃ d, -E1 = d := ⟨_, rfl⟩; have HD := Lib.hid hd
 have hd0 : 0 ≤ d := by omega
 have hd1 : d ≤ 4194304 := by omega
 have HW : Hid (IntKind.i64.wrap (-E1) = d) := Lib.hid (by rw [hd]; exact IntWalk.i64_in _ (by omega))
 rw [hd] at HR; clear hd
 go_enter Tryd.func28, Tryd.ntmps28
 go_upto_region 1 with (fail)
 generalize hW1 : (w.alloc _).alloc _ = w1 at *; obtain ⟨X1, XR, HB⟩ := Bo.en2 hW1; replace hT := hT.below HB.out; replace h := h.below HB.out; clear hW1; have xX1 := X1.cell
 go_wp2_with fail
 refine (dTaken hT h hn HN1.out HE1.out).mono ?_; rintro ee w2 ⟨s1, A1, n1, c1, rfl, p1, k1, B⟩; clear xX1; replace X1 := X1.below B; replace XR := XR.below B; replace hT := hT.below B; replace h := h.below B; replace HB := Hqb HB B; clear B; have xX1 := X1.cell; have zX10 := X1.frozen
 go_upto_region 2 with (fail)
 clear xX1 zX10; generalize hS : ((w2.setCell _ _).setCell _ _).setCell _ _ = w3 at *; have SX := StN.of3 X1 hS; replace XR := XR.stn SX (by omega); replace hT := hT.stn SX (by simp [no8]); replace h := h.stn SX (by simp [no32]); replace p1 := p1.stn SX (by simp [no32]); replace HB := Hqs HB SX (by omega); replace X1 := SX.box; clear SX hS
 obtain rfl : s1 = false := by rw [p1.2]; simp; omega
 have xX1 := X1.cell; have hw := HW.out
 go_wp2_with fail
 refine (vShrE p1.1.rd (by clear hw; omega) rfl).mono ?_; rintro ee w4 ⟨A3, n3, c3, rfl, p3, k3, B⟩; clear xX1; replace X1 := X1.below B; replace XR := XR.below B; replace hT := hT.below B; replace h := h.below B; replace p1 := p1.below B; replace HB := Hqb HB B; clear B; clear hw; have xX1 := X1.cell
 go_wp2_with fail
 refine (wMake false p3.rd).mono ?_; rintro ee w6 ⟨s4, A4, n4, c4, rfl, p4, k4, B⟩; clear xX1; replace X1 := X1.below B; replace XR := XR.below B; replace p3 := p3.below B; replace HB := Hqb HB B; clear B
 replace p4 : Wn w6 s4 A4 n4 c4 r := by
   have e := HR.out; rw [← e]; exact p4
 have xXR := XR.cell; have zXR0 := XR.frozen; go_wp2; clear xXR zXR0; have SX := StN.mk2 XR (.bool s4) (.slice A4 n4 c4); replace p4 := p4.stn SX (by simp [no32]); exact bodyPost_ret (v := .agg #[.bool s4, .slice A4 n4 c4]) (by simp [results, Tryd.results28, go_sem, SX.box.cell]) rfl ⟨s4, A4, n4, c4, rfl, p4, by omega, (SX.below HB.out (by omega))⟩
theorem dFloor {w : World} {A : Option Addr} {n c : Nat} {s : Bool} {z e r : Int} (hT : Tab w) (h : Wr w s A n c z) (hn : n ≤ 100000) (hr : flr (mk z e).1 (mk z e).2 = r) :
   Calls Tryd.prog 28 #[.agg #[.bool s, .slice A n c, .int .i64 e]] w (W1 w (n + 131100) r) := by
 have hb := mk_bd z e
 have hnf := (mk_nf z e).cases
 by_cases h0 : 0 ≤ (mk z e).2
 · exact dfloor_up hT h hn (Lib.hid rfl) (Lib.hid rfl) h0 hb.2 (Lib.hid (by rw [← hr, Int.sub_zero]; unfold flr; rw [if_pos h0]))
 · have hod : (mk z e).1.natAbs % 2 = 1 := by
     rcases hnf with e1 | ⟨_, e1, _⟩
     · rw [e1] at h0; simp at h0
     · exact e1
   by_cases hs : (mk z e).1 < 0
   · exact dfloor_neg hT h hn (Lib.hid rfl) (Lib.hid rfl) (by omega) hb.1 hs (Lib.hid (by rw [← hr, flr_neg (by omega) hod hs]))
   · exact dfloor_pos hT h hn (Lib.hid rfl) (Lib.hid rfl) (by omega) hb.1 (by omega) (Lib.hid (by rw [← hr, flr_pos (by omega) (by omega)]))
theorem dcmp_signs {w : World} {A B : Option Addr} {n c m d : Nat} {s t : Bool} {z e y f N1 E1 N2 E2 σ τ r : Int} (hT : Tab w) (h : Wr w s A n c z) (k : Wr w t B m d y) (hn : n ≤ 100000) (hm : m ≤ 100000) (b1 : -4194304 ≤ E1) (b2 : E1 ≤ 4194304) (b3 : -4194304 ≤ E2) (b4 : E2 ≤ 4194304)
   (HN1 : Hid ((mk z e).1 = N1)) (HE1 : Hid ((mk z e).2 = E1)) (HN2 : Hid ((mk y f).1 = N2)) (HE2 : Hid ((mk y f).2 = E2)) (HS : Hid (cmpI N1 0 = σ)) (HS2 : Hid (cmpI N2 0 = τ)) (hne : σ ≠ τ) (HR : Hid (cmpI σ τ = r)) :
   Calls Tryd.prog 13 #[.agg #[.bool s, .slice A n c, .int .i64 e], .agg #[.bool t, .slice B m d, .int .i64 f]] w (PI w r) := by
 have q1 : (σ != τ) = true := by simpa using hne
 clear hne
 go_enter Tryd.func13, Tryd.ntmps13
 go_upto_region 1 with (fail)
 generalize hW1 : (w.alloc _).alloc _ = w1 at *; obtain ⟨X1, X2, HB⟩ := Bo.en2 hW1; replace hT := hT.below HB.out; replace h := h.below HB.out; replace k := k.below HB.out; clear hW1; refine Jo.rk [0, 1, 2, 3] [some 9, some 10, some 11, some 12, none, none] [[], [0], [], [2], [], []] 6 2 [Jo.Fact.eq (.agg #[.bool s, .slice A n c, .int .i64 e]), Jo.Fact.dy N1 E1 n, Jo.Fact.eq (.agg #[.bool t, .slice B m d, .int .i64 f]), Jo.Fact.dy N2 E2 m, Jo.Fact.any, Jo.Fact.any] (by kernel_rfl) (by kernel_rfl) (by decide) rfl ?_ ?_
 · refine Jo.jm rfl ?_ ?_; rotate_left
   refine Jo.jm rfl ?_ ?_
   · rintro wj hJ _ rfl K hK; simp only [Jo.z] at hK ⊢; go_simp; refine (dTaken (hT.below hJ) (h.below hJ) (by omega) HN1.out HE1.out).mono ?_; rintro ee wk ⟨s1, A1, n1, c1, rfl, p1, k1, B⟩; exact hK.out _ _ ⟨s1, A1, n1, c1, rfl, p1, k1⟩ B
   refine Jo.jm rfl ?_ ?_; rotate_left
   refine Jo.jm rfl ?_ ?_
   · rintro wj hJ _ rfl K hK; simp only [Jo.z] at hK ⊢; go_simp; refine (dTaken (hT.below hJ) (k.below hJ) (by omega) HN2.out HE2.out).mono ?_; rintro ee wk ⟨s2, A2, n2, c2, rfl, p2, k2, B⟩; exact hK.out _ _ ⟨s2, A2, n2, c2, rfl, p2, k2⟩ B
   exact Jo.Steps.nil
   all_goals (rintro wj hJ; (repeat rintro _ rfl); intro K hK; simp only [Jo.z] at hK ⊢; have xX1 := (X1.below hJ).cell; have xX2 := (X2.below hJ).cell; go_simp; exact hK.out _ _ rfl (br _ _))
 rintro w2 hJ _ rfl _ ⟨s1, A1, n1, c1, rfl, p1, k1⟩ _ rfl _ ⟨s2, A2, n2, c2, rfl, p2, k2⟩ -; simp only [Jo.z]; replace X1 := X1.below hJ; replace X2 := X2.below hJ; replace hT := hT.below hJ; replace h := h.below hJ; replace k := k.below hJ; replace HB := Hqb HB hJ; have xX1 := X1.cell; have zX10 := X1.frozen
 refine Jo.jnext (i := 4) (o := ⟨none, _, _, _, _, _⟩) (by kernel_rfl) rfl (fun K hK => ?_)
 go_simp; refine hK.out _ _ ?_; clear hK K xX1 zX10; generalize hS : ((w2.setCell _ _).setCell _ _).setCell _ _ = w3 at *; have SX := StN.of3 X1 hS; replace X2 := X2.stn SX (by omega); replace p1 := p1.stn SX (by simp [no32]); replace p2 := p2.stn SX (by simp [no32]); replace HB := Hqs HB SX (by omega); replace X1 := SX.box; clear SX hS; have xX2 := X2.cell
 have zX20 := X2.frozen
 refine Jo.jnext (i := 5) (o := ⟨none, _, _, _, _, _⟩) (by kernel_rfl) rfl (fun K hK => ?_)
 go_simp; refine hK.out _ _ ?_; clear hK K xX2 zX20; generalize hS : ((w3.setCell _ _).setCell _ _).setCell _ _ = w4 at *; have SX := StN.of3 X2 hS; replace X1 := X1.stn SX (by omega); replace p1 := p1.stn SX (by simp [no32]); replace p2 := p2.stn SX (by simp [no32]); replace HB := Hqs HB SX (by omega); replace X2 := SX.box; clear SX hS; refine Jo.jdone (by kernel_rfl) ?_
 go_upto_region 2 with (fail)
 refine Jo.rk [0, 1, 2, 3, 4, 5, 6, 7] [some 13, some 14, some 15, some 16, some 17, some 18, some 5, some 6] [[], [0], [1], [], [3], [4], [2], [5]] 8 0 [Jo.qp w.heap.size 0, Jo.Fact.eq (.agg #[.bool s1, .slice A1 n1 c1]), Jo.qi σ, Jo.qp (w.heap.size + 1) 0, Jo.Fact.eq (.agg #[.bool s2, .slice A2 n2 c2]), Jo.qi τ, Jo.qi σ, Jo.qi τ] (by kernel_rfl) (by kernel_rfl) (by decide) rfl ?_ ?_
 · iterate 2 (refine Jo.jm rfl ?_ ?_; rotate_left)
   refine Jo.jm rfl ?_ ?_
   · rintro wj hJ _ rfl K hK; simp only [Jo.z] at hK ⊢; go_simp; refine (wSign (p1.below hJ).wr HS.out).mono ?_; rintro ee wk ⟨rfl, B⟩; exact hK.out _ _ rfl B
   iterate 2 (refine Jo.jm rfl ?_ ?_; rotate_left)
   refine Jo.jm rfl ?_ ?_
   · rintro wj hJ _ rfl K hK; simp only [Jo.z] at hK ⊢; go_simp; refine (wSign (p2.below hJ).wr HS2.out).mono ?_; rintro ee wk ⟨rfl, B⟩; exact hK.out _ _ rfl B
   iterate 2 (refine Jo.jm rfl ?_ ?_; rotate_left)
   exact Jo.Steps.nil
   all_goals (rintro wj hJ; (repeat rintro _ rfl); intro K hK; simp only [Jo.z] at hK ⊢; have xX1 := (X1.below hJ).cell; have xX2 := (X2.below hJ).cell; go_simp; exact hK.out _ _ rfl (br _ _))
 rintro w5 hJ _ _ _ rfl _ rfl _ _ _ rfl _ rfl _ rfl _ rfl -; simp only [Jo.z]; replace X1 := X1.below hJ; replace X2 := X2.below hJ; replace p1 := p1.below hJ; replace p2 := p2.below hJ; replace HB := Hqb HB hJ; refine Jo.jdone (by kernel_rfl) ?_
 go_wp2_with (first | (go_at_call 37; ((with_reducible refine (compareInt_any _ _ _).mono ?_); rintro ee w6 ⟨rfl, rfl⟩)))
 go_ret
 exact ⟨ret_int HR.out, HB.out⟩
theorem dcmp_tops {w : World} {A B : Option Addr} {n c m d : Nat} {s t : Bool} {z e y f N1 E1 N2 E2 σ τ x1 x2 p r : Int} (hT : Tab w) (h : Wr w s A n c z) (k : Wr w t B m d y) (hn : n ≤ 100000) (hm : m ≤ 100000) (b1 : -4194304 ≤ E1) (b2 : E1 ≤ 4194304) (b3 : -4194304 ≤ E2) (b4 : E2 ≤ 4194304)
   (HN1 : Hid ((mk z e).1 = N1)) (HE1 : Hid ((mk z e).2 = E1)) (HN2 : Hid ((mk y f).1 = N2)) (HE2 : Hid ((mk y f).2 = E2)) (HS : Hid (cmpI N1 0 = σ)) (HS2 : Hid (cmpI N2 0 = τ)) (heq : σ = τ) (HX1 : Hid (((blen N1.natAbs : Nat) : Int) + E1 = x1)) (HX2 : Hid (((blen N2.natAbs : Nat) : Int) + E2 = x2)) (HP : Hid (cmpI x1 x2 = p)) (hp : p ≠ 0) (HR : Hid (σ * p = r)) :
   Calls Tryd.prog 13 #[.agg #[.bool s, .slice A n c, .int .i64 e], .agg #[.bool t, .slice B m d, .int .i64 f]] w (PI w r) := by
 subst heq
 have q1 : (σ != σ) = false := by simp
 have q2 : (p != 0) = true := by simpa using hp
 have bs : -1 ≤ σ ∧ σ ≤ 1 := HS.out ▸ cmpI_bd _ _
 have bp : -1 ≤ p ∧ p ≤ 1 := HP.out ▸ cmpI_bd _ _
 have HW : Hid (IntKind.i64.wrap (σ * p) = r) := Lib.hid (by
   rw [← HR.out]; refine IntWalk.i64_in _ ?_; obtain ⟨s1, s2⟩ := bs; obtain ⟨p1, p2⟩ := bp
   rcases (by omega : σ = -1 ∨ σ = 0 ∨ σ = 1) with e | e | e <;> rcases (by omega : p = -1 ∨ p = 0 ∨ p = 1) with e2 | e2 | e2 <;> rw [e, e2] <;> decide)
 clear hp bs bp
 go_enter Tryd.func13, Tryd.ntmps13
 go_upto_region 1 with (fail)
 generalize hW1 : (w.alloc _).alloc _ = w1 at *; obtain ⟨X1, X2, HB⟩ := Bo.en2 hW1; replace hT := hT.below HB.out; replace h := h.below HB.out; replace k := k.below HB.out; clear hW1; refine Jo.rk [0, 1, 2, 3] [some 9, some 10, some 11, some 12, none, none] [[], [0], [], [2], [], []] 6 2 [Jo.Fact.eq (.agg #[.bool s, .slice A n c, .int .i64 e]), Jo.Fact.dy N1 E1 n, Jo.Fact.eq (.agg #[.bool t, .slice B m d, .int .i64 f]), Jo.Fact.dy N2 E2 m, Jo.Fact.any, Jo.Fact.any] (by kernel_rfl) (by kernel_rfl) (by decide) rfl ?_ ?_
 · refine Jo.jm rfl ?_ ?_; rotate_left
   refine Jo.jm rfl ?_ ?_
   · rintro wj hJ _ rfl K hK; simp only [Jo.z] at hK ⊢; go_simp; refine (dTaken (hT.below hJ) (h.below hJ) (by omega) HN1.out HE1.out).mono ?_; rintro ee wk ⟨s1, A1, n1, c1, rfl, p1, k1, B⟩; exact hK.out _ _ ⟨s1, A1, n1, c1, rfl, p1, k1⟩ B
   refine Jo.jm rfl ?_ ?_; rotate_left
   refine Jo.jm rfl ?_ ?_
   · rintro wj hJ _ rfl K hK; simp only [Jo.z] at hK ⊢; go_simp; refine (dTaken (hT.below hJ) (k.below hJ) (by omega) HN2.out HE2.out).mono ?_; rintro ee wk ⟨s2, A2, n2, c2, rfl, p2, k2, B⟩; exact hK.out _ _ ⟨s2, A2, n2, c2, rfl, p2, k2⟩ B
   exact Jo.Steps.nil
   all_goals (rintro wj hJ; (repeat rintro _ rfl); intro K hK; simp only [Jo.z] at hK ⊢; have xX1 := (X1.below hJ).cell; have xX2 := (X2.below hJ).cell; go_simp; exact hK.out _ _ rfl (br _ _))
 rintro w2 hJ _ rfl _ ⟨s1, A1, n1, c1, rfl, p1, k1⟩ _ rfl _ ⟨s2, A2, n2, c2, rfl, p2, k2⟩ -; simp only [Jo.z]; replace X1 := X1.below hJ; replace X2 := X2.below hJ; replace hT := hT.below hJ; replace h := h.below hJ; replace k := k.below hJ; replace HB := Hqb HB hJ; have xX1 := X1.cell; have zX10 := X1.frozen
 refine Jo.jnext (i := 4) (o := ⟨none, _, _, _, _, _⟩) (by kernel_rfl) rfl (fun K hK => ?_)
 go_simp; refine hK.out _ _ ?_; clear hK K xX1 zX10; generalize hS : ((w2.setCell _ _).setCell _ _).setCell _ _ = w3 at *; have SX := StN.of3 X1 hS; replace X2 := X2.stn SX (by omega); replace p1 := p1.stn SX (by simp [no32]); replace p2 := p2.stn SX (by simp [no32]); replace HB := Hqs HB SX (by omega); replace X1 := SX.box; clear SX hS; have xX2 := X2.cell
 have zX20 := X2.frozen
 refine Jo.jnext (i := 5) (o := ⟨none, _, _, _, _, _⟩) (by kernel_rfl) rfl (fun K hK => ?_)
 go_simp; refine hK.out _ _ ?_; clear hK K xX2 zX20; generalize hS : ((w3.setCell _ _).setCell _ _).setCell _ _ = w4 at *; have SX := StN.of3 X2 hS; replace X1 := X1.stn SX (by omega); replace p1 := p1.stn SX (by simp [no32]); replace p2 := p2.stn SX (by simp [no32]); replace HB := Hqs HB SX (by omega); replace X2 := SX.box; clear SX hS; refine Jo.jdone (by kernel_rfl) ?_
 go_upto_region 2 with (fail)
 refine Jo.rk [0, 1, 2, 3, 4, 5, 6, 7] [some 13, some 14, some 15, some 16, some 17, some 18, some 5, some 6] [[], [0], [1], [], [3], [4], [2], [5]] 8 0 [Jo.qp w.heap.size 0, Jo.Fact.eq (.agg #[.bool s1, .slice A1 n1 c1]), Jo.qi σ, Jo.qp (w.heap.size + 1) 0, Jo.Fact.eq (.agg #[.bool s2, .slice A2 n2 c2]), Jo.qi σ, Jo.qi σ, Jo.qi σ] (by kernel_rfl) (by kernel_rfl) (by decide) rfl ?_ ?_
 · iterate 2 (refine Jo.jm rfl ?_ ?_; rotate_left)
   refine Jo.jm rfl ?_ ?_
   · rintro wj hJ _ rfl K hK; simp only [Jo.z] at hK ⊢; go_simp; refine (wSign (p1.below hJ).wr HS.out).mono ?_; rintro ee wk ⟨rfl, B⟩; exact hK.out _ _ rfl B
   iterate 2 (refine Jo.jm rfl ?_ ?_; rotate_left)
   refine Jo.jm rfl ?_ ?_
   · rintro wj hJ _ rfl K hK; simp only [Jo.z] at hK ⊢; go_simp; refine (wSign (p2.below hJ).wr HS2.out).mono ?_; rintro ee wk ⟨rfl, B⟩; exact hK.out _ _ rfl B
   iterate 2 (refine Jo.jm rfl ?_ ?_; rotate_left)
   exact Jo.Steps.nil
   all_goals (rintro wj hJ; (repeat rintro _ rfl); intro K hK; simp only [Jo.z] at hK ⊢; have xX1 := (X1.below hJ).cell; have xX2 := (X2.below hJ).cell; go_simp; exact hK.out _ _ rfl (br _ _))
 rintro w5 hJ _ _ _ rfl _ rfl _ _ _ rfl _ rfl _ rfl _ rfl -; simp only [Jo.z]; replace X1 := X1.below hJ; replace X2 := X2.below hJ; replace p1 := p1.below hJ; replace p2 := p2.below hJ; replace HB := Hqb HB hJ; refine Jo.jdone (by kernel_rfl) ?_
 go_upto_region 5 with (fail)
 refine Jo.rk [0, 1, 2, 3, 4, 5] [some 25, some 26, some 27, some 28, some 29, some 7] [[], [0], [], [2], [1, 3], [4]] 6 0 [Jo.Fact.eq (.agg #[.bool s1, .slice A1 n1 c1, .int .i64 E1]), Jo.qi x1, Jo.Fact.eq (.agg #[.bool s2, .slice A2 n2 c2, .int .i64 E2]), Jo.qi x2, Jo.qi p, Jo.qi p] (by kernel_rfl) (by kernel_rfl) (by decide) rfl ?_ ?_
 · refine Jo.jm rfl ?_ ?_; rotate_left
   refine Jo.jm rfl ?_ ?_
   · rintro wj hJ _ rfl K hK; simp only [Jo.z] at hK ⊢; go_simp; refine (dHighest (p1.below hJ) (by omega) b1 b2 HX1.out).mono ?_; rintro ee wk ⟨rfl, B⟩; exact hK.out _ _ rfl B
   refine Jo.jm rfl ?_ ?_; rotate_left
   refine Jo.jm rfl ?_ ?_
   · rintro wj hJ _ rfl K hK; simp only [Jo.z] at hK ⊢; go_simp; refine (dHighest (p2.below hJ) (by omega) b3 b4 HX2.out).mono ?_; rintro ee wk ⟨rfl, B⟩; exact hK.out _ _ rfl B
   refine Jo.jm rfl ?_ ?_
   · rintro wj hJ _ rfl _ rfl K hK; simp only [Jo.z] at hK ⊢; go_simp; refine (compareInt_any x1 x2 wj).mono ?_; rintro ee wk ⟨rfl, rfl⟩; exact hK.out _ _ (val_int HP.out) (br _ _)
   refine Jo.jm rfl ?_ ?_; rotate_left
   exact Jo.Steps.nil
   all_goals (rintro wj hJ; (repeat rintro _ rfl); intro K hK; simp only [Jo.z] at hK ⊢; have xX1 := (X1.below hJ).cell; have xX2 := (X2.below hJ).cell; go_simp; exact hK.out _ _ rfl (br _ _))
 rintro w6 hJ _ rfl _ rfl _ rfl _ rfl _ rfl _ rfl -; simp only [Jo.z]; replace X1 := X1.below hJ; replace X2 := X2.below hJ; replace p1 := p1.below hJ; replace p2 := p2.below hJ; replace HB := Hqb HB hJ; refine Jo.jdone (by kernel_rfl) ?_; have hw := HW.out; go_wp2
 go_ret
 exact ⟨rfl, HB.out⟩
theorem dcmp_up {w : World} {A B : Option Addr} {n c m d : Nat} {s t : Bool} {z e y f N1 E1 N2 E2 σ τ x1 x2 p r : Int} (hT : Tab w) (h : Wr w s A n c z) (k : Wr w t B m d y) (hn : n ≤ 100000) (hm : m ≤ 100000) (b1 : -4194304 ≤ E1) (b2 : E1 ≤ 4194304) (b3 : -4194304 ≤ E2) (b4 : E2 ≤ 4194304)
   (HN1 : Hid ((mk z e).1 = N1)) (HE1 : Hid ((mk z e).2 = E1)) (HN2 : Hid ((mk y f).1 = N2)) (HE2 : Hid ((mk y f).2 = E2)) (HS : Hid (cmpI N1 0 = σ)) (HS2 : Hid (cmpI N2 0 = τ)) (heq : σ = τ) (HX1 : Hid (((blen N1.natAbs : Nat) : Int) + E1 = x1)) (HX2 : Hid (((blen N2.natAbs : Nat) : Int) + E2 = x2)) (HP : Hid (cmpI x1 x2 = p)) (hp : p = 0) (hle : E1 ≤ E2) (HR : Hid (cmpI (N1 * ((2 ^ (E1 - E1).toNat : Nat) : Int)) (N2 * ((2 ^ (E2 - E1).toNat : Nat) : Int)) = r)) :
   Calls Tryd.prog 13 #[.agg #[.bool s, .slice A n c, .int .i64 e], .agg #[.bool t, .slice B m d, .int .i64 f]] w (PI w r) := by
 subst heq
 have q3 : (p != 0) = false := by simpa using hp
 clear hp
 have q1 : (σ != σ) = false := by simp
 have q2 : decide (E2 < E1) = false := by simp; omega
 go_enter Tryd.func13, Tryd.ntmps13
 go_upto_region 1 with (fail)
 generalize hW1 : (w.alloc _).alloc _ = w1 at *; obtain ⟨X1, X2, HB⟩ := Bo.en2 hW1; replace hT := hT.below HB.out; replace h := h.below HB.out; replace k := k.below HB.out; clear hW1; refine Jo.rk [0, 1, 2, 3] [some 9, some 10, some 11, some 12, none, none] [[], [0], [], [2], [], []] 6 2 [Jo.Fact.eq (.agg #[.bool s, .slice A n c, .int .i64 e]), Jo.Fact.dy N1 E1 n, Jo.Fact.eq (.agg #[.bool t, .slice B m d, .int .i64 f]), Jo.Fact.dy N2 E2 m, Jo.Fact.any, Jo.Fact.any] (by kernel_rfl) (by kernel_rfl) (by decide) rfl ?_ ?_
 · refine Jo.jm rfl ?_ ?_; rotate_left
   refine Jo.jm rfl ?_ ?_
   · rintro wj hJ _ rfl K hK; simp only [Jo.z] at hK ⊢; go_simp; refine (dTaken (hT.below hJ) (h.below hJ) (by omega) HN1.out HE1.out).mono ?_; rintro ee wk ⟨s1, A1, n1, c1, rfl, p1, k1, B⟩; exact hK.out _ _ ⟨s1, A1, n1, c1, rfl, p1, k1⟩ B
   refine Jo.jm rfl ?_ ?_; rotate_left
   refine Jo.jm rfl ?_ ?_
   · rintro wj hJ _ rfl K hK; simp only [Jo.z] at hK ⊢; go_simp; refine (dTaken (hT.below hJ) (k.below hJ) (by omega) HN2.out HE2.out).mono ?_; rintro ee wk ⟨s2, A2, n2, c2, rfl, p2, k2, B⟩; exact hK.out _ _ ⟨s2, A2, n2, c2, rfl, p2, k2⟩ B
   exact Jo.Steps.nil
   all_goals (rintro wj hJ; (repeat rintro _ rfl); intro K hK; simp only [Jo.z] at hK ⊢; have xX1 := (X1.below hJ).cell; have xX2 := (X2.below hJ).cell; go_simp; exact hK.out _ _ rfl (br _ _))
 rintro w2 hJ _ rfl _ ⟨s1, A1, n1, c1, rfl, p1, k1⟩ _ rfl _ ⟨s2, A2, n2, c2, rfl, p2, k2⟩ -; simp only [Jo.z]; replace X1 := X1.below hJ; replace X2 := X2.below hJ; replace hT := hT.below hJ; replace h := h.below hJ; replace k := k.below hJ; replace HB := Hqb HB hJ; have xX1 := X1.cell; have zX10 := X1.frozen
 refine Jo.jnext (i := 4) (o := ⟨none, _, _, _, _, _⟩) (by kernel_rfl) rfl (fun K hK => ?_)
 go_simp; refine hK.out _ _ ?_; clear hK K xX1 zX10; generalize hS : ((w2.setCell _ _).setCell _ _).setCell _ _ = w3 at *; have SX := StN.of3 X1 hS; replace X2 := X2.stn SX (by omega); replace p1 := p1.stn SX (by simp [no32]); replace p2 := p2.stn SX (by simp [no32]); replace HB := Hqs HB SX (by omega); replace X1 := SX.box; clear SX hS; have xX2 := X2.cell
 have zX20 := X2.frozen
 refine Jo.jnext (i := 5) (o := ⟨none, _, _, _, _, _⟩) (by kernel_rfl) rfl (fun K hK => ?_)
 go_simp; refine hK.out _ _ ?_; clear hK K xX2 zX20; generalize hS : ((w3.setCell _ _).setCell _ _).setCell _ _ = w4 at *; have SX := StN.of3 X2 hS; replace X1 := X1.stn SX (by omega); replace p1 := p1.stn SX (by simp [no32]); replace p2 := p2.stn SX (by simp [no32]); replace HB := Hqs HB SX (by omega); replace X2 := SX.box; clear SX hS; refine Jo.jdone (by kernel_rfl) ?_
 go_upto_region 2 with (fail)
 refine Jo.rk [0, 1, 2, 3, 4, 5, 6, 7] [some 13, some 14, some 15, some 16, some 17, some 18, some 5, some 6] [[], [0], [1], [], [3], [4], [2], [5]] 8 0 [Jo.qp w.heap.size 0, Jo.Fact.eq (.agg #[.bool s1, .slice A1 n1 c1]), Jo.qi σ, Jo.qp (w.heap.size + 1) 0, Jo.Fact.eq (.agg #[.bool s2, .slice A2 n2 c2]), Jo.qi σ, Jo.qi σ, Jo.qi σ] (by kernel_rfl) (by kernel_rfl) (by decide) rfl ?_ ?_
 · iterate 2 (refine Jo.jm rfl ?_ ?_; rotate_left)
   refine Jo.jm rfl ?_ ?_
   · rintro wj hJ _ rfl K hK; simp only [Jo.z] at hK ⊢; go_simp; refine (wSign (p1.below hJ).wr HS.out).mono ?_; rintro ee wk ⟨rfl, B⟩; exact hK.out _ _ rfl B
   iterate 2 (refine Jo.jm rfl ?_ ?_; rotate_left)
   refine Jo.jm rfl ?_ ?_
   · rintro wj hJ _ rfl K hK; simp only [Jo.z] at hK ⊢; go_simp; refine (wSign (p2.below hJ).wr HS2.out).mono ?_; rintro ee wk ⟨rfl, B⟩; exact hK.out _ _ rfl B
   iterate 2 (refine Jo.jm rfl ?_ ?_; rotate_left)
   exact Jo.Steps.nil
   all_goals (rintro wj hJ; (repeat rintro _ rfl); intro K hK; simp only [Jo.z] at hK ⊢; have xX1 := (X1.below hJ).cell; have xX2 := (X2.below hJ).cell; go_simp; exact hK.out _ _ rfl (br _ _))
 rintro w5 hJ _ _ _ rfl _ rfl _ _ _ rfl _ rfl _ rfl _ rfl -; simp only [Jo.z]; replace X1 := X1.below hJ; replace X2 := X2.below hJ; replace p1 := p1.below hJ; replace p2 := p2.below hJ; replace HB := Hqb HB hJ; refine Jo.jdone (by kernel_rfl) ?_
 go_upto_region 5 with (fail)
 refine Jo.rk [0, 1, 2, 3, 4, 5] [some 25, some 26, some 27, some 28, some 29, some 7] [[], [0], [], [2], [1, 3], [4]] 6 0 [Jo.Fact.eq (.agg #[.bool s1, .slice A1 n1 c1, .int .i64 E1]), Jo.qi x1, Jo.Fact.eq (.agg #[.bool s2, .slice A2 n2 c2, .int .i64 E2]), Jo.qi x2, Jo.qi p, Jo.qi p] (by kernel_rfl) (by kernel_rfl) (by decide) rfl ?_ ?_
 · refine Jo.jm rfl ?_ ?_; rotate_left
   refine Jo.jm rfl ?_ ?_
   · rintro wj hJ _ rfl K hK; simp only [Jo.z] at hK ⊢; go_simp; refine (dHighest (p1.below hJ) (by omega) b1 b2 HX1.out).mono ?_; rintro ee wk ⟨rfl, B⟩; exact hK.out _ _ rfl B
   refine Jo.jm rfl ?_ ?_; rotate_left
   refine Jo.jm rfl ?_ ?_
   · rintro wj hJ _ rfl K hK; simp only [Jo.z] at hK ⊢; go_simp; refine (dHighest (p2.below hJ) (by omega) b3 b4 HX2.out).mono ?_; rintro ee wk ⟨rfl, B⟩; exact hK.out _ _ rfl B
   refine Jo.jm rfl ?_ ?_
   · rintro wj hJ _ rfl _ rfl K hK; simp only [Jo.z] at hK ⊢; go_simp; refine (compareInt_any x1 x2 wj).mono ?_; rintro ee wk ⟨rfl, rfl⟩; exact hK.out _ _ (val_int HP.out) (br _ _)
   refine Jo.jm rfl ?_ ?_; rotate_left
   exact Jo.Steps.nil
   all_goals (rintro wj hJ; (repeat rintro _ rfl); intro K hK; simp only [Jo.z] at hK ⊢; have xX1 := (X1.below hJ).cell; have xX2 := (X2.below hJ).cell; go_simp; exact hK.out _ _ rfl (br _ _))
 rintro w6 hJ _ rfl _ rfl _ rfl _ rfl _ rfl _ rfl -; simp only [Jo.z]; replace X1 := X1.below hJ; replace X2 := X2.below hJ; replace p1 := p1.below hJ; replace p2 := p2.below hJ; replace HB := Hqb HB hJ; refine Jo.jdone (by kernel_rfl) ?_; have xX1 := X1.cell; have xX2 := X2.cell
 go_upto_region 9 with (fail)
 clear xX1 xX2; refine Jo.rk [0, 1, 2, 3, 4, 5, 6, 7] [some 40, some 41, some 42, some 43, some 44, some 45, some 46, some 4] [[], [], [0, 1], [], [], [3, 4], [2, 5], [6]] 8 0 [Jo.Fact.eq (.agg #[.bool s1, .slice A1 n1 c1, .int .i64 E1]), Jo.qi E1, Jo.Fact.wn (N1 * ((2 ^ (E1 - E1).toNat : Nat) : Int)) (n + 262200), Jo.Fact.eq (.agg #[.bool s2, .slice A2 n2 c2, .int .i64 E2]), Jo.qi E1, Jo.Fact.wn (N2 * ((2 ^ (E2 - E1).toNat : Nat) : Int)) (m + 262200), Jo.qi r, Jo.qi r] (by kernel_rfl) (by kernel_rfl) (by decide) rfl ?_ ?_
 · iterate 2 (refine Jo.jm rfl ?_ ?_; rotate_left)
   refine Jo.jm rfl ?_ ?_
   · rintro wj hJ _ rfl _ rfl K hK; simp only [Jo.z] at hK ⊢; go_simp; refine (dTimes (p1.below hJ) (by omega) (by omega) (by omega) rfl).mono ?_; rintro ee wk ⟨s5, A5, n5, c5, rfl, p5, k5, B⟩; exact hK.out _ _ ⟨s5, A5, n5, c5, rfl, p5, by omega⟩ B
   iterate 2 (refine Jo.jm rfl ?_ ?_; rotate_left)
   refine Jo.jm rfl ?_ ?_
   · rintro wj hJ _ rfl _ rfl K hK; simp only [Jo.z] at hK ⊢; go_simp; refine (dTimes (p2.below hJ) (by omega) (by omega) (by omega) rfl).mono ?_; rintro ee wk ⟨s6, A6, n6, c6, rfl, p6, k6, B⟩; exact hK.out _ _ ⟨s6, A6, n6, c6, rfl, p6, by omega⟩ B
   refine Jo.jm rfl ?_ ?_
   · rintro wj hJ _ ⟨s5, A5, n5, c5, rfl, p5, k5⟩ _ ⟨s6, A6, n6, c6, rfl, p6, k6⟩ K hK; simp only [Jo.z] at hK ⊢; go_simp; refine (wCmp p5.wr p6.wr HR.out).mono ?_; rintro ee wk ⟨rfl, B⟩; exact hK.out _ _ rfl B
   refine Jo.jm rfl ?_ ?_; rotate_left
   exact Jo.Steps.nil
   all_goals (rintro wj hJ; (repeat rintro _ rfl); intro K hK; simp only [Jo.z] at hK ⊢; have xX1 := (X1.below hJ).cell; have xX2 := (X2.below hJ).cell; go_simp; exact hK.out _ _ rfl (br _ _))
 rintro w7 hJ _ rfl _ rfl _ ⟨s5, A5, n5, c5, rfl, _, _⟩ _ rfl _ rfl _ ⟨s6, A6, n6, c6, rfl, _, _⟩ _ rfl _ rfl -; simp only [Jo.z]; replace X1 := X1.below hJ; replace X2 := X2.below hJ; replace p1 := p1.below hJ; replace p2 := p2.below hJ; replace HB := Hqb HB hJ; refine Jo.jdone (by kernel_rfl) ?_; go_wp2
 go_ret
 exact ⟨rfl, HB.out⟩
theorem dcmp_dn {w : World} {A B : Option Addr} {n c m d : Nat} {s t : Bool} {z e y f N1 E1 N2 E2 σ τ x1 x2 p r : Int} (hT : Tab w) (h : Wr w s A n c z) (k : Wr w t B m d y) (hn : n ≤ 100000) (hm : m ≤ 100000) (b1 : -4194304 ≤ E1) (b2 : E1 ≤ 4194304) (b3 : -4194304 ≤ E2) (b4 : E2 ≤ 4194304)
   (HN1 : Hid ((mk z e).1 = N1)) (HE1 : Hid ((mk z e).2 = E1)) (HN2 : Hid ((mk y f).1 = N2)) (HE2 : Hid ((mk y f).2 = E2)) (HS : Hid (cmpI N1 0 = σ)) (HS2 : Hid (cmpI N2 0 = τ)) (heq : σ = τ) (HX1 : Hid (((blen N1.natAbs : Nat) : Int) + E1 = x1)) (HX2 : Hid (((blen N2.natAbs : Nat) : Int) + E2 = x2)) (HP : Hid (cmpI x1 x2 = p)) (hp : p = 0) (hle : E2 < E1) (HR : Hid (cmpI (N1 * ((2 ^ (E1 - E2).toNat : Nat) : Int)) (N2 * ((2 ^ (E2 - E2).toNat : Nat) : Int)) = r)) :
   Calls Tryd.prog 13 #[.agg #[.bool s, .slice A n c, .int .i64 e], .agg #[.bool t, .slice B m d, .int .i64 f]] w (PI w r) := by
 subst heq
 have q3 : (p != 0) = false := by simpa using hp
 clear hp
 have q1 : (σ != σ) = false := by simp
 have q2 : decide (E2 < E1) = true := by simp; omega
 go_enter Tryd.func13, Tryd.ntmps13
 go_upto_region 1 with (fail)
 generalize hW1 : (w.alloc _).alloc _ = w1 at *; obtain ⟨X1, X2, HB⟩ := Bo.en2 hW1; replace hT := hT.below HB.out; replace h := h.below HB.out; replace k := k.below HB.out; clear hW1; refine Jo.rk [0, 1, 2, 3] [some 9, some 10, some 11, some 12, none, none] [[], [0], [], [2], [], []] 6 2 [Jo.Fact.eq (.agg #[.bool s, .slice A n c, .int .i64 e]), Jo.Fact.dy N1 E1 n, Jo.Fact.eq (.agg #[.bool t, .slice B m d, .int .i64 f]), Jo.Fact.dy N2 E2 m, Jo.Fact.any, Jo.Fact.any] (by kernel_rfl) (by kernel_rfl) (by decide) rfl ?_ ?_
 · refine Jo.jm rfl ?_ ?_; rotate_left
   refine Jo.jm rfl ?_ ?_
   · rintro wj hJ _ rfl K hK; simp only [Jo.z] at hK ⊢; go_simp; refine (dTaken (hT.below hJ) (h.below hJ) (by omega) HN1.out HE1.out).mono ?_; rintro ee wk ⟨s1, A1, n1, c1, rfl, p1, k1, B⟩; exact hK.out _ _ ⟨s1, A1, n1, c1, rfl, p1, k1⟩ B
   refine Jo.jm rfl ?_ ?_; rotate_left
   refine Jo.jm rfl ?_ ?_
   · rintro wj hJ _ rfl K hK; simp only [Jo.z] at hK ⊢; go_simp; refine (dTaken (hT.below hJ) (k.below hJ) (by omega) HN2.out HE2.out).mono ?_; rintro ee wk ⟨s2, A2, n2, c2, rfl, p2, k2, B⟩; exact hK.out _ _ ⟨s2, A2, n2, c2, rfl, p2, k2⟩ B
   exact Jo.Steps.nil
   all_goals (rintro wj hJ; (repeat rintro _ rfl); intro K hK; simp only [Jo.z] at hK ⊢; have xX1 := (X1.below hJ).cell; have xX2 := (X2.below hJ).cell; go_simp; exact hK.out _ _ rfl (br _ _))
 rintro w2 hJ _ rfl _ ⟨s1, A1, n1, c1, rfl, p1, k1⟩ _ rfl _ ⟨s2, A2, n2, c2, rfl, p2, k2⟩ -; simp only [Jo.z]; replace X1 := X1.below hJ; replace X2 := X2.below hJ; replace hT := hT.below hJ; replace h := h.below hJ; replace k := k.below hJ; replace HB := Hqb HB hJ; have xX1 := X1.cell; have zX10 := X1.frozen
 refine Jo.jnext (i := 4) (o := ⟨none, _, _, _, _, _⟩) (by kernel_rfl) rfl (fun K hK => ?_)
 go_simp; refine hK.out _ _ ?_; clear hK K xX1 zX10; generalize hS : ((w2.setCell _ _).setCell _ _).setCell _ _ = w3 at *; have SX := StN.of3 X1 hS; replace X2 := X2.stn SX (by omega); replace p1 := p1.stn SX (by simp [no32]); replace p2 := p2.stn SX (by simp [no32]); replace HB := Hqs HB SX (by omega); replace X1 := SX.box; clear SX hS; have xX2 := X2.cell
 have zX20 := X2.frozen
 refine Jo.jnext (i := 5) (o := ⟨none, _, _, _, _, _⟩) (by kernel_rfl) rfl (fun K hK => ?_)
 go_simp; refine hK.out _ _ ?_; clear hK K xX2 zX20; generalize hS : ((w3.setCell _ _).setCell _ _).setCell _ _ = w4 at *; have SX := StN.of3 X2 hS; replace X1 := X1.stn SX (by omega); replace p1 := p1.stn SX (by simp [no32]); replace p2 := p2.stn SX (by simp [no32]); replace HB := Hqs HB SX (by omega); replace X2 := SX.box; clear SX hS; refine Jo.jdone (by kernel_rfl) ?_
 go_upto_region 2 with (fail)
 refine Jo.rk [0, 1, 2, 3, 4, 5, 6, 7] [some 13, some 14, some 15, some 16, some 17, some 18, some 5, some 6] [[], [0], [1], [], [3], [4], [2], [5]] 8 0 [Jo.qp w.heap.size 0, Jo.Fact.eq (.agg #[.bool s1, .slice A1 n1 c1]), Jo.qi σ, Jo.qp (w.heap.size + 1) 0, Jo.Fact.eq (.agg #[.bool s2, .slice A2 n2 c2]), Jo.qi σ, Jo.qi σ, Jo.qi σ] (by kernel_rfl) (by kernel_rfl) (by decide) rfl ?_ ?_
 · iterate 2 (refine Jo.jm rfl ?_ ?_; rotate_left)
   refine Jo.jm rfl ?_ ?_
   · rintro wj hJ _ rfl K hK; simp only [Jo.z] at hK ⊢; go_simp; refine (wSign (p1.below hJ).wr HS.out).mono ?_; rintro ee wk ⟨rfl, B⟩; exact hK.out _ _ rfl B
   iterate 2 (refine Jo.jm rfl ?_ ?_; rotate_left)
   refine Jo.jm rfl ?_ ?_
   · rintro wj hJ _ rfl K hK; simp only [Jo.z] at hK ⊢; go_simp; refine (wSign (p2.below hJ).wr HS2.out).mono ?_; rintro ee wk ⟨rfl, B⟩; exact hK.out _ _ rfl B
   iterate 2 (refine Jo.jm rfl ?_ ?_; rotate_left)
   exact Jo.Steps.nil
   all_goals (rintro wj hJ; (repeat rintro _ rfl); intro K hK; simp only [Jo.z] at hK ⊢; have xX1 := (X1.below hJ).cell; have xX2 := (X2.below hJ).cell; go_simp; exact hK.out _ _ rfl (br _ _))
 rintro w5 hJ _ _ _ rfl _ rfl _ _ _ rfl _ rfl _ rfl _ rfl -; simp only [Jo.z]; replace X1 := X1.below hJ; replace X2 := X2.below hJ; replace p1 := p1.below hJ; replace p2 := p2.below hJ; replace HB := Hqb HB hJ; refine Jo.jdone (by kernel_rfl) ?_
 go_upto_region 5 with (fail)
 refine Jo.rk [0, 1, 2, 3, 4, 5] [some 25, some 26, some 27, some 28, some 29, some 7] [[], [0], [], [2], [1, 3], [4]] 6 0 [Jo.Fact.eq (.agg #[.bool s1, .slice A1 n1 c1, .int .i64 E1]), Jo.qi x1, Jo.Fact.eq (.agg #[.bool s2, .slice A2 n2 c2, .int .i64 E2]), Jo.qi x2, Jo.qi p, Jo.qi p] (by kernel_rfl) (by kernel_rfl) (by decide) rfl ?_ ?_
 · refine Jo.jm rfl ?_ ?_; rotate_left
   refine Jo.jm rfl ?_ ?_
   · rintro wj hJ _ rfl K hK; simp only [Jo.z] at hK ⊢; go_simp; refine (dHighest (p1.below hJ) (by omega) b1 b2 HX1.out).mono ?_; rintro ee wk ⟨rfl, B⟩; exact hK.out _ _ rfl B
   refine Jo.jm rfl ?_ ?_; rotate_left
   refine Jo.jm rfl ?_ ?_
   · rintro wj hJ _ rfl K hK; simp only [Jo.z] at hK ⊢; go_simp; refine (dHighest (p2.below hJ) (by omega) b3 b4 HX2.out).mono ?_; rintro ee wk ⟨rfl, B⟩; exact hK.out _ _ rfl B
   refine Jo.jm rfl ?_ ?_
   · rintro wj hJ _ rfl _ rfl K hK; simp only [Jo.z] at hK ⊢; go_simp; refine (compareInt_any x1 x2 wj).mono ?_; rintro ee wk ⟨rfl, rfl⟩; exact hK.out _ _ (val_int HP.out) (br _ _)
   refine Jo.jm rfl ?_ ?_; rotate_left
   exact Jo.Steps.nil
   all_goals (rintro wj hJ; (repeat rintro _ rfl); intro K hK; simp only [Jo.z] at hK ⊢; have xX1 := (X1.below hJ).cell; have xX2 := (X2.below hJ).cell; go_simp; exact hK.out _ _ rfl (br _ _))
 rintro w6 hJ _ rfl _ rfl _ rfl _ rfl _ rfl _ rfl -; simp only [Jo.z]; replace X1 := X1.below hJ; replace X2 := X2.below hJ; replace p1 := p1.below hJ; replace p2 := p2.below hJ; replace HB := Hqb HB hJ; refine Jo.jdone (by kernel_rfl) ?_; have xX1 := X1.cell; have xX2 := X2.cell
 go_upto_region 9 with (fail)
 clear xX1 xX2; refine Jo.rk [0, 1, 2, 3, 4, 5, 6, 7] [some 40, some 41, some 42, some 43, some 44, some 45, some 46, some 4] [[], [], [0, 1], [], [], [3, 4], [2, 5], [6]] 8 0 [Jo.Fact.eq (.agg #[.bool s1, .slice A1 n1 c1, .int .i64 E1]), Jo.qi E2, Jo.Fact.wn (N1 * ((2 ^ (E1 - E2).toNat : Nat) : Int)) (n + 262200), Jo.Fact.eq (.agg #[.bool s2, .slice A2 n2 c2, .int .i64 E2]), Jo.qi E2, Jo.Fact.wn (N2 * ((2 ^ (E2 - E2).toNat : Nat) : Int)) (m + 262200), Jo.qi r, Jo.qi r] (by kernel_rfl) (by kernel_rfl) (by decide) rfl ?_ ?_
 · iterate 2 (refine Jo.jm rfl ?_ ?_; rotate_left)
   refine Jo.jm rfl ?_ ?_
   · rintro wj hJ _ rfl _ rfl K hK; simp only [Jo.z] at hK ⊢; go_simp; refine (dTimes (p1.below hJ) (by omega) (by omega) (by omega) rfl).mono ?_; rintro ee wk ⟨s5, A5, n5, c5, rfl, p5, k5, B⟩; exact hK.out _ _ ⟨s5, A5, n5, c5, rfl, p5, by omega⟩ B
   iterate 2 (refine Jo.jm rfl ?_ ?_; rotate_left)
   refine Jo.jm rfl ?_ ?_
   · rintro wj hJ _ rfl _ rfl K hK; simp only [Jo.z] at hK ⊢; go_simp; refine (dTimes (p2.below hJ) (by omega) (by omega) (by omega) rfl).mono ?_; rintro ee wk ⟨s6, A6, n6, c6, rfl, p6, k6, B⟩; exact hK.out _ _ ⟨s6, A6, n6, c6, rfl, p6, by omega⟩ B
   refine Jo.jm rfl ?_ ?_
   · rintro wj hJ _ ⟨s5, A5, n5, c5, rfl, p5, k5⟩ _ ⟨s6, A6, n6, c6, rfl, p6, k6⟩ K hK; simp only [Jo.z] at hK ⊢; go_simp; refine (wCmp p5.wr p6.wr HR.out).mono ?_; rintro ee wk ⟨rfl, B⟩; exact hK.out _ _ rfl B
   refine Jo.jm rfl ?_ ?_; rotate_left
   exact Jo.Steps.nil
   all_goals (rintro wj hJ; (repeat rintro _ rfl); intro K hK; simp only [Jo.z] at hK ⊢; have xX1 := (X1.below hJ).cell; have xX2 := (X2.below hJ).cell; go_simp; exact hK.out _ _ rfl (br _ _))
 rintro w7 hJ _ rfl _ rfl _ ⟨s5, A5, n5, c5, rfl, _, _⟩ _ rfl _ rfl _ ⟨s6, A6, n6, c6, rfl, _, _⟩ _ rfl _ rfl -; simp only [Jo.z]; replace X1 := X1.below hJ; replace X2 := X2.below hJ; replace p1 := p1.below hJ; replace p2 := p2.below hJ; replace HB := Hqb HB hJ; refine Jo.jdone (by kernel_rfl) ?_; go_wp2
 go_ret
 exact ⟨rfl, HB.out⟩
theorem dCmp {w : World} {A B : Option Addr} {n c m d : Nat} {s t : Bool} {z e y f r : Int} (hT : Tab w) (h : Wr w s A n c z) (k : Wr w t B m d y) (hn : n ≤ 100000) (hm : m ≤ 100000) (hr : cmpI (vl (mk z e)) (vl (mk y f)) = r) :
   Calls Tryd.prog 13 #[.agg #[.bool s, .slice A n c, .int .i64 e], .agg #[.bool t, .slice B m d, .int .i64 f]] w (PI w r) := by
 obtain ⟨b1, b2⟩ := mk_bd z e; obtain ⟨b3, b4⟩ := mk_bd y f
 by_cases hs : cmpI (mk z e).1 0 = cmpI (mk y f).1 0
 · by_cases hp : cmpI (((blen (mk z e).1.natAbs : Nat) : Int) + (mk z e).2) (((blen (mk y f).1.natAbs : Nat) : Int) + (mk y f).2) = 0
   · by_cases hle : (mk z e).2 ≤ (mk y f).2
     · refine dcmp_up hT h k hn hm b1 b2 b3 b4 (Lib.hid rfl) (Lib.hid rfl) (Lib.hid rfl) (Lib.hid rfl) (Lib.hid rfl) (Lib.hid rfl) hs (Lib.hid rfl) (Lib.hid rfl) (Lib.hid rfl) hp hle (Lib.hid ?_); rw [← hr, ← vl_cmp_low (Int.le_refl (mk z e).2) hle b1]
       simp
     · refine dcmp_dn hT h k hn hm b1 b2 b3 b4 (Lib.hid rfl) (Lib.hid rfl) (Lib.hid rfl) (Lib.hid rfl) (Lib.hid rfl) (Lib.hid rfl) hs (Lib.hid rfl) (Lib.hid rfl) (Lib.hid rfl) hp (by omega) (Lib.hid ?_); rw [← hr, ← vl_cmp_low (l := (mk y f).2) (by omega) (Int.le_refl _) b3]
       simp
   · refine dcmp_tops hT h k hn hm b1 b2 b3 b4 (Lib.hid rfl) (Lib.hid rfl) (Lib.hid rfl) (Lib.hid rfl) (Lib.hid rfl) (Lib.hid rfl) hs (Lib.hid rfl) (Lib.hid rfl) (Lib.hid rfl) hp (Lib.hid ?_); rw [← hr]; exact vl_cmp_top (mk_nf _ _) (mk_nf _ _) hs rfl hp
 · refine dcmp_signs hT h k hn hm b1 b2 b3 b4 (Lib.hid rfl) (Lib.hid rfl) (Lib.hid rfl) (Lib.hid rfl) (Lib.hid rfl) (Lib.hid rfl) hs (Lib.hid ?_); rw [← hr, ← vl_sign, ← vl_sign]; exact cmp_signs (by rw [vl_sign, vl_sign]; exact hs)
end Go.Proofs.YtmmallhniijdfaaDoor

/-
 Contracts that the proof rests on.
-/
import Derived.Test.YtmmallhniijdfaaGreatDoorYAay
namespace Go.Proofs.YtmmallhniijdfaaGreatDoor
set_option maxHeartbeats 4000000
open Go.RowKit
set_option linter.unusedVariables false
set_option linter.unusedSimpArgs false
set_option maxRecDepth 100000
theorem nx_sgi (s : Bool) {x : Int} (h0 : 0 ≤ x) (h1 : x ≤ 19342822337206103650074624) : nx (!s) (sgi s x) = sgi s (x + 1) := by
 have := TP_eq
 unfold nx
 cases s
 · show min TP (x + 1) = x + 1
   omega
 · show max (-TP) (-x - 1) = -(x + 1)
   omega
theorem nx_lo {a : Nat} {E : Int} (s : Bool) (h : ext a E = false) : nx (!s) (sgi s (lo a E)) = sgi s (hi a E) := by
 obtain ⟨h1, h2⟩ := lo_bd a E
 have hh : hi a E = lo a E + 1 := by
   unfold hi
   rw [h, if_neg (by decide)]
 rw [hh, nx_sgi s h1 h2]
theorem pick_t (s : Bool) (x y : Int) (b : Bool) (h : b = true) : sgi s (if b = true then x else y) = sgi s x := by rw [if_pos h]
theorem pick_f (s : Bool) (x y : Int) (b : Bool) (h : b = false) : sgi s (if b = true then x else y) = sgi s y := by rw [h, if_neg (by decide)]
theorem rnd_ext {up : Bool} {N E : Int} (h : ext N.natAbs E = true) : rnd up N E = sgi (decide (N < 0)) (lo N.natAbs E) := by
 unfold rnd hi
 rw [if_pos h]
 cases hb : (up != decide (N < 0))
 · exact pick_f _ _ _ _ rfl
 · exact pick_t _ _ _ _ rfl
theorem rnd_same {up s : Bool} {N E : Int} (hs : s = decide (N < 0)) (h : s = up) : rnd up N E = sgi s (lo N.natAbs E) := by
 unfold rnd
 rw [← hs, h]
 exact pick_f _ _ _ _ (by cases up <;> rfl)
theorem rnd_diff {s : Bool} {N E : Int} (hs : s = decide (N < 0)) : rnd (!s) N E = sgi s (hi N.natAbs E) := by
 unfold rnd
 rw [← hs]
 exact pick_t _ _ _ _ (by cases s <;> rfl)
theorem nround_y {w : World} {A : Option Addr} {n c : Nat} {s up : Bool} {z e N E r : Int} (hT : Tab w) (h : Wr w s A n c z) (hn : n ≤ 100000) (hN : (mk z e).1 = N) (hE : (mk z e).2 = E) (hr : rnd up N E = r) (hm : mayD s n z.natAbs e = true) :
   Calls Tryz.prog 120 #[.agg #[.bool s, .slice A n c, .int .i64 e], .bool up] w (PN w r) := by
 obtain ⟨b1, b2⟩ := mk_bd z e; rw [hE] at b1 b2; have HM := Lib.hid hm; have HR := Lib.hid hr; obtain ⟨hwn, hmk⟩ := mayD_true h hm
 obtain rfl : z = N := by rw [← hN, hmk]
 obtain rfl : e = E := by rw [← hE, hmk]
 have HSG := Lib.hid hwn.2; have hd := hwn.1.rd; clear hm hr hN hE hmk hwn
 go_enter Tryz.func120, Tryz.ntmps120
 go_upto_region 1 with (fail)
 generalize hW1 : (w.alloc _).alloc _ = w1 at *; obtain ⟨X1, XR, HB⟩ := Bo.en2 hW1; replace hT := hT.below HB.out; replace h := h.below HB.out; replace hd := hd.below HB.out; clear hW1; have xX1 := X1.cell
 go_wp2_with fail
 refine (dMay h.rd HM.out).mono ?_; rintro ee w2 ⟨rfl, B⟩; clear xX1; replace X1 := X1.below B; replace XR := XR.below B; replace hT := hT.below B; replace h := h.below B; replace hd := hd.below B; replace HB := Hqb HB B; clear B; obtain ⟨x, hx⟩ : ∃ x, sgi s (lo z.natAbs e) = x := ⟨_, rfl⟩; obtain ⟨t, ht⟩ : ∃ t, ext z.natAbs e = t := ⟨_, rfl⟩; have HX := Lib.hid hx; have HT := Lib.hid ht
 clear hx ht; have xX1 := X1.cell
 go_wp2_with fail
 refine (nCut hd hn b1 b2 HX.out HT.out).mono ?_; rintro ee w5 ⟨K2, s2, M2, E2, rfl, q2, B⟩; clear xX1; replace X1 := X1.below B; replace XR := XR.below B; replace hd := hd.below B; replace HB := Hqb HB B; clear B; clear hd
 go_upto_region 4 with (fail)
 have lX5 := Nat.le_refl (World.heap w5).size; have nX5X1 := X1.lt; have nX5XR := XR.lt; generalize hWn : w5.alloc _ = w6 at *; obtain ⟨X5, BW⟩ := Bo.nw hWn; clear hWn; replace X1 := X1.below BW; replace XR := XR.below BW; replace HB := Hqb HB BW; clear BW; clear lX5
 by_cases ht : t = true
 · subst ht
   obtain rfl : x = r := by rw [← HX.out, ← HR.out, rnd_ext HT.out, HSG.out]
   have xXR := XR.cell; have zXR0 := XR.frozen; have xX1 := X1.cell; have xX5 := X5.cell; go_wp2; clear xXR zXR0 xX1 xX5; have SX := StN.mk4 XR (.int .i64 K2) (.bool s2) (.int .u64 M2) (.int .i64 E2); exact bodyPost_ret (by simp [results, Tryz.results120, go_sem, SX.box.cell]) rfl ⟨_, _, _, _, rfl, q2, (SX.below HB.out (by omega))⟩
 · have ht : t = false := by simpa using ht
   subst ht
   by_cases hs : s = up
   · obtain rfl : x = r := by rw [← HX.out, ← HR.out, rnd_same HSG.out hs]
     subst hs; have xXR := XR.cell; have zXR0 := XR.frozen; have xX1 := X1.cell; have xX5 := X5.cell; go_wp2; clear xXR zXR0 xX1 xX5; have SX := StN.mk4 XR (.int .i64 K2) (.bool s2) (.int .u64 M2) (.int .i64 E2); exact bodyPost_ret (by simp [results, Tryz.results120, go_sem, SX.box.cell]) rfl ⟨_, _, _, _, rfl, q2, (SX.below HB.out (by omega))⟩
   · obtain rfl : (!s) = up := by cases s <;> cases up <;> first | rfl | exact absurd rfl hs
     clear hs
     have e2 : (s == !s) = false := by cases s <;> rfl
     have HRR : Hid (nx (!s) (rk K2 s2 M2 E2) = r) := Lib.hid (by rw [q2.rk, ← HX.out, nx_lo s HT.out, ← HR.out, rnd_diff HSG.out])
     have xX1 := X1.cell; have xX5 := X5.cell
     go_wp2_with fail
     refine (nNext q2.top HRR.out).mono ?_; rintro ee w7 ⟨K3, s3, M3, E3, rfl, q3, B⟩; clear xX1 xX5; replace X1 := X1.below B; replace XR := XR.below B; replace X5 := X5.below B; replace HB := Hqb HB B; clear B; have xXR := XR.cell; have zXR0 := XR.frozen; have xX1 := X1.cell; have xX5 := X5.cell; go_wp2
     clear xXR zXR0 xX1 xX5; have SX := StN.mk4 XR (.int .i64 K3) (.bool s3) (.int .u64 M3) (.int .i64 E3); exact bodyPost_ret (by simp [results, Tryz.results120, go_sem, SX.box.cell]) rfl ⟨_, _, _, _, rfl, q3, (SX.below HB.out (by omega))⟩
theorem nround_n {w : World} {A : Option Addr} {n c : Nat} {s up : Bool} {z e N E r : Int} (hT : Tab w) (h : Wr w s A n c z) (hn : n ≤ 100000) (hN : (mk z e).1 = N) (hE : (mk z e).2 = E) (hr : rnd up N E = r) (hm : mayD s n z.natAbs e = false) :
   Calls Tryz.prog 120 #[.agg #[.bool s, .slice A n c, .int .i64 e], .bool up] w (PN w r) := by
 obtain ⟨b1, b2⟩ := mk_bd z e; rw [hE] at b1 b2; have HM := Lib.hid hm; have HR := Lib.hid hr; have HN := Lib.hid hN; have HE := Lib.hid hE; clear hm hr hN hE
 go_enter Tryz.func120, Tryz.ntmps120
 go_upto_region 1 with (fail)
 generalize hW1 : (w.alloc _).alloc _ = w1 at *; obtain ⟨X1, XR, HB⟩ := Bo.en2 hW1; replace hT := hT.below HB.out; replace h := h.below HB.out; clear hW1; have xX1 := X1.cell
 go_wp2_with fail
 refine (dMay h.rd HM.out).mono ?_; rintro ee w2 ⟨rfl, B⟩; clear xX1; replace X1 := X1.below B; replace XR := XR.below B; replace hT := hT.below B; replace h := h.below B; replace HB := Hqb HB B; clear B; have xX1 := X1.cell
 go_wp2_with fail
 refine (dMake hT h hn HN.out HE.out).mono ?_; rintro ee w3 ⟨s1, A1, n1, c1, rfl, p1, k1, B⟩; clear xX1; replace X1 := X1.below B; replace XR := XR.below B; replace hT := hT.below B; replace h := h.below B; replace HB := Hqb HB B; clear B; have xX1 := X1.cell; have zX10 := X1.frozen
 go_upto_region 3 with (fail)
 clear xX1 zX10; generalize hS : ((w3.setCell _ _).setCell _ _).setCell _ _ = w4 at *; have SX := StN.of3 X1 hS; replace XR := XR.stn SX (by omega); replace p1 := p1.stn SX (by simp [no32]); replace HB := Hqs HB SX (by omega); replace X1 := SX.box; clear SX hS; have HSG := Lib.hid p1.2; have hd := p1.1.rd
 have hn1 : n1 ≤ 100000 := by omega
 clear p1; obtain ⟨x, hx⟩ : ∃ x, sgi s1 (lo N.natAbs E) = x := ⟨_, rfl⟩; obtain ⟨t, ht⟩ : ∃ t, ext N.natAbs E = t := ⟨_, rfl⟩; have HX := Lib.hid hx; have HT := Lib.hid ht; clear hx ht; have xX1 := X1.cell
 go_wp2_with fail
 refine (nCut hd hn1 b1 b2 HX.out HT.out).mono ?_; rintro ee w5 ⟨K2, s2, M2, E2, rfl, q2, B⟩; clear xX1; replace X1 := X1.below B; replace XR := XR.below B; replace hd := hd.below B; replace HB := Hqb HB B; clear B; clear hd
 go_upto_region 4 with (fail)
 have lX5 := Nat.le_refl (World.heap w5).size; have nX5X1 := X1.lt; have nX5XR := XR.lt; generalize hWn : w5.alloc _ = w6 at *; obtain ⟨X5, BW⟩ := Bo.nw hWn; clear hWn; replace X1 := X1.below BW; replace XR := XR.below BW; replace HB := Hqb HB BW; clear BW; clear lX5
 by_cases ht : t = true
 · subst ht
   obtain rfl : x = r := by rw [← HX.out, ← HR.out, rnd_ext HT.out, HSG.out]
   have xXR := XR.cell; have zXR0 := XR.frozen; have xX1 := X1.cell; have xX5 := X5.cell; go_wp2; clear xXR zXR0 xX1 xX5; have SX := StN.mk4 XR (.int .i64 K2) (.bool s2) (.int .u64 M2) (.int .i64 E2); exact bodyPost_ret (by simp [results, Tryz.results120, go_sem, SX.box.cell]) rfl ⟨_, _, _, _, rfl, q2, (SX.below HB.out (by omega))⟩
 · have ht : t = false := by simpa using ht
   subst ht
   by_cases hs : s1 = up
   · obtain rfl : x = r := by rw [← HX.out, ← HR.out, rnd_same HSG.out hs]
     subst hs; have xXR := XR.cell; have zXR0 := XR.frozen; have xX1 := X1.cell; have xX5 := X5.cell; go_wp2; clear xXR zXR0 xX1 xX5; have SX := StN.mk4 XR (.int .i64 K2) (.bool s2) (.int .u64 M2) (.int .i64 E2); exact bodyPost_ret (by simp [results, Tryz.results120, go_sem, SX.box.cell]) rfl ⟨_, _, _, _, rfl, q2, (SX.below HB.out (by omega))⟩
   · obtain rfl : (!s1) = up := by cases s1 <;> cases up <;> first | rfl | exact absurd rfl hs
     clear hs
     have e2 : (s1 == !s1) = false := by cases s1 <;> rfl
     have HRR : Hid (nx (!s1) (rk K2 s2 M2 E2) = r) := Lib.hid (by rw [q2.rk, ← HX.out, nx_lo s1 HT.out, ← HR.out, rnd_diff HSG.out])
     have xX1 := X1.cell; have xX5 := X5.cell
     go_wp2_with fail
     refine (nNext q2.top HRR.out).mono ?_; rintro ee w7 ⟨K3, s3, M3, E3, rfl, q3, B⟩; clear xX1 xX5; replace X1 := X1.below B; replace XR := XR.below B; replace X5 := X5.below B; replace HB := Hqb HB B; clear B; have xXR := XR.cell; have zXR0 := XR.frozen; have xX1 := X1.cell; have xX5 := X5.cell; go_wp2
     clear xXR zXR0 xX1 xX5; have SX := StN.mk4 XR (.int .i64 K3) (.bool s3) (.int .u64 M3) (.int .i64 E3); exact bodyPost_ret (by simp [results, Tryz.results120, go_sem, SX.box.cell]) rfl ⟨_, _, _, _, rfl, q3, (SX.below HB.out (by omega))⟩
theorem nRound {w : World} {A : Option Addr} {n c : Nat} {s up : Bool} {z e N E r : Int} (hT : Tab w) (h : Wr w s A n c z) (hn : n ≤ 100000) (hN : (mk z e).1 = N) (hE : (mk z e).2 = E) (hr : rnd up N E = r) :
   Calls Tryz.prog 120 #[.agg #[.bool s, .slice A n c, .int .i64 e], .bool up] w (PN w r) := by
 cases hm : mayD s n z.natAbs e
 · exact nround_n hT h hn hN hE hr hm
 · exact nround_y hT h hn hN hE hr hm
def PDB (w : World) (N E : Int) (t : Bool) (e : Ending) (w' : World) : Prop := ∃ s A n c, e = .returned (.tuple #[.agg #[.bool s, .slice A n c, .int .i64 E], .bool t]) ∧ Wn w' s A n c N ∧ n ≤ 2 ∧ Below w.heap.size w w'
def exb (D : Int) (s : Bool) (M E : Int) : Bool := decide (MayQ D s M E) && !(D == 2)
def exq (D : Int) (s : Bool) (M E : Int) : Int × Int := if exb D s M E = true then mk (sgi s M) E else (0, 0)
def Jo.Fact.rd (a K : Nat) : Jo.Fact := ⟨fun v w => ∃ A n c, v = .slice A n c ∧ Rd w A n c a ∧ n ≤ K, fun v w w' h b => by
 obtain ⟨A, n, c, e, h, k⟩ := h; exact ⟨A, n, c, e, h.below b, k⟩⟩
theorem lit_rdk (W : World) {X Y a : Nat} (hX : X < 4294967296) (hY : Y < 4294967296) (ha : Y + 4294967296 * X = a) : Rd (W.alloc (.cells #[.int .u32 (Y : Int), .int .u32 (X : Int)] 54)) (some ⟨W.heap.size, 0, none⟩) 2 2 a :=
 ⟨_, _, lit2 W Y X hY hX, by simp [val]; omega⟩
theorem sg_toNat {s : Bool} {M : Int} (h : 0 ≤ M) : sg s M.toNat = sgi s M := by
 have : ((M.toNat : Nat) : Int) = M := by omega
 unfold sg sgi
 rw [this]
theorem nexact_a {w : World} {D M E : Int} {s : Bool} (hm : decide (MayQ D s M E) = false) : Calls Tryz.prog 42 #[VQ D s M E] w (PDB w 0 0 false) := by
 delta VQ
 have HM := Lib.hid hm; clear hm
 go_enter Tryz.func42, Tryz.ntmps42
 go_upto_region 1 with (fail)
 generalize hW1 : (w.alloc _).alloc _ = w1 at *; obtain ⟨X1, XR, HB⟩ := Bo.en2 hW1; clear hW1; have xX1 := X1.cell
 go_wp2_with fail
 refine (nMay HM.out).mono ?_; rintro ee w2 ⟨rfl, B⟩; clear xX1; replace X1 := X1.below B; replace XR := XR.below B; replace HB := Hqb HB B; clear B; have xXR := XR.cell; have zXR0 := XR.frozen; have xX1 := X1.cell; go_wp2; clear xXR zXR0 xX1; have SX := StN.mk3 XR (.bool false) (.slice none 0 0) (.int .i64 0)
 exact bodyPost_ret (v := .tuple #[.agg #[.bool false, .slice none 0 0, .int .i64 0], .bool false]) (by simp [results, Tryz.results42, go_sem, SX.box.cell]) rfl ⟨_, _, _, _, rfl, Wn.zero, by decide, (SX.below HB.out (by omega))⟩
theorem nexact_b {w : World} {D M E : Int} {s : Bool} (hm : decide (MayQ D s M E) = true) (hd : D = 2) : Calls Tryz.prog 42 #[VQ D s M E] w (PDB w 0 0 false) := by
 delta VQ
 have HM := Lib.hid hm; clear hm; subst hd
 go_enter Tryz.func42, Tryz.ntmps42
 go_upto_region 1 with (fail)
 generalize hW1 : (w.alloc _).alloc _ = w1 at *; obtain ⟨X1, XR, HB⟩ := Bo.en2 hW1; clear hW1; have xX1 := X1.cell
 go_wp2_with fail
 refine (nMay HM.out).mono ?_; rintro ee w2 ⟨rfl, B⟩; clear xX1; replace X1 := X1.below B; replace XR := XR.below B; replace HB := Hqb HB B; clear B; have xXR := XR.cell; have zXR0 := XR.frozen; have xX1 := X1.cell; go_wp2; clear xXR zXR0 xX1; have SX := StN.mk3 XR (.bool false) (.slice none 0 0) (.int .i64 0)
 exact bodyPost_ret (v := .tuple #[.agg #[.bool false, .slice none 0 0, .int .i64 0], .bool false]) (by simp [results, Tryz.results42, go_sem, SX.box.cell]) rfl ⟨_, _, _, _, rfl, Wn.zero, by decide, (SX.below HB.out (by omega))⟩
theorem nexact_m {w : World} {D M E : Int} {s : Bool} {N F : Int} (hT : Tab w) (h0 : 0 ≤ M) (hM : LQ M) (hm : decide (MayQ D s M E) = true) (hd : D ≠ 2) (hN : (mk (sgi s M) E).1 = N) (hE : (mk (sgi s M) E).2 = F) : Calls Tryz.prog 42 #[VQ D s M E] w (PDB w N F true) := by
 delta VQ
 have HM := Lib.hid hm; have HN := Lib.hid hN; have HE := Lib.hid hE
 have e2 : (D == 2) = false := by simpa using hd
 obtain ⟨X, hX⟩ : ∃ X : Nat, M / 4294967296 = X := ⟨(M / 4294967296).toNat, by omega⟩
 obtain ⟨Y, hY⟩ : ∃ Y : Nat, M % 4294967296 = Y := ⟨(M % 4294967296).toNat, by omega⟩
 have hx : X < 4294967296 := by omega
 have hy : Y < 4294967296 := by omega
 have ha : Y + 4294967296 * X = M.toNat := by omega
 have HX := Lib.hid hX
 have HY : Hid (IntKind.u32.wrap M = (Y : Int)) := Lib.hid (by
   show M % 4294967296 = (Y : Int)
   exact hY)
 have HX2 : Hid (IntKind.u32.wrap (X : Int) = (X : Int)) := Lib.hid (IntWalk.u32_in _ (by omega))
 have HS : Hid (sg s M.toNat = sgi s M) := Lib.hid (sg_toNat h0)
 clear hm hN hE hX hY
 go_enter Tryz.func42, Tryz.ntmps42
 go_upto_region 1 with (fail)
 generalize hW1 : (w.alloc _).alloc _ = w1 at *; obtain ⟨X1, XR, HB⟩ := Bo.en2 hW1; replace hT := hT.below HB.out; clear hW1; have xX1 := X1.cell
 go_wp2_with fail
 refine (nMay HM.out).mono ?_; rintro ee w2 ⟨rfl, B⟩; clear xX1; replace X1 := X1.below B; replace XR := XR.below B; replace hT := hT.below B; replace HB := Hqb HB B; clear B; have xX1 := X1.cell
 go_upto_region 3 with (fail)
 clear xX1; refine Jo.rk [0, 1, 2, 3, 4, 5, 6, 7, 8, 9, 10, 11, 12, 13] [some 13, some 14, some 15, some 16, some 17, some 18, some 19, some 20, some 21, some 22, some 23, some 24, some 25, some 26, none, some 3] [[], [0], [], [2], [3], [], [5], [6], [7], [4, 8], [1, 9], [], [11], [10, 12], [], []] 16 2 [Jo.qp w.heap.size 1, Jo.qb s, Jo.qp w.heap.size 2, Jo.Fact.eq (.int .u64 M), Jo.Fact.eq (.int .u32 (Y : Int)), Jo.qp w.heap.size 2, Jo.Fact.eq (.int .u64 M), Jo.Fact.eq (.int .u64 (X : Int)), Jo.Fact.eq (.int .u32 (X : Int)), Jo.Fact.rd M.toNat 2, Jo.Fact.wn (sgi s M) 2, Jo.qp w.heap.size 3, Jo.qi E, Jo.Fact.dy N F 2, Jo.Fact.any, Jo.Fact.any] (by kernel_rfl) (by kernel_rfl) (by decide) rfl ?_ ?_
 · refine Jo.jm rfl ?_ ?_; rotate_left
   refine Jo.jm rfl ?_ ?_
   · rintro wj hJ _ rfl K hK; simp only [Jo.z] at hK ⊢; have xX11 := (X1.below hJ).a 1 (.bool s) rfl; go_simp; exact hK.out _ _ rfl (br _ _)
   refine Jo.jm rfl ?_ ?_; rotate_left
   refine Jo.jm rfl ?_ ?_
   · rintro wj hJ _ rfl K hK; simp only [Jo.z] at hK ⊢; have xX12 := (X1.below hJ).a 2 (.int .u64 M) rfl; go_simp; exact hK.out _ _ rfl (br _ _)
   refine Jo.jm rfl ?_ ?_
   · rintro wj hJ _ rfl K hK; simp only [Jo.z] at hK ⊢; have hy2 := HY.out; go_simp; exact hK.out _ _ rfl (br _ _)
   refine Jo.jm rfl ?_ ?_; rotate_left
   refine Jo.jm rfl ?_ ?_
   · rintro wj hJ _ rfl K hK; simp only [Jo.z] at hK ⊢; have xX12 := (X1.below hJ).a 2 (.int .u64 M) rfl; go_simp; exact hK.out _ _ rfl (br _ _)
   refine Jo.jm rfl ?_ ?_
   · rintro wj hJ _ rfl K hK; simp only [Jo.z] at hK ⊢; have hx2 := HX.out; go_simp; exact hK.out _ _ rfl (br _ _)
   refine Jo.jm rfl ?_ ?_
   · rintro wj hJ _ rfl K hK; simp only [Jo.z] at hK ⊢; have hx2 := HX2.out; go_simp; exact hK.out _ _ rfl (br _ _)
   refine Jo.jm rfl ?_ ?_
   · rintro wj hJ _ rfl _ rfl K hK; simp only [Jo.z] at hK ⊢; go_simp; exact hK.out _ _ ⟨_, 2, 2, rfl, lit_rdk _ hx hy ha, by decide⟩ (bel1 _ _)
   refine Jo.jm rfl ?_ ?_
   · rintro wj hJ _ rfl _ ⟨A3, n3, c3, rfl, p3, k3⟩ K hK; simp only [Jo.z] at hK ⊢; go_simp; refine (wMake s p3).mono ?_; rintro ee wk ⟨s4, A4, n4, c4, rfl, p4, k4, B⟩; exact hK.out _ _ ⟨s4, A4, n4, c4, rfl, HS.out ▸ p4, by omega⟩ B
   refine Jo.jm rfl ?_ ?_; rotate_left
   refine Jo.jm rfl ?_ ?_
   · rintro wj hJ _ rfl K hK; simp only [Jo.z] at hK ⊢; have xX13 := (X1.below hJ).a 3 (.int .i64 E) rfl; go_simp; exact hK.out _ _ rfl (br _ _)
   refine Jo.jm rfl ?_ ?_
   · rintro wj hJ _ ⟨s4, A4, n4, c4, rfl, p4, k4⟩ _ rfl K hK; simp only [Jo.z] at hK ⊢; go_simp; refine (dMake (hT.below hJ) p4.wr (by omega) HN.out HE.out).mono ?_; rintro ee wk ⟨s5, A5, n5, c5, rfl, p5, k5, B⟩; exact hK.out _ _ ⟨s5, A5, n5, c5, rfl, p5, by omega⟩ B
   exact Jo.Steps.nil
   all_goals (rintro wj hJ; (repeat rintro _ rfl); intro K hK; simp only [Jo.z] at hK ⊢; go_simp; exact hK.out _ _ rfl (br _ _))
 rintro w3 hJ _ _ _ rfl _ _ _ rfl _ rfl _ _ _ rfl _ rfl _ rfl _ ⟨A3, n3, c3, rfl, _, _⟩ _ ⟨s4, A4, n4, c4, rfl, _, _⟩ _ _ _ rfl _ ⟨s5, A5, n5, c5, rfl, p5, k5⟩ -; simp only [Jo.z]; replace X1 := X1.below hJ; replace XR := XR.below hJ; replace hT := hT.below hJ; replace HB := Hqb HB hJ; have xXR := XR.cell; have zXR0 := XR.frozen
 refine Jo.jnext (i := 14) (o := ⟨none, _, _, _, _, _⟩) (by kernel_rfl) rfl (fun K hK => ?_)
 go_simp; refine hK.out _ _ ?_; clear hK K xXR zXR0; generalize hS : ((w3.setCell _ _).setCell _ _).setCell _ _ = w4 at *; have SX := StN.of3 XR hS; replace X1 := X1.stn SX (by omega); replace p5 := p5.stn SX (by simp [no32]); replace HB := Hqs HB SX (by omega); replace XR := SX.box; clear SX hS
 refine Jo.jnext (i := 15) (o := ⟨some 3, _, _, _, _, _⟩) (by kernel_rfl) rfl (fun K hK => ?_)
 go_simp; refine hK.out _ _ ?_; clear hK K; refine Jo.jdone (by kernel_rfl) ?_; go_wp2; exact bodyPost_ret (v := .tuple #[.agg #[.bool s5, .slice A5 n5 c5, .int .i64 F], .bool true]) (by simp [results, Tryz.results42, go_sem, XR.cell]) rfl ⟨_, _, _, _, rfl, p5, k5, HB.out⟩
theorem nExact {w : World} {t : Bool} {D M E : Int} {s : Bool} {N F : Int} (hT : Tab w) (h0 : 0 ≤ M) (hM : LQ M) (hq : exb D s M E = t) (hN : (exq D s M E).1 = N) (hE : (exq D s M E).2 = F) : Calls Tryz.prog 42 #[VQ D s M E] w (PDB w N F t) := by
 delta VQ
 unfold exq at hN hE
 rw [hq] at hN hE
 unfold exb at hq
 cases hm : decide (MayQ D s M E)
 · rw [hm, Bool.false_and] at hq; subst hq; subst hN; subst hE; exact nexact_a hm
 · rw [hm, Bool.true_and] at hq
   by_cases hd : D = 2
   · have e : (D == 2) = true := by simpa using hd
     rw [e] at hq; subst hq; subst hN; subst hE; exact nexact_b hm hd
   · have e : (D == 2) = false := by simpa using hd
     rw [e] at hq
     obtain rfl : true = t := hq
     rw [if_pos rfl] at hN hE; exact nexact_m hT h0 hM hm hd hN hE
theorem yexact_a {w : World} {D M E : Int} {s : Bool} (hm : decide (MayQ D s M E) = false) : Calls Tryz.prog 46 #[VQ D s M E] w (PDB w 0 0 false) := by
 delta VQ
 have HM := Lib.hid hm; clear hm
 go_enter Tryz.func46, Tryz.ntmps46
 go_upto_region 1 with (fail)
 generalize hW1 : (w.alloc _).alloc _ = w1 at *; obtain ⟨X1, XR, HB⟩ := Bo.en2 hW1; clear hW1; have xX1 := X1.cell
 go_wp2_with fail
 refine (yMay HM.out).mono ?_; rintro ee w2 ⟨rfl, B⟩; clear xX1; replace X1 := X1.below B; replace XR := XR.below B; replace HB := Hqb HB B; clear B; have xXR := XR.cell; have zXR0 := XR.frozen; have xX1 := X1.cell; go_wp2; clear xXR zXR0 xX1; have SX := StN.mk3 XR (.bool false) (.slice none 0 0) (.int .i64 0)
 exact bodyPost_ret (v := .tuple #[.agg #[.bool false, .slice none 0 0, .int .i64 0], .bool false]) (by simp [results, Tryz.results46, go_sem, SX.box.cell]) rfl ⟨_, _, _, _, rfl, Wn.zero, by decide, (SX.below HB.out (by omega))⟩
theorem yexact_b {w : World} {D M E : Int} {s : Bool} (hm : decide (MayQ D s M E) = true) (hd : D = 2) : Calls Tryz.prog 46 #[VQ D s M E] w (PDB w 0 0 false) := by
 delta VQ
 have HM := Lib.hid hm; clear hm; subst hd
 go_enter Tryz.func46, Tryz.ntmps46
 go_upto_region 1 with (fail)
 generalize hW1 : (w.alloc _).alloc _ = w1 at *; obtain ⟨X1, XR, HB⟩ := Bo.en2 hW1; clear hW1; have xX1 := X1.cell
 go_wp2_with fail
 refine (yMay HM.out).mono ?_; rintro ee w2 ⟨rfl, B⟩; clear xX1; replace X1 := X1.below B; replace XR := XR.below B; replace HB := Hqb HB B; clear B; have xXR := XR.cell; have zXR0 := XR.frozen; have xX1 := X1.cell; go_wp2; clear xXR zXR0 xX1; have SX := StN.mk3 XR (.bool false) (.slice none 0 0) (.int .i64 0)
 exact bodyPost_ret (v := .tuple #[.agg #[.bool false, .slice none 0 0, .int .i64 0], .bool false]) (by simp [results, Tryz.results46, go_sem, SX.box.cell]) rfl ⟨_, _, _, _, rfl, Wn.zero, by decide, (SX.below HB.out (by omega))⟩
theorem yexact_z {w : World} {s : Bool} {M E : Int} (hm : decide (MayQ 0 s M E) = true) : Calls Tryz.prog 46 #[VQ 0 s M E] w (PDB w 0 0 true) := by
 delta VQ
 have HM := Lib.hid hm; clear hm
 go_enter Tryz.func46, Tryz.ntmps46
 go_upto_region 1 with (fail)
 generalize hW1 : (w.alloc _).alloc _ = w1 at *; obtain ⟨X1, XR, HB⟩ := Bo.en2 hW1; clear hW1; have xX1 := X1.cell
 go_wp2_with fail
 refine (yMay HM.out).mono ?_; rintro ee w2 ⟨rfl, B⟩; clear xX1; replace X1 := X1.below B; replace XR := XR.below B; replace HB := Hqb HB B; clear B; have xXR := XR.cell; have zXR0 := XR.frozen; have xX1 := X1.cell; go_wp2; clear xXR zXR0 xX1; have SX := StN.mk3 XR (.bool false) (.slice none 0 0) (.int .i64 0)
 exact bodyPost_ret (v := .tuple #[.agg #[.bool false, .slice none 0 0, .int .i64 0], .bool true]) (by simp [results, Tryz.results46, go_sem, SX.box.cell]) rfl ⟨_, _, _, _, rfl, Wn.zero, by decide, (SX.below HB.out (by omega))⟩
def PR (w : World) (a : Nat) (e : Ending) (w' : World) : Prop := ∃ A n c, e = .returned (.slice A n c) ∧ Rd w' A n c a ∧ n ≤ 2 ∧ Below w.heap.size w w'
theorem yLimbs {w : World} {M : Int} (h0 : 0 ≤ M) (hM : LQ M) : Calls Tryz.prog 86 #[.int .u64 M] w (PR w M.toNat) := by
 obtain ⟨X, hX⟩ : ∃ X : Nat, M / 4294967296 = X := ⟨(M / 4294967296).toNat, by omega⟩
 obtain ⟨Y, hY⟩ : ∃ Y : Nat, M % 4294967296 = Y := ⟨(M % 4294967296).toNat, by omega⟩
 have hx : X < 4294967296 := by omega
 have hy : Y < 4294967296 := by omega
 have ha : Y + 4294967296 * X = M.toNat := by omega
 have w1 : IntKind.u32.wrap (X : Int) = X := IntWalk.u32_in _ (by omega)
 have w2 : IntKind.u32.wrap (Y : Int) = Y := IntWalk.u32_in _ (by omega)
 go_enter Tryz.func86, Tryz.ntmps86
 go_wp2
 go_ret
 exact ⟨_, 2, 2, rfl, lit_rdk w hx hy ha, by decide, bel1 _ _⟩
theorem yexact_m {w : World} {D M E : Int} {s : Bool} {N F : Int} (h0 : 0 ≤ M) (hM : LQ M) (hm : decide (MayQ D s M E) = true) (hd : D ≠ 2) (hz : D ≠ 0) (hN : (mk (sgi s M) E).1 = N) (hE : (mk (sgi s M) E).2 = F) : Calls Tryz.prog 46 #[VQ D s M E] w (PDB w N F true) := by
 delta VQ
 have HM := Lib.hid hm; have HN := Lib.hid hN; have HE := Lib.hid hE
 have e2 : (D == 2) = false := by simpa using hd
 have e0 : (D == 0) = false := by simpa using hz
 obtain ⟨X, hX⟩ : ∃ X : Nat, M / 4294967296 = X := ⟨(M / 4294967296).toNat, by omega⟩
 obtain ⟨Y, hY⟩ : ∃ Y : Nat, M % 4294967296 = Y := ⟨(M % 4294967296).toNat, by omega⟩
 have hx : X < 4294967296 := by omega
 have hy : Y < 4294967296 := by omega
 have ha : Y + 4294967296 * X = M.toNat := by omega
 have HX := Lib.hid hX
 have HY : Hid (IntKind.u32.wrap M = (Y : Int)) := Lib.hid (by
   show M % 4294967296 = (Y : Int)
   exact hY)
 have HX2 : Hid (IntKind.u32.wrap (X : Int) = (X : Int)) := Lib.hid (IntWalk.u32_in _ (by omega))
 have HS : Hid (sg s M.toNat = sgi s M) := Lib.hid (sg_toNat h0)
 clear hm hN hE hX hY
 go_enter Tryz.func46, Tryz.ntmps46
 go_upto_region 1 with (fail)
 generalize hW1 : (w.alloc _).alloc _ = w1 at *; obtain ⟨X1, XR, HB⟩ := Bo.en2 hW1; clear hW1; have xX1 := X1.cell
 go_wp2_with fail
 refine (yMay HM.out).mono ?_; rintro ee w2 ⟨rfl, B⟩; clear xX1; replace X1 := X1.below B; replace XR := XR.below B; replace HB := Hqb HB B; clear B; have xX1 := X1.cell
 go_upto_region 6 with (fail)
 clear xX1; refine Jo.rk [0, 1, 2, 3, 4, 5, 6, 7, 8] [some 19, some 20, some 21, some 22, some 23, some 24, some 25, some 26, some 27, none, some 3] [[], [0], [], [2], [3], [1, 4], [], [6], [5, 7], [], []] 11 2 [Jo.qp w.heap.size 1, Jo.qb s, Jo.qp w.heap.size 2, Jo.Fact.eq (.int .u64 M), Jo.Fact.rd M.toNat 2, Jo.Fact.wn (sgi s M) 2, Jo.qp w.heap.size 3, Jo.qi E, Jo.Fact.dy N F 2, Jo.Fact.any, Jo.Fact.any] (by kernel_rfl) (by kernel_rfl) (by decide) rfl ?_ ?_
 · refine Jo.jm rfl ?_ ?_; rotate_left
   refine Jo.jm rfl ?_ ?_
   · rintro wj hJ _ rfl K hK; simp only [Jo.z] at hK ⊢; have xX11 := (X1.below hJ).a 1 (.bool s) rfl; go_simp; exact hK.out _ _ rfl (br _ _)
   refine Jo.jm rfl ?_ ?_; rotate_left
   refine Jo.jm rfl ?_ ?_
   · rintro wj hJ _ rfl K hK; simp only [Jo.z] at hK ⊢; have xX12 := (X1.below hJ).a 2 (.int .u64 M) rfl; go_simp; exact hK.out _ _ rfl (br _ _)
   refine Jo.jm rfl ?_ ?_
   · rintro wj hJ _ rfl K hK; simp only [Jo.z] at hK ⊢; go_simp; refine (yLimbs h0 hM).mono ?_; rintro ee wk ⟨A3, n3, c3, rfl, p3, k3, B⟩; exact hK.out _ _ ⟨A3, n3, c3, rfl, p3, k3⟩ B
   refine Jo.jm rfl ?_ ?_
   · rintro wj hJ _ rfl _ ⟨A3, n3, c3, rfl, p3, k3⟩ K hK; simp only [Jo.z] at hK ⊢; go_simp; refine (qMake s p3).mono ?_; rintro ee wk ⟨s4, A4, n4, c4, rfl, p4, k4, B⟩; exact hK.out _ _ ⟨s4, A4, n4, c4, rfl, HS.out ▸ p4, by omega⟩ B
   refine Jo.jm rfl ?_ ?_; rotate_left
   refine Jo.jm rfl ?_ ?_
   · rintro wj hJ _ rfl K hK; simp only [Jo.z] at hK ⊢; have xX13 := (X1.below hJ).a 3 (.int .i64 E) rfl; go_simp; exact hK.out _ _ rfl (br _ _)
   refine Jo.jm rfl ?_ ?_
   · rintro wj hJ _ ⟨s4, A4, n4, c4, rfl, p4, k4⟩ _ rfl K hK; simp only [Jo.z] at hK ⊢; go_simp; refine (q3Make p4.wr (by omega) HN.out HE.out).mono ?_; rintro ee wk ⟨s5, A5, n5, c5, rfl, p5, k5, B⟩; exact hK.out _ _ ⟨s5, A5, n5, c5, rfl, p5, by omega⟩ B
   exact Jo.Steps.nil
   all_goals (rintro wj hJ; (repeat rintro _ rfl); intro K hK; simp only [Jo.z] at hK ⊢; go_simp; exact hK.out _ _ rfl (br _ _))
 rintro w3 hJ _ _ _ rfl _ _ _ rfl _ ⟨A3, n3, c3, rfl, _, _⟩ _ ⟨s4, A4, n4, c4, rfl, _, _⟩ _ _ _ rfl _ ⟨s5, A5, n5, c5, rfl, p5, k5⟩ -; simp only [Jo.z]; replace X1 := X1.below hJ; replace XR := XR.below hJ; replace HB := Hqb HB hJ; have xXR := XR.cell; have zXR0 := XR.frozen
 refine Jo.jnext (i := 9) (o := ⟨none, _, _, _, _, _⟩) (by kernel_rfl) rfl (fun K hK => ?_)
 go_simp; refine hK.out _ _ ?_; clear hK K xXR zXR0; generalize hS : ((w3.setCell _ _).setCell _ _).setCell _ _ = w4 at *; have SX := StN.of3 XR hS; replace X1 := X1.stn SX (by omega); replace p5 := p5.stn SX (by simp [no32]); replace HB := Hqs HB SX (by omega); replace XR := SX.box; clear SX hS
 refine Jo.jnext (i := 10) (o := ⟨some 3, _, _, _, _, _⟩) (by kernel_rfl) rfl (fun K hK => ?_)
 go_simp; refine hK.out _ _ ?_; clear hK K; refine Jo.jdone (by kernel_rfl) ?_; go_wp2; exact bodyPost_ret (v := .tuple #[.agg #[.bool s5, .slice A5 n5 c5, .int .i64 F], .bool true]) (by simp [results, Tryz.results46, go_sem, XR.cell]) rfl ⟨_, _, _, _, rfl, p5, k5, HB.out⟩
theorem yExact0 {w : World} {t : Bool} {D M E : Int} {s : Bool} {N F : Int} (h0 : 0 ≤ M) (hM : LQ M) (hq : exb D s M E = t) (hN : (exq D s M E).1 = N) (hE : (exq D s M E).2 = F) : Calls Tryz.prog 46 #[VQ D s M E] w (PDB w N F t) := by
 delta VQ
 unfold exq at hN hE
 rw [hq] at hN hE
 unfold exb at hq
 cases hm : decide (MayQ D s M E)
 · rw [hm, Bool.false_and] at hq; subst hq; subst hN; subst hE; exact yexact_a hm
 · rw [hm, Bool.true_and] at hq
   by_cases hd : D = 2
   · have e : (D == 2) = true := by simpa using hd
     rw [e] at hq; subst hq; subst hN; subst hE; exact yexact_b hm hd
   · have e : (D == 2) = false := by simpa using hd
     rw [e] at hq
     obtain rfl : true = t := hq
     rw [if_pos rfl] at hN hE
     by_cases hz : D = 0
     · subst hz
       have e1 : s = false ∧ M = 0 ∧ E = 0 := by
         have := of_decide_eq_true hm
         unfold MayQ at this
         simpa using this
       obtain ⟨rfl, rfl, rfl⟩ := e1
       have e2 : mk (sgi false 0) 0 = (0, 0) := mk_zero 0
       rw [e2] at hN hE; subst hN; subst hE; exact yexact_z hm
     · exact yexact_m h0 hM hm hd hz hN hE
end Go.Proofs.YtmmallhniijdfaaGreatDoor

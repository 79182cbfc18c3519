/-
  Contracts and words that the statement's proof rests on, several texts in one: Ki, Ju.
-/
import Derived.Test.YteejbcimmmcnlaaGreatDoorYCap
import Derived.Test.YteejbcimmmcnlaaGreatDoorYCar
import Derived.Test.YteejbcimmmcnlaaGreatDoorYCas
import Derived.Test.YteejbcimmmcnlaaGreatDoorYCav
/-
  What num.Round and Exact do, and the document's limbs and Exact.
-/
namespace Go.Proofs.YteejbcimmmcnlaaGreatDoor
open Go.RowKit
set_option linter.unusedVariables false
set_option linter.unusedSimpArgs false
set_option maxRecDepth 100000

theorem nx_sgi (s : Bool) {x : Int} (h0 : 0 ≤ x) (h1 : x ≤ 19342822337206103650074624) : nx (!s) (sgi s x) = sgi s (x + 1) := by
  have := TP_eq
  unfold nx
  cases s
  · show min TP (x + 1) = x + 1
    omega
  · show max (-TP) (-x - 1) = -(x + 1)
    omega
theorem nx_lo {a : Nat} {E : Int} (s : Bool) (h : ext a E = false) : nx (!s) (sgi s (lo a E)) = sgi s (hi a E) := by
  obtain ⟨h1, h2⟩ := lo_bd a E
  have hh : hi a E = lo a E + 1 := by
    unfold hi
    rw [h, if_neg (by decide)]
  rw [hh, nx_sgi s h1 h2]
theorem pick_t (s : Bool) (x y : Int) (b : Bool) (h : b = true) : sgi s (if b = true then x else y) = sgi s x := by rw [if_pos h]
theorem pick_f (s : Bool) (x y : Int) (b : Bool) (h : b = false) : sgi s (if b = true then x else y) = sgi s y := by rw [h, if_neg (by decide)]
theorem rnd_ext {up : Bool} {N E : Int} (h : ext N.natAbs E = true) : rnd up N E = sgi (decide (N < 0)) (lo N.natAbs E) := by
  unfold rnd hi
  rw [if_pos h]
  cases hb : (up != decide (N < 0))
  · exact pick_f _ _ _ _ rfl
  · exact pick_t _ _ _ _ rfl
theorem rnd_same {up s : Bool} {N E : Int} (hs : s = decide (N < 0)) (h : s = up) : rnd up N E = sgi s (lo N.natAbs E) := by
  unfold rnd
  rw [← hs, h]
  exact pick_f _ _ _ _ (by cases up <;> rfl)
theorem rnd_diff {s : Bool} {N E : Int} (hs : s = decide (N < 0)) : rnd (!s) N E = sgi s (hi N.natAbs E) := by
  unfold rnd
  rw [← hs]
  exact pick_t _ _ _ _ (by cases s <;> rfl)
set_option maxHeartbeats 4000000 in
theorem nround_y {w : World} {A : Option Addr} {n c : Nat} {s up : Bool} {z e N E r : Int} (hT : Tab w) (h : Wr w s A n c z) (hn : n ≤ 100000) (hN : (mk z e).1 = N) (hE : (mk z e).2 = E) (hr : rnd up N E = r) (hm : mayD s n z.natAbs e = true) :
    Calls Tryz.prog 149 #[.agg #[.bool s, .slice A n c, .int .i64 e], .bool up] w (PN w r) := by
  obtain ⟨b1, b2⟩ := mk_bd z e; rw [hE] at b1 b2; have HM := Lib.hid hm; have HR := Lib.hid hr; obtain ⟨hwn, hmk⟩ := mayD_true h hm
  obtain rfl : z = N := by rw [← hN, hmk]
  obtain rfl : e = E := by rw [← hE, hmk]
  have HSG := Lib.hid hwn.2; have hd := hwn.1.rd; clear hm hr hN hE hmk hwn
  go_enter Tryz.func149, Tryz.ntmps149
  go_upto_region 1 with (fail)
  generalize hW1 : (w.alloc _).alloc _ = w1 at *; obtain ⟨X1, XR, HB⟩ := Bo.en2 hW1; replace hT := hT.below HB.out; replace h := h.below HB.out; replace hd := hd.below HB.out; clear hW1; obtain ⟨xX10, xX11, xX12⟩ := X1.u3
  go_wp2_with fail
  refine (dMay h.rd HM.out).mono ?_; rintro ee w2 ⟨rfl, B⟩; clear xX10 xX11 xX12; replace X1 := X1.below B; replace XR := XR.below B; replace hT := hT.below B; replace h := h.below B; replace hd := hd.below B; replace HB := Lib.hid (bt HB.out B); clear B; obtain ⟨x, hx⟩ : ∃ x, sgi s (lo z.natAbs e) = x := ⟨_, rfl⟩; obtain ⟨t, ht⟩ : ∃ t, ext z.natAbs e = t := ⟨_, rfl⟩; have HX := Lib.hid hx; have HT := Lib.hid ht
  clear hx ht; obtain ⟨xX10, xX11, xX12⟩ := X1.u3
  go_wp2_with fail
  refine (nCut hd hn b1 b2 HX.out HT.out).mono ?_; rintro ee w5 ⟨K2, s2, M2, E2, rfl, q2, B⟩; clear xX10 xX11 xX12; replace X1 := X1.below B; replace XR := XR.below B; replace hd := hd.below B; replace HB := Lib.hid (bt HB.out B); clear B; clear hd
  go_upto_region 4 with (fail)
  have lX5 := Nat.le_refl (World.heap w5).size; have nX5X1 := X1.lt; have nX5XR := XR.lt; generalize hWn : w5.alloc _ = w6 at *; obtain ⟨X5, BW⟩ := Bo.nw hWn; clear hWn; replace X1 := X1.below BW; replace XR := XR.below BW; replace HB := Lib.hid (bt HB.out BW); clear BW; clear lX5
  by_cases ht : t = true
  · subst ht
    obtain rfl : x = r := by rw [← HX.out, ← HR.out, rnd_ext HT.out, HSG.out]
    obtain ⟨xXR0, xXR1, xXR2, xXR3⟩ := XR.u4; have zXR0 := XR.frozen; obtain ⟨xX10, xX11, xX12⟩ := X1.u3; obtain ⟨xX50, xX51, xX52, xX53⟩ := X5.u4; go_wp2; clear xXR0 zXR0 xXR1 xXR2 xXR3 xX10 xX11 xX12 xX50 xX51 xX52 xX53; have SX := StN.mk4 XR (.int .i64 K2) (.bool s2) (.int .u64 M2) (.int .i64 E2); exact bodyPost_ret (by simp [results, Tryz.results149, go_sem, SX.box.cell]) rfl ⟨_, _, _, _, rfl, q2, (SX.below HB.out (by omega))⟩
  · have ht : t = false := by simpa using ht
    subst ht
    by_cases hs : s = up
    · obtain rfl : x = r := by rw [← HX.out, ← HR.out, rnd_same HSG.out hs]
      subst hs; obtain ⟨xXR0, xXR1, xXR2, xXR3⟩ := XR.u4; have zXR0 := XR.frozen; obtain ⟨xX10, xX11, xX12⟩ := X1.u3; obtain ⟨xX50, xX51, xX52, xX53⟩ := X5.u4; go_wp2; clear xXR0 zXR0 xXR1 xXR2 xXR3 xX10 xX11 xX12 xX50 xX51 xX52 xX53; have SX := StN.mk4 XR (.int .i64 K2) (.bool s2) (.int .u64 M2) (.int .i64 E2); exact bodyPost_ret (by simp [results, Tryz.results149, go_sem, SX.box.cell]) rfl ⟨_, _, _, _, rfl, q2, (SX.below HB.out (by omega))⟩
    · obtain rfl : (!s) = up := by cases s <;> cases up <;> first | rfl | exact absurd rfl hs
      clear hs
      have e2 : (s == !s) = false := by cases s <;> rfl
      have HRR : Hid (nx (!s) (rk K2 s2 M2 E2) = r) := Lib.hid (by rw [q2.rk, ← HX.out, nx_lo s HT.out, ← HR.out, rnd_diff HSG.out])
      obtain ⟨xX10, xX11, xX12⟩ := X1.u3; obtain ⟨xX50, xX51, xX52, xX53⟩ := X5.u4
      go_wp2_with fail
      refine (nNext q2.top HRR.out).mono ?_; rintro ee w7 ⟨K3, s3, M3, E3, rfl, q3, B⟩; clear xX10 xX11 xX12 xX50 xX51 xX52 xX53; replace X1 := X1.below B; replace XR := XR.below B; replace X5 := X5.below B; replace HB := Lib.hid (bt HB.out B); clear B; obtain ⟨xXR0, xXR1, xXR2, xXR3⟩ := XR.u4; have zXR0 := XR.frozen; obtain ⟨xX10, xX11, xX12⟩ := X1.u3; obtain ⟨xX50, xX51, xX52, xX53⟩ := X5.u4; go_wp2
      clear xXR0 zXR0 xXR1 xXR2 xXR3 xX10 xX11 xX12 xX50 xX51 xX52 xX53; have SX := StN.mk4 XR (.int .i64 K3) (.bool s3) (.int .u64 M3) (.int .i64 E3); exact bodyPost_ret (by simp [results, Tryz.results149, go_sem, SX.box.cell]) rfl ⟨_, _, _, _, rfl, q3, (SX.below HB.out (by omega))⟩
set_option maxHeartbeats 4000000 in
theorem nround_n {w : World} {A : Option Addr} {n c : Nat} {s up : Bool} {z e N E r : Int} (hT : Tab w) (h : Wr w s A n c z) (hn : n ≤ 100000) (hN : (mk z e).1 = N) (hE : (mk z e).2 = E) (hr : rnd up N E = r) (hm : mayD s n z.natAbs e = false) :
    Calls Tryz.prog 149 #[.agg #[.bool s, .slice A n c, .int .i64 e], .bool up] w (PN w r) := by
  obtain ⟨b1, b2⟩ := mk_bd z e; rw [hE] at b1 b2; have HM := Lib.hid hm; have HR := Lib.hid hr; have HN := Lib.hid hN; have HE := Lib.hid hE; clear hm hr hN hE
  go_enter Tryz.func149, Tryz.ntmps149
  go_upto_region 1 with (fail)
  generalize hW1 : (w.alloc _).alloc _ = w1 at *; obtain ⟨X1, XR, HB⟩ := Bo.en2 hW1; replace hT := hT.below HB.out; replace h := h.below HB.out; clear hW1; obtain ⟨xX10, xX11, xX12⟩ := X1.u3
  go_wp2_with fail
  refine (dMay h.rd HM.out).mono ?_; rintro ee w2 ⟨rfl, B⟩; clear xX10 xX11 xX12; replace X1 := X1.below B; replace XR := XR.below B; replace hT := hT.below B; replace h := h.below B; replace HB := Lib.hid (bt HB.out B); clear B; obtain ⟨xX10, xX11, xX12⟩ := X1.u3
  go_wp2_with fail
  refine (dMake hT h hn HN.out HE.out).mono ?_; rintro ee w3 ⟨s1, A1, n1, c1, rfl, p1, k1, B⟩; clear xX10 xX11 xX12; replace X1 := X1.below B; replace XR := XR.below B; replace hT := hT.below B; replace h := h.below B; replace HB := Lib.hid (bt HB.out B); clear B; obtain ⟨xX10, xX11, xX12⟩ := X1.u3; have zX10 := X1.frozen
  go_upto_region 3 with (fail)
  clear xX10 zX10 xX11 xX12; generalize hS : ((w3.setCell _ _).setCell _ _).setCell _ _ = w4 at *; have SX := StN.of3 X1 hS; replace XR := XR.stn SX (by omega); replace p1 := p1.stn SX (by simp [no32]); replace HB := Lib.hid (SX.below HB.out (by omega)); replace X1 := SX.box; clear SX hS; have HSG := Lib.hid p1.2; have hd := p1.1.rd
  have hn1 : n1 ≤ 100000 := by omega
  clear p1; obtain ⟨x, hx⟩ : ∃ x, sgi s1 (lo N.natAbs E) = x := ⟨_, rfl⟩; obtain ⟨t, ht⟩ : ∃ t, ext N.natAbs E = t := ⟨_, rfl⟩; have HX := Lib.hid hx; have HT := Lib.hid ht; clear hx ht; obtain ⟨xX10, xX11, xX12⟩ := X1.u3
  go_wp2_with fail
  refine (nCut hd hn1 b1 b2 HX.out HT.out).mono ?_; rintro ee w5 ⟨K2, s2, M2, E2, rfl, q2, B⟩; clear xX10 xX11 xX12; replace X1 := X1.below B; replace XR := XR.below B; replace hd := hd.below B; replace HB := Lib.hid (bt HB.out B); clear B; clear hd
  go_upto_region 4 with (fail)
  have lX5 := Nat.le_refl (World.heap w5).size; have nX5X1 := X1.lt; have nX5XR := XR.lt; generalize hWn : w5.alloc _ = w6 at *; obtain ⟨X5, BW⟩ := Bo.nw hWn; clear hWn; replace X1 := X1.below BW; replace XR := XR.below BW; replace HB := Lib.hid (bt HB.out BW); clear BW; clear lX5
  by_cases ht : t = true
  · subst ht
    obtain rfl : x = r := by rw [← HX.out, ← HR.out, rnd_ext HT.out, HSG.out]
    obtain ⟨xXR0, xXR1, xXR2, xXR3⟩ := XR.u4; have zXR0 := XR.frozen; obtain ⟨xX10, xX11, xX12⟩ := X1.u3; obtain ⟨xX50, xX51, xX52, xX53⟩ := X5.u4; go_wp2; clear xXR0 zXR0 xXR1 xXR2 xXR3 xX10 xX11 xX12 xX50 xX51 xX52 xX53; have SX := StN.mk4 XR (.int .i64 K2) (.bool s2) (.int .u64 M2) (.int .i64 E2); exact bodyPost_ret (by simp [results, Tryz.results149, go_sem, SX.box.cell]) rfl ⟨_, _, _, _, rfl, q2, (SX.below HB.out (by omega))⟩
  · have ht : t = false := by simpa using ht
    subst ht
    by_cases hs : s1 = up
    · obtain rfl : x = r := by rw [← HX.out, ← HR.out, rnd_same HSG.out hs]
      subst hs; obtain ⟨xXR0, xXR1, xXR2, xXR3⟩ := XR.u4; have zXR0 := XR.frozen; obtain ⟨xX10, xX11, xX12⟩ := X1.u3; obtain ⟨xX50, xX51, xX52, xX53⟩ := X5.u4; go_wp2; clear xXR0 zXR0 xXR1 xXR2 xXR3 xX10 xX11 xX12 xX50 xX51 xX52 xX53; have SX := StN.mk4 XR (.int .i64 K2) (.bool s2) (.int .u64 M2) (.int .i64 E2); exact bodyPost_ret (by simp [results, Tryz.results149, go_sem, SX.box.cell]) rfl ⟨_, _, _, _, rfl, q2, (SX.below HB.out (by omega))⟩
    · obtain rfl : (!s1) = up := by cases s1 <;> cases up <;> first | rfl | exact absurd rfl hs
      clear hs
      have e2 : (s1 == !s1) = false := by cases s1 <;> rfl
      have HRR : Hid (nx (!s1) (rk K2 s2 M2 E2) = r) := Lib.hid (by rw [q2.rk, ← HX.out, nx_lo s1 HT.out, ← HR.out, rnd_diff HSG.out])
      obtain ⟨xX10, xX11, xX12⟩ := X1.u3; obtain ⟨xX50, xX51, xX52, xX53⟩ := X5.u4
      go_wp2_with fail
      refine (nNext q2.top HRR.out).mono ?_; rintro ee w7 ⟨K3, s3, M3, E3, rfl, q3, B⟩; clear xX10 xX11 xX12 xX50 xX51 xX52 xX53; replace X1 := X1.below B; replace XR := XR.below B; replace X5 := X5.below B; replace HB := Lib.hid (bt HB.out B); clear B; obtain ⟨xXR0, xXR1, xXR2, xXR3⟩ := XR.u4; have zXR0 := XR.frozen; obtain ⟨xX10, xX11, xX12⟩ := X1.u3; obtain ⟨xX50, xX51, xX52, xX53⟩ := X5.u4; go_wp2
      clear xXR0 zXR0 xXR1 xXR2 xXR3 xX10 xX11 xX12 xX50 xX51 xX52 xX53; have SX := StN.mk4 XR (.int .i64 K3) (.bool s3) (.int .u64 M3) (.int .i64 E3); exact bodyPost_ret (by simp [results, Tryz.results149, go_sem, SX.box.cell]) rfl ⟨_, _, _, _, rfl, q3, (SX.below HB.out (by omega))⟩
theorem nRound {w : World} {A : Option Addr} {n c : Nat} {s up : Bool} {z e N E r : Int} (hT : Tab w) (h : Wr w s A n c z) (hn : n ≤ 100000) (hN : (mk z e).1 = N) (hE : (mk z e).2 = E) (hr : rnd up N E = r) :
    Calls Tryz.prog 149 #[.agg #[.bool s, .slice A n c, .int .i64 e], .bool up] w (PN w r) := by
  cases hm : mayD s n z.natAbs e
  · exact nround_n hT h hn hN hE hr hm
  · exact nround_y hT h hn hN hE hr hm
/-- A dyadic number and a truth are answered. -/
def PDB (w : World) (N E : Int) (t : Bool) (e : Ending) (w' : World) : Prop := ∃ s A n c, e = .returned (.tuple #[.agg #[.bool s, .slice A n c, .int .i64 E], .bool t]) ∧ Wn w' s A n c N ∧ n ≤ 2 ∧ Below w.heap.size w w'
def exb (D : Int) (s : Bool) (M E : Int) : Bool := decide (MayQ D s M E) && !(D == 2)
def exq (D : Int) (s : Bool) (M E : Int) : Int × Int := if exb D s M E = true then mk (sgi s M) E else (0, 0)
def Jo.Fact.rd (a K : Nat) : Jo.Fact := ⟨fun v w => ∃ A n c, v = .slice A n c ∧ Rd w A n c a ∧ n ≤ K, fun v w w' h b => by
  obtain ⟨A, n, c, e, h, k⟩ := h; exact ⟨A, n, c, e, h.below b, k⟩⟩
theorem lit_rdk (W : World) {X Y a : Nat} (hX : X < 4294967296) (hY : Y < 4294967296) (ha : Y + 4294967296 * X = a) : Rd (W.alloc (.cells #[.int .u32 (Y : Int), .int .u32 (X : Int)] 72)) (some ⟨W.heap.size, 0, none⟩) 2 2 a :=
  ⟨_, _, lit2 W Y X hY hX, by simp [val]; omega⟩
theorem sg_toNat {s : Bool} {M : Int} (h : 0 ≤ M) : sg s M.toNat = sgi s M := by
  have : ((M.toNat : Nat) : Int) = M := by omega
  unfold sg sgi
  rw [this]
set_option maxHeartbeats 4000000 in
theorem yexact_a {w : World} {D M E : Int} {s : Bool} (hm : decide (MayQ D s M E) = false) : Calls Tryz.prog 99 #[.agg #[.int .i64 D, .bool s, .int .u64 M, .int .i64 E]] w (PDB w 0 0 false) := by
  have HM := Lib.hid hm; clear hm
  go_enter Tryz.func99, Tryz.ntmps99
  go_upto_region 1 with (fail)
  generalize hW1 : (w.alloc _).alloc _ = w1 at *; obtain ⟨X1, XR, HB⟩ := Bo.en2 hW1; clear hW1; obtain ⟨xX10, xX11, xX12, xX13⟩ := X1.u4
  go_wp2_with fail
  refine (yMay HM.out).mono ?_; rintro ee w2 ⟨rfl, B⟩; clear xX10 xX11 xX12 xX13; replace X1 := X1.below B; replace XR := XR.below B; replace HB := Lib.hid (bt HB.out B); clear B; obtain ⟨xXR0, xXR1, xXR2⟩ := XR.u3; have zXR0 := XR.frozen; obtain ⟨xX10, xX11, xX12, xX13⟩ := X1.u4; go_wp2; clear xXR0 zXR0 xXR1 xXR2 xX10 xX11 xX12 xX13; have SX := StN.mk3 XR (.bool false) (.slice none 0 0) (.int .i64 0)
  exact bodyPost_ret (v := .tuple #[.agg #[.bool false, .slice none 0 0, .int .i64 0], .bool false]) (by simp [results, Tryz.results99, go_sem, SX.box.cell]) rfl ⟨_, _, _, _, rfl, Wn.zero, by decide, (SX.below HB.out (by omega))⟩
set_option maxHeartbeats 4000000 in
theorem yexact_b {w : World} {D M E : Int} {s : Bool} (hm : decide (MayQ D s M E) = true) (hd : D = 2) : Calls Tryz.prog 99 #[.agg #[.int .i64 D, .bool s, .int .u64 M, .int .i64 E]] w (PDB w 0 0 false) := by
  have HM := Lib.hid hm; clear hm; subst hd
  go_enter Tryz.func99, Tryz.ntmps99
  go_upto_region 1 with (fail)
  generalize hW1 : (w.alloc _).alloc _ = w1 at *; obtain ⟨X1, XR, HB⟩ := Bo.en2 hW1; clear hW1; obtain ⟨xX10, xX11, xX12, xX13⟩ := X1.u4
  go_wp2_with fail
  refine (yMay HM.out).mono ?_; rintro ee w2 ⟨rfl, B⟩; clear xX10 xX11 xX12 xX13; replace X1 := X1.below B; replace XR := XR.below B; replace HB := Lib.hid (bt HB.out B); clear B; obtain ⟨xXR0, xXR1, xXR2⟩ := XR.u3; have zXR0 := XR.frozen; obtain ⟨xX10, xX11, xX12, xX13⟩ := X1.u4; go_wp2; clear xXR0 zXR0 xXR1 xXR2 xX10 xX11 xX12 xX13; have SX := StN.mk3 XR (.bool false) (.slice none 0 0) (.int .i64 0)
  exact bodyPost_ret (v := .tuple #[.agg #[.bool false, .slice none 0 0, .int .i64 0], .bool false]) (by simp [results, Tryz.results99, go_sem, SX.box.cell]) rfl ⟨_, _, _, _, rfl, Wn.zero, by decide, (SX.below HB.out (by omega))⟩
set_option maxHeartbeats 4000000 in
theorem yexact_z {w : World} {s : Bool} {M E : Int} (hm : decide (MayQ 0 s M E) = true) : Calls Tryz.prog 99 #[.agg #[.int .i64 0, .bool s, .int .u64 M, .int .i64 E]] w (PDB w 0 0 true) := by
  have HM := Lib.hid hm; clear hm
  go_enter Tryz.func99, Tryz.ntmps99
  go_upto_region 1 with (fail)
  generalize hW1 : (w.alloc _).alloc _ = w1 at *; obtain ⟨X1, XR, HB⟩ := Bo.en2 hW1; clear hW1; obtain ⟨xX10, xX11, xX12, xX13⟩ := X1.u4
  go_wp2_with fail
  refine (yMay HM.out).mono ?_; rintro ee w2 ⟨rfl, B⟩; clear xX10 xX11 xX12 xX13; replace X1 := X1.below B; replace XR := XR.below B; replace HB := Lib.hid (bt HB.out B); clear B; obtain ⟨xXR0, xXR1, xXR2⟩ := XR.u3; have zXR0 := XR.frozen; obtain ⟨xX10, xX11, xX12, xX13⟩ := X1.u4; go_wp2; clear xXR0 zXR0 xXR1 xXR2 xX10 xX11 xX12 xX13; have SX := StN.mk3 XR (.bool false) (.slice none 0 0) (.int .i64 0)
  exact bodyPost_ret (v := .tuple #[.agg #[.bool false, .slice none 0 0, .int .i64 0], .bool true]) (by simp [results, Tryz.results99, go_sem, SX.box.cell]) rfl ⟨_, _, _, _, rfl, Wn.zero, by decide, (SX.below HB.out (by omega))⟩
/-- The limbs of a word are answered. -/
def PR (w : World) (a : Nat) (e : Ending) (w' : World) : Prop := ∃ A n c, e = .returned (.slice A n c) ∧ Rd w' A n c a ∧ n ≤ 2 ∧ Below w.heap.size w w'
set_option maxHeartbeats 1000000 in
theorem yLimbs {w : World} {M : Int} (h0 : 0 ≤ M) (hM : M < 18446744073709551616) : Calls Tryz.prog 137 #[.int .u64 M] w (PR w M.toNat) := by
  obtain ⟨X, hX⟩ : ∃ X : Nat, M / 4294967296 = X := ⟨(M / 4294967296).toNat, by omega⟩
  obtain ⟨Y, hY⟩ : ∃ Y : Nat, M % 4294967296 = Y := ⟨(M % 4294967296).toNat, by omega⟩
  have hx : X < 4294967296 := by omega
  have hy : Y < 4294967296 := by omega
  have ha : Y + 4294967296 * X = M.toNat := by omega
  have w1 : IntKind.u32.wrap (X : Int) = X := IntWalk.u32_in _ (by omega)
  have w2 : IntKind.u32.wrap (Y : Int) = Y := IntWalk.u32_in _ (by omega)
  go_enter Tryz.func137, Tryz.ntmps137
  go_wp2
  go_ret
  exact ⟨_, 2, 2, rfl, lit_rdk w hx hy ha, by decide, bel1 _ _⟩
set_option maxHeartbeats 4000000 in
theorem yexact_m {w : World} {D M E : Int} {s : Bool} {N F : Int} (h0 : 0 ≤ M) (hM : M < 18446744073709551616) (hm : decide (MayQ D s M E) = true) (hd : D ≠ 2) (hz : D ≠ 0) (hN : (mk (sgi s M) E).1 = N) (hE : (mk (sgi s M) E).2 = F) : Calls Tryz.prog 99 #[.agg #[.int .i64 D, .bool s, .int .u64 M, .int .i64 E]] w (PDB w N F true) := by
  have HM := Lib.hid hm; have HN := Lib.hid hN; have HE := Lib.hid hE
  have e2 : (D == 2) = false := by simpa using hd
  have e0 : (D == 0) = false := by simpa using hz
  obtain ⟨X, hX⟩ : ∃ X : Nat, M / 4294967296 = X := ⟨(M / 4294967296).toNat, by omega⟩
  obtain ⟨Y, hY⟩ : ∃ Y : Nat, M % 4294967296 = Y := ⟨(M % 4294967296).toNat, by omega⟩
  have hx : X < 4294967296 := by omega
  have hy : Y < 4294967296 := by omega
  have ha : Y + 4294967296 * X = M.toNat := by omega
  have HX := Lib.hid hX
  have HY : Hid (IntKind.u32.wrap M = (Y : Int)) := Lib.hid (by
    show M % 4294967296 = (Y : Int)
    exact hY)
  have HX2 : Hid (IntKind.u32.wrap (X : Int) = (X : Int)) := Lib.hid (IntWalk.u32_in _ (by omega))
  have HS : Hid (sg s M.toNat = sgi s M) := Lib.hid (sg_toNat h0)
  clear hm hN hE hX hY
  go_enter Tryz.func99, Tryz.ntmps99
  go_upto_region 1 with (fail)
  generalize hW1 : (w.alloc _).alloc _ = w1 at *; obtain ⟨X1, XR, HB⟩ := Bo.en2 hW1; clear hW1; obtain ⟨xX10, xX11, xX12, xX13⟩ := X1.u4
  go_wp2_with fail
  refine (yMay HM.out).mono ?_; rintro ee w2 ⟨rfl, B⟩; clear xX10 xX11 xX12 xX13; replace X1 := X1.below B; replace XR := XR.below B; replace HB := Lib.hid (bt HB.out B); clear B; obtain ⟨xX10, xX11, xX12, xX13⟩ := X1.u4
  go_upto_region 6 with (fail)
  clear xX10 xX11 xX12 xX13; refine Jo.rk [0, 1, 2, 3, 4, 5, 6, 7, 8] [some 19, some 20, some 21, some 22, some 23, some 24, some 25, some 26, some 27, none, some 3] [[], [0], [], [2], [3], [1, 4], [], [6], [5, 7], [], []] 11 2 [Jo.qp w.heap.size 1, Jo.qb s, Jo.qp w.heap.size 2, Jo.Fact.eq (.int .u64 M), Jo.Fact.rd M.toNat 2, Jo.Fact.wn (sgi s M) 2, Jo.qp w.heap.size 3, Jo.qi E, Jo.Fact.dy N F 2, Jo.Fact.any, Jo.Fact.any] (by kernel_rfl) (by kernel_rfl) (by decide) rfl ?_ ?_
  · refine Jo.jm rfl ?_ ?_
    · rintro wj hJ K hK; simp only [Jo.z] at hK ⊢; go_simp; exact hK.out _ _ rfl (br _ _)
    refine Jo.jm rfl ?_ ?_
    · rintro wj hJ _ rfl K hK; simp only [Jo.z] at hK ⊢; have xX11 := (X1.below hJ).a 1 (.bool s) rfl; go_simp; exact hK.out _ _ rfl (br _ _)
    refine Jo.jm rfl ?_ ?_
    · rintro wj hJ K hK; simp only [Jo.z] at hK ⊢; go_simp; exact hK.out _ _ rfl (br _ _)
    refine Jo.jm rfl ?_ ?_
    · rintro wj hJ _ rfl K hK; simp only [Jo.z] at hK ⊢; have xX12 := (X1.below hJ).a 2 (.int .u64 M) rfl; go_simp; exact hK.out _ _ rfl (br _ _)
    refine Jo.jm rfl ?_ ?_
    · rintro wj hJ _ rfl K hK; simp only [Jo.z] at hK ⊢; go_simp; refine (yLimbs h0 hM).mono ?_; rintro ee wk ⟨A3, n3, c3, rfl, p3, k3, B⟩; exact hK.out _ _ ⟨A3, n3, c3, rfl, p3, k3⟩ B
    refine Jo.jm rfl ?_ ?_
    · rintro wj hJ _ rfl _ ⟨A3, n3, c3, rfl, p3, k3⟩ K hK; simp only [Jo.z] at hK ⊢; go_simp; refine (qMake s p3).mono ?_; rintro ee wk ⟨s4, A4, n4, c4, rfl, p4, k4, B⟩; exact hK.out _ _ ⟨s4, A4, n4, c4, rfl, HS.out ▸ p4, by omega⟩ B
    refine Jo.jm rfl ?_ ?_
    · rintro wj hJ K hK; simp only [Jo.z] at hK ⊢; go_simp; exact hK.out _ _ rfl (br _ _)
    refine Jo.jm rfl ?_ ?_
    · rintro wj hJ _ rfl K hK; simp only [Jo.z] at hK ⊢; have xX13 := (X1.below hJ).a 3 (.int .i64 E) rfl; go_simp; exact hK.out _ _ rfl (br _ _)
    refine Jo.jm rfl ?_ ?_
    · rintro wj hJ _ ⟨s4, A4, n4, c4, rfl, p4, k4⟩ _ rfl K hK; simp only [Jo.z] at hK ⊢; go_simp; refine (q3Make p4.wr (by omega) HN.out HE.out).mono ?_; rintro ee wk ⟨s5, A5, n5, c5, rfl, p5, k5, B⟩; exact hK.out _ _ ⟨s5, A5, n5, c5, rfl, p5, by omega⟩ B
    exact Jo.Steps.nil
  rintro w3 hJ _ _ _ rfl _ _ _ rfl _ ⟨A3, n3, c3, rfl, _, _⟩ _ ⟨s4, A4, n4, c4, rfl, _, _⟩ _ _ _ rfl _ ⟨s5, A5, n5, c5, rfl, p5, k5⟩ -; simp only [Jo.z]; replace X1 := X1.below hJ; replace XR := XR.below hJ; replace HB := Lib.hid (bt HB.out hJ); obtain ⟨xXR0, xXR1, xXR2⟩ := XR.u3; have zXR0 := XR.frozen
  refine Jo.jnext (i := 9) (o := ⟨none, _, _, _, _, _⟩) (by kernel_rfl) rfl (fun K hK => ?_)
  go_simp; refine hK.out _ _ ?_; clear hK K xXR0 zXR0 xXR1 xXR2; generalize hS : ((w3.setCell _ _).setCell _ _).setCell _ _ = w4 at *; have SX := StN.of3 XR hS; replace X1 := X1.stn SX (by omega); replace p5 := p5.stn SX (by simp [no32]); replace HB := Lib.hid (SX.below HB.out (by omega)); replace XR := SX.box; clear SX hS
  refine Jo.jnext (i := 10) (o := ⟨some 3, _, _, _, _, _⟩) (by kernel_rfl) rfl (fun K hK => ?_)
  go_simp; refine hK.out _ _ ?_; clear hK K; refine Jo.jdone (by kernel_rfl) ?_; go_wp2; exact bodyPost_ret (v := .tuple #[.agg #[.bool s5, .slice A5 n5 c5, .int .i64 F], .bool true]) (by simp [results, Tryz.results99, go_sem, XR.cell]) rfl ⟨_, _, _, _, rfl, p5, k5, HB.out⟩
theorem yExact0 {w : World} {t : Bool} {D M E : Int} {s : Bool} {N F : Int} (h0 : 0 ≤ M) (hM : M < 18446744073709551616) (hq : exb D s M E = t) (hN : (exq D s M E).1 = N) (hE : (exq D s M E).2 = F) : Calls Tryz.prog 99 #[.agg #[.int .i64 D, .bool s, .int .u64 M, .int .i64 E]] w (PDB w N F t) := by
  unfold exq at hN hE
  rw [hq] at hN hE
  unfold exb at hq
  cases hm : decide (MayQ D s M E)
  · rw [hm, Bool.false_and] at hq; subst hq; subst hN; subst hE; exact yexact_a hm
  · rw [hm, Bool.true_and] at hq
    by_cases hd : D = 2
    · have e : (D == 2) = true := by simpa using hd
      rw [e] at hq; subst hq; subst hN; subst hE; exact yexact_b hm hd
    · have e : (D == 2) = false := by simpa using hd
      rw [e] at hq
      obtain rfl : true = t := hq
      rw [if_pos rfl] at hN hE
      by_cases hz : D = 0
      · subst hz
        have e1 : s = false ∧ M = 0 ∧ E = 0 := by
          have := of_decide_eq_true hm
          unfold MayQ at this
          simpa using this
        obtain ⟨rfl, rfl, rfl⟩ := e1
        have e2 : mk (sgi false 0) 0 = (0, 0) := mk_zero 0
        rw [e2] at hN hE; subst hN; subst hE; exact yexact_z hm
      · exact yexact_m h0 hM hm hd hz hN hE
end Go.Proofs.YteejbcimmmcnlaaGreatDoor

/-
  A region that draws its order, by one fact over all that has come up so far (their values together, and memory): so two new variables are told apart, and the first of them may be stored into before the second one's value is read. No Go text but what is asked of stores.
-/
namespace Go.Proofs.YteejbcimmmcnlaaGreatDoor.Jo
open Go Go.RowKit
set_option linter.unusedVariables false

def upd (vs : Nat → Value) (i : Nat) (v : Value) : Nat → Value := fun x => if x = i then v else vs x
theorem upd_same (vs : Nat → Value) (i : Nat) (v : Value) : upd vs i v i = v := if_pos rfl
theorem upd_ne {vs : Nat → Value} {i j : Nat} {v : Value} (h : j ≠ i) : upd vs i v j = vs j := if_neg h

section
variable {P : Program} {md : Region.Mode} {ops : Array Oper} {Q : Exit → Act → World → Prop} {a0 : Act} {T : List Nat} {dst : Nat → Option Tmp} {D : Nat → List Nat} {k : Nat} {I : List Nat → (Nat → Value) → World → Prop}

/-- What each operation must do, whatever has come up. -/
def StepsI (P : Program) (ops : Array Oper) (Q : Exit → Act → World → Prop) (a0 : Act) (dst : Nat → Option Tmp) (D : Nat → List Nat) (I : List Nat → (Nat → Value) → World → Prop) (T : List Nat) : Prop :=
  ∀ i ∈ T, ∀ l vs w, I l vs w → i ∉ l → (∀ j ∈ D i, j ∈ l) → wpOp P ops Q i (fun a' w' => ∃ v, a' = (base dst vs (D i) a0).put (dst i) v ∧ I (l ++ [i]) (upd vs i v) w') (base dst vs (D i) a0) w
theorem StepsI.nil : StepsI P ops Q a0 dst D I [] := fun _ h => by cases h
theorem StepsI.cons {i : Nat} {o : Oper} {r : List Nat} (ho : ops[i]? = some o)
    (h : ∀ l vs w, I l vs w → i ∉ l → (∀ j ∈ D i, j ∈ l) → ∀ K : Act → World → Prop, Shut (∀ v w', I (l ++ [i]) (upd vs i v) w' → K ((base dst vs (D i) a0).put (dst i) v) w') →
      if Region.wanted o (yielded ops (base dst vs (D i) a0).tmps) = true then Oper.wp P o (base dst vs (D i) a0) w K Q else K ((base dst vs (D i) a0).put o.dst undef) w)
    (hs : StepsI P ops Q a0 dst D I r) : StepsI P ops Q a0 dst D I (i :: r) := fun j hj => by
  rcases List.mem_cons.1 hj with rfl | hj
  · exact fun l vs w hI hn hd => wpOp_step ho (fun K hK => h l vs w hI hn hd K (fun v w' h1 => hK _ _ ⟨v, rfl, h1⟩))
  · exact hs j hj
theorem wpAny_inv (w0 : World) (hok : ok md ops T dst D k a0.tmps.size = true) (hnd : T.Nodup) (hQ : ∀ c a b w, Q (.panic c) b w → Q (.panic c) a w)
    (h0 : I [] (fun _ => undef) w0) (step : StepsI P ops Q a0 dst D I T)
    (fin : ∀ l vs w, (∀ j, j ∈ l ↔ j ∈ T) → I l vs w → wpAny P md ops Q (ops.size - T.length) (mark T ops.size) (base dst vs T a0) w) :
    wpAny P md ops Q ops.size (Array.replicate ops.size false) a0 w0 := by
  unfold ok at hok
  simp only [Bool.and_eq_true, List.all_eq_true, List.mem_range, Bool.or_eq_true, decide_eq_true_eq, List.contains_iff_mem] at hok; obtain ⟨⟨hsel, hT⟩, hx⟩ := hok
  have hinj : ∀ i ∈ T, ∀ j ∈ T, ∀ d, dst i = some d → dst j = some d → i = j := fun i hi j hj d => (okAt_spec (hT i hi)).2.2.2.1 j hj d
  have go : ∀ (fuel : Nat) (l : List Nat) (vs : Nat → Value) (w : World) (L : Array Bool), fuel + l.length = ops.size → l.Nodup → (∀ j ∈ l, j ∈ T) → (∀ j ∈ l, ∀ x ∈ dep md ops j, x ∈ l) → Good ops.size l L → I l vs w → wpAny P md ops Q fuel L (base dst vs l a0) w := by
    intro fuel
    induction fuel with
    | zero =>
      intro l vs w L hf hn hl hcl hg hI
      by_cases hall : ∀ j ∈ T, j ∈ l
      · have hs : ∀ j, j ∈ l ↔ j ∈ T := fun j => ⟨hl j, hall j⟩
        have h1 := nodup_le hn hl; have h2 := nodup_le hnd hall
        have := fin l vs w hs hI
        rw [← hg.eq (good_mark T ops.size) hs, ← base_same hinj hl (fun _ h => h) hs, show ops.size - T.length = 0 by omega] at this
        exact this
      · exfalso
        obtain ⟨j, hj⟩ := Classical.not_forall.1 hall; obtain ⟨hj, hjl⟩ := Classical.not_imp.1 hj
        have := nodup_le (l := j :: l) (m := List.range ops.size) (List.nodup_cons.2 ⟨hjl, hn⟩) (fun x hx => List.mem_range.2 (by
          rcases List.mem_cons.1 hx with rfl | hx
          · exact (okAt_spec (hT x hj)).1
          · exact (okAt_spec (hT x (hl x hx))).1))
        simp at this
        omega
    | succ fuel ih =>
      intro l vs w L hf hn hl hcl hg hI
      by_cases hall : ∀ j ∈ T, j ∈ l
      · have hs : ∀ j, j ∈ l ↔ j ∈ T := fun j => ⟨hl j, hall j⟩
        have h1 := nodup_le hn hl; have h2 := nodup_le hnd hall
        have := fin l vs w hs hI
        rw [← hg.eq (good_mark T ops.size) hs, ← base_same hinj hl (fun _ h => h) hs, show ops.size - T.length = fuel + 1 by omega] at this
        exact this
      · obtain ⟨j0, hj0⟩ := Classical.not_forall.1 hall; obtain ⟨hj0, hj0l⟩ := Classical.not_imp.1 hj0
        have rdy : ∀ m, m < ops.size → m ∉ l → ∃ r, r ∈ Region.ready md ops L := by
          intro m
          induction m using Nat.strongRecOn with
          | ind m ihm =>
            intro hm hml
            by_cases hd : ∀ x ∈ dep md ops m, x ∈ l
            · refine ⟨m, mem_ready.2 ⟨by rw [Array.getD_eq_getD_getElem?, hg.2 m hm]; simp [hml], ops[m], by simp [hm], fun e he hb => ?_⟩⟩
              have : e.on ∈ dep md ops m := by
                simp only [dep, hm, Array.getElem?_eq_getElem, Option.map_some, Option.getD_some]; exact List.mem_map.2 ⟨e, List.mem_filter.2 ⟨by simpa using he, hb⟩, rfl⟩
              have hlt := (okAt_spec (hT _ (hl _ (hd _ this)))).1; rw [Array.getD_eq_getD_getElem?, hg.2 _ hlt]
              simp [hd _ this]
            · obtain ⟨x, hx1⟩ := Classical.not_forall.1 hd; obtain ⟨hx1, hx2⟩ := Classical.not_imp.1 hx1; have hlt := (hx m hm).1 x hx1; exact ihm x hlt (by omega) hx2
        refine ⟨fun hr => ?_, fun i hi => ?_⟩
        · obtain ⟨r, hr2⟩ := rdy j0 (okAt_spec (hT j0 hj0)).1 hj0l; rw [hr] at hr2
          cases hr2
        · obtain ⟨h0, o, ho, haf⟩ := mem_ready.1 hi
          have hlt : i < ops.size := (Array.getElem?_eq_some_iff.1 ho).1
          have hil : i ∉ l := by
            rw [Array.getD_eq_getD_getElem?, hg.2 i hlt] at h0
            simpa using h0
          have hdep : ∀ x ∈ dep md ops i, x ∈ l := by
            intro x hx1
            simp only [dep, ho, Option.map_some, Option.getD_some] at hx1; obtain ⟨e, he, rfl⟩ := List.mem_map.1 hx1; obtain ⟨he1, he2⟩ := List.mem_filter.1 he; have h1 := haf e (by simpa using he1) he2; have h2 := (hx i hlt).1 e.on (by simp only [dep, ho, Option.map_some, Option.getD_some]; exact List.mem_map.2 ⟨e, he, rfl⟩); rw [Array.getD_eq_getD_getElem?, hg.2 _ (by omega)] at h1
            simpa using h1
          have hiT : i ∈ T := by
            rcases (hx i hlt).2 with h | h
            · exact h
            · exact absurd (anc_sub hcl k _ hdep j0 (h j0 hj0)) hj0l
          obtain ⟨_, hds, hsz, hin, hD, hlk⟩ := okAt_spec (hT i hiT)
          have hds' : o.dst = dst i := by rw [← hds, ho]; rfl
          have hDl : ∀ j ∈ D i, j ∈ l := fun j hj => anc_sub hcl k _ hdep j (hD j hj).2
          have hstep := step i hiT l vs w hI hil hDl; rw [← hds'] at hstep
          have hag : ∀ t ∈ o.looksAt ops, (base dst vs l a0).tmps[t]? = (base dst vs (D i) a0).tmps[t]? := by
            intro t ht
            by_cases h : ∃ j ∈ l, dst j = some t
            · obtain ⟨j, hj, hd⟩ := h
              have htz : t < a0.tmps.size := (okAt_spec (hT j (hl j hj))).2.2.1 t hd
              have hjD := hlk o ho t ht j (hl j hj) hd
              rw [base_hit hd l a0 hj htz (fun x hx hx2 => hinj x (hl x hx) j (hl j hj) t hx2 hd), base_hit hd (D i) a0 hjD htz (fun x hx hx2 => hinj x (hl x (hDl x hx)) j (hl j hj) t hx2 hd)]
            · rw [base_miss l a0 (fun j hj hd => h ⟨j, hj, hd⟩), base_miss (D i) a0 (fun j hj hd => h ⟨j, hDl j hj, hd⟩)]
          have := wpOp_frame ho (Region.noSelect_spec hsel i o · · ho) hag hQ (fun d hd => by rw [base_size]; exact hsz d (hds' ▸ hd)) hstep
          refine wpOp_mono ?_ this; rintro a' w' ⟨v, rfl, h1⟩
          have e : (base dst vs l a0).put o.dst v = base dst (upd vs i v) (l ++ [i]) a0 := by
            rw [base_snoc, upd_same, hds']
            congr 1
            exact base_vs l a0 (fun j hj => by
              have hne : j ≠ i := fun e => hil (e ▸ hj)
              rw [upd_ne hne])
          rw [e]; refine ih (l ++ [i]) _ w' _ (by simp; omega) ?_ ?_ ?_ (hg.set i) h1
          · rw [List.nodup_append]
            refine ⟨hn, by simp, fun x hx y hy => ?_⟩
            simp at hy
            subst hy
            exact fun e => hil (e ▸ hx)
          · intro j hj
            rcases List.mem_append.1 hj with h | h
            · exact hl j h
            · simp at h; subst h; exact hiT
          · intro j hj x hx1
            rcases List.mem_append.1 hj with h | h
            · exact List.mem_append_left _ (hcl j h x hx1)
            · simp at h; subst h; exact List.mem_append_left _ (hdep x hx1)
  exact go ops.size [] (fun _ => undef) w0 _ (by simp) (by simp) (fun _ h => by cases h) (fun _ h => by cases h) (good_nil _) h0
end
section
variable {P : Program} {ops : Array Oper} {Q : Exit → Act → World → Prop} {a0 : Act} {T : List Nat} {ds : List (Option Tmp)} {ls : List (List Nat)} {k : Nat} {I : List Nat → (Nat → Value) → World → Prop}
theorem icons {i : Nat} {o : Oper} {r : List Nat} {di : Option Tmp} {L : List (Option Tmp × Nat)} (ho : ops[i]? = some o) (hdi : ds.getD i none = di) (hL : ((ls.getD i []).map fun j => (ds.getD j none, j)) = L)
    (h : ∀ l vs w, I l vs w → i ∉ l → (∀ j ∈ ls.getD i [], j ∈ l) → ∀ K : Act → World → Prop, Shut (∀ v w', I (l ++ [i]) (upd vs i v) w' → K ((putl vs L a0).put di v) w') →
      if Region.wanted o (yielded ops (putl vs L a0).tmps) = true then Oper.wp P o (putl vs L a0) w K Q else K ((putl vs L a0).put o.dst undef) w)
    (hs : StepsI P ops Q a0 (dstOf ds) (depOf ls) I r) : StepsI P ops Q a0 (dstOf ds) (depOf ls) I (i :: r) := by
  refine StepsI.cons ho (fun l vs w hI hn hd K hK => ?_) hs
  have e : base (dstOf ds) vs (depOf ls i) a0 = putl vs L a0 := by
    rw [base_putl, ← hL]
    rfl
  rw [e] at hK ⊢; refine h l vs w hI hn hd K ?_
  intro v w' h1
  have := hK.out v w' h1
  rwa [show dstOf ds i = di from hdi] at this
theorem region_inv {id fuel : Nat} {w : World} {L : List (Option Tmp × Nat)} (hm : P.follows .mixedOrders = true) (hok : ok .any ops T (dstOf ds) (depOf ls) k a0.tmps.size = true) (hnd : T.Nodup)
    (hL : (T.map fun j => (ds.getD j none, j)) = L) (hfu : ops.size - T.length = fuel) (h0 : I [] (fun _ => undef) w.drew)
    (step : StepsI P ops (NoPanic Q) a0 (dstOf ds) (depOf ls) I T)
    (fin : ∀ l vs wj, (∀ j, j ∈ l ↔ j ∈ T) → I l vs wj → wpAny P .any ops (NoPanic Q) fuel (mark T ops.size) (putl vs L a0) wj) :
    (Code.region id ops true).wp P Q a0 w := by
  refine wp_region_noPanic ?_
  refine wp_region_any hm (wpAny_inv (T := T) (dst := dstOf ds) (D := depOf ls) (k := k) (I := I) _ hok hnd (fun _ _ _ _ h => h) h0 step ?_)
  intro l vs w hl hI
  have e : base (dstOf ds) vs T a0 = putl vs L a0 := by
    rw [base_putl, ← hL]
    rfl
  rw [e, hfu]; exact fin l vs w hl hI
end

/-- Two new variables of one type (operations 4 and 5), whose values are read by operations 0, 1 and 2, 3; the first one is stored into by operation 6. -/
def Two2 (w1 : World) (p0 n0 p2 n2 : Value) (old new : Array Value) (R : TypeId) (l : List Nat) (vs : Nat → Value) (w : World) : Prop :=
  Below w1.heap.size w1 w ∧ (6 ∈ l → 4 ∈ l ∧ 5 ∈ l) ∧ (0 ∈ l → vs 0 = p0) ∧ (1 ∈ l → vs 1 = n0) ∧ (2 ∈ l → vs 2 = p2) ∧ (3 ∈ l → vs 3 = n2) ∧
    (4 ∈ l → ∃ g, vs 4 = .pointer (some ⟨g, 0, none⟩) ∧ w1.heap.size ≤ g ∧ (6 ∈ l → Bo w g new R) ∧ (6 ∉ l → Bo w g old R)) ∧
    (5 ∈ l → ∃ g, vs 5 = .pointer (some ⟨g, 0, none⟩) ∧ w1.heap.size ≤ g ∧ Bo w g old R) ∧ (4 ∈ l → 5 ∈ l → vs 4 ≠ vs 5)
section
variable {w1 w w' : World} {p0 n0 p2 n2 v : Value} {old new : Array Value} {R : TypeId} {l : List Nat} {vs : Nat → Value} {i : Nat}
theorem Two2.nil : Two2 w1 p0 n0 p2 n2 old new R [] (fun _ => undef) w1.drew := ⟨(br _ _).drew, by simp, by simp, by simp, by simp, by simp, by simp, by simp, by simp⟩
theorem Two2.pure (h : Two2 w1 p0 n0 p2 n2 old new R l vs w) (hn : i ∉ l) (hv : i = 0 ∧ v = p0 ∨ i = 1 ∧ v = n0 ∨ i = 2 ∧ v = p2 ∨ i = 3 ∧ v = n2) : Two2 w1 p0 n0 p2 n2 old new R (l ++ [i]) (upd vs i v) w := by
  obtain ⟨h1, h2, h3, h4, h5, h6, h7, h8, h9⟩ := h
  have key : ∀ j u, (j = 0 ∧ u = p0 ∨ j = 1 ∧ u = n0 ∨ j = 2 ∧ u = p2 ∨ j = 3 ∧ u = n2) → (j ∈ l → vs j = u) → j ∈ l ++ [i] → upd vs i v j = u := by
    intro j u hj hl hm
    by_cases e : j = i
    · subst e; rw [upd_same]
      rcases hv with ⟨a, b⟩ | ⟨a, b⟩ | ⟨a, b⟩ | ⟨a, b⟩ <;> rcases hj with ⟨c, d⟩ | ⟨c, d⟩ | ⟨c, d⟩ | ⟨c, d⟩ <;> first | (exfalso; omega) | (rw [b, d])
    · rw [upd_ne e]
      rcases List.mem_append.1 hm with h | h
      · exact hl h
      · simp at h; exact absurd h e
  have i4 : i < 4 := by omega
  have e4 : upd vs i v 4 = vs 4 := upd_ne (by omega)
  have e5 : upd vs i v 5 = vs 5 := upd_ne (by omega)
  have m : ∀ j, 4 ≤ j → (j ∈ l ++ [i] ↔ j ∈ l) := fun j hj => by
    rw [List.mem_append]
    constructor
    · rintro (h | h)
      · exact h
      · simp at h; omega
    · exact .inl
  unfold Two2
  rw [m 4 (by omega), m 5 (by omega), m 6 (by omega), e4, e5]; exact ⟨h1, h2, key 0 p0 (.inl ⟨rfl, rfl⟩) h3, key 1 n0 (.inr (.inl ⟨rfl, rfl⟩)) h4, key 2 p2 (.inr (.inr (.inl ⟨rfl, rfl⟩))) h5, key 3 n2 (.inr (.inr (.inr ⟨rfl, rfl⟩))) h6, h7, h8, h9⟩
theorem Two2.low (h3 : 0 ∈ l → vs 0 = p0) (h4 : 1 ∈ l → vs 1 = n0) (h5 : 2 ∈ l → vs 2 = p2) (h6 : 3 ∈ l → vs 3 = n2) (hi : 4 ≤ i) :
    (0 ∈ l ++ [i] → upd vs i v 0 = p0) ∧ (1 ∈ l ++ [i] → upd vs i v 1 = n0) ∧ (2 ∈ l ++ [i] → upd vs i v 2 = p2) ∧ (3 ∈ l ++ [i] → upd vs i v 3 = n2) := by
  have m : ∀ j, j < 4 → j ∈ l ++ [i] → j ∈ l := fun j hj h => by
    rcases List.mem_append.1 h with h | h
    · exact h
    · simp at h; omega
  exact ⟨fun h => by rw [upd_ne (by omega)]; exact h3 (m 0 (by omega) h), fun h => by rw [upd_ne (by omega)]; exact h4 (m 1 (by omega) h), fun h => by rw [upd_ne (by omega)]; exact h5 (m 2 (by omega) h), fun h => by rw [upd_ne (by omega)]; exact h6 (m 3 (by omega) h)⟩
theorem mem_snoc {j : Nat} (h : j ≠ i) : j ∈ l ++ [i] ↔ j ∈ l := by
  rw [List.mem_append]
  constructor
  · rintro (e | e)
    · exact e
    · simp at e; exact absurd e h
  · exact .inl
theorem Two2.new4 (h : Two2 w1 p0 n0 p2 n2 old new R l vs w) (hn : 4 ∉ l) : Two2 w1 p0 n0 p2 n2 old new R (l ++ [4]) (upd vs 4 (.pointer (some ⟨w.heap.size, 0, none⟩))) (w.alloc (.cells old R)) := by
  obtain ⟨h1, h2, h3, h4, h5, h6, h7, h8, h9⟩ := h; obtain ⟨k3, k4, k5, k6⟩ := Two2.low (i := 4) (v := .pointer (some ⟨w.heap.size, 0, none⟩)) h3 h4 h5 h6 (Nat.le_refl _)
  have n6 : 6 ∉ l := fun c => hn (h2 c).1
  have b := bel1 w (.cells old R)
  unfold Two2
  rw [mem_snoc (j := 6) (by decide), mem_snoc (j := 5) (by decide), upd_same, upd_ne (j := 5) (by decide)]
  refine ⟨bt h1 b, fun c => absurd c n6, k3, k4, k5, k6, fun _ => ⟨_, rfl, h1.size, fun c => absurd c n6, fun _ => Bo.new _ _ _⟩, fun c => ?_, fun _ c => ?_⟩
  · obtain ⟨g, e, hg, X⟩ := h8 c; exact ⟨g, e, hg, X.below b⟩
  · obtain ⟨g, e, hg, X⟩ := h8 c; rw [e]
    intro c
    injection c with c
    injection c with c
    injection c with c
    have := X.lt
    omega
theorem Two2.new5 (h : Two2 w1 p0 n0 p2 n2 old new R l vs w) (hn : 5 ∉ l) : Two2 w1 p0 n0 p2 n2 old new R (l ++ [5]) (upd vs 5 (.pointer (some ⟨w.heap.size, 0, none⟩))) (w.alloc (.cells old R)) := by
  obtain ⟨h1, h2, h3, h4, h5, h6, h7, h8, h9⟩ := h; obtain ⟨k3, k4, k5, k6⟩ := Two2.low (i := 5) (v := .pointer (some ⟨w.heap.size, 0, none⟩)) h3 h4 h5 h6 (by decide)
  have n6 : 6 ∉ l := fun c => hn (h2 c).2
  have b := bel1 w (.cells old R)
  unfold Two2
  rw [mem_snoc (j := 6) (by decide), mem_snoc (j := 4) (by decide), upd_same, upd_ne (j := 4) (by decide)]
  refine ⟨bt h1 b, fun c => absurd c n6, k3, k4, k5, k6, fun c => ?_, fun _ => ⟨_, rfl, h1.size, Bo.new _ _ _⟩, fun c _ => ?_⟩
  · obtain ⟨g, e, hg, _, X⟩ := h7 c
    exact ⟨g, e, hg, fun c => absurd c n6, fun _ => (X n6).below b⟩
  · obtain ⟨g, e, hg, _, X⟩ := h7 c; rw [e]
    intro c
    injection c with c
    injection c with c
    injection c with c
    have := (X n6).lt
    omega
theorem Two2.sto {g : Nat} (h : Two2 w1 p0 n0 p2 n2 old new R l vs w) (hn : 6 ∉ l) (m4 : 4 ∈ l) (m5 : 5 ∈ l) (hg : vs 4 = .pointer (some ⟨g, 0, none⟩)) (S : StN w w' g old new R) : Two2 w1 p0 n0 p2 n2 old new R (l ++ [6]) (upd vs 6 v) w' := by
  obtain ⟨h1, h2, h3, h4, h5, h6, h7, h8, h9⟩ := h; obtain ⟨k3, k4, k5, k6⟩ := Two2.low (i := 6) (v := v) h3 h4 h5 h6 (by decide)
  have m6 : 6 ∈ l ++ [6] := by simp
  unfold Two2
  rw [mem_snoc (j := 4) (by decide), mem_snoc (j := 5) (by decide), upd_ne (j := 4) (by decide), upd_ne (j := 5) (by decide)]; obtain ⟨g1, e1, hb1, _, _⟩ := h7 m4
  obtain rfl : g1 = g := by
    rw [e1] at hg
    injection hg with c
    injection c with c
    injection c
  obtain ⟨g2, e2, hb2, X2⟩ := h8 m5
  have hne : g2 ≠ g1 := fun c => h9 m4 m5 (by rw [e1, e2, c])
  exact ⟨S.below h1 hb1, fun _ => ⟨m4, m5⟩, k3, k4, k5, k6, fun _ => ⟨g1, e1, hb1, fun _ => S.box, fun c => absurd m6 c⟩, fun _ => ⟨g2, e2, hb2, X2.stn S hne⟩, h9⟩
theorem Two2.box4 (h : Two2 w1 p0 n0 p2 n2 old new R l vs w) (m4 : 4 ∈ l) (hn : 6 ∉ l) : ∃ g, vs 4 = .pointer (some ⟨g, 0, none⟩) ∧ Bo w g old R := by
  obtain ⟨_, _, _, _, _, _, h7, _⟩ := h; obtain ⟨g, e, _, _, X⟩ := h7 m4; exact ⟨g, e, X hn⟩
theorem Two2.all (h : Two2 w1 p0 n0 p2 n2 old new R l vs w) (hl : ∀ j, j ∈ l ↔ j ∈ [0, 1, 2, 3, 4, 5, 6]) : Below w1.heap.size w1 w ∧ vs 0 = p0 ∧ vs 1 = n0 ∧ vs 2 = p2 ∧ vs 3 = n2 ∧ ∃ g g', vs 4 = .pointer (some ⟨g, 0, none⟩) ∧ vs 5 = .pointer (some ⟨g', 0, none⟩) ∧ w1.heap.size ≤ g ∧ w1.heap.size ≤ g' ∧ g ≠ g' ∧ Bo w g new R ∧ Bo w g' old R := by
  obtain ⟨h1, h2, h3, h4, h5, h6, h7, h8, h9⟩ := h; have m4 := (hl 4).2 (by decide); have m5 := (hl 5).2 (by decide); have m6 := (hl 6).2 (by decide); obtain ⟨g, e, hb, X0, _⟩ := h7 m4; obtain ⟨g', e', hb', X'⟩ := h8 m5; have X := X0 m6
  exact ⟨h1, h3 ((hl 0).2 (by decide)), h4 ((hl 1).2 (by decide)), h5 ((hl 2).2 (by decide)), h6 ((hl 3).2 (by decide)), g, g', e, e', hb, hb', fun c => h9 m4 m5 (by rw [e, e', c]), X, X'⟩
end
end Go.Proofs.YteejbcimmmcnlaaGreatDoor.Jo

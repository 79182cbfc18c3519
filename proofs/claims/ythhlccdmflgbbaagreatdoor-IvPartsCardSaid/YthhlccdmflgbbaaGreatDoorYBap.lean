/-
  Contracts and words that the statement's proof rests on, several texts in one: Ki, Kj, Ej.
-/
import Derived.Below
import Derived.BigQuiet
import Derived.Carry
import Derived.Deep.DeepCutAuto
import Derived.Deep.Draws
import Derived.Deep.MidRow
import Derived.Deep.QuietTactic
import Derived.Deep.RegionHeld3
import Derived.Deep.RegionWith
import Derived.IntWalk
import Derived.Laws.CopyOwn
import Derived.Laws.MakeOwn
import Derived.Laws.OwnMore
import Derived.Laws.Rows
import Derived.Lib.BitFns
import Derived.Lib.Hide
import Derived.Maps.AppendAt
import Derived.StillTailTactics
import Derived.Test.YthhlccdmflgbbaaGreatDoorRows
import Derived.WalkKit
import Derived.WalkLawsBesides
import Derived.WalkSpells
import Derived.Test.YthhlccdmflgbbaaGreatDoorYBag
import Derived.Test.YthhlccdmflgbbaaGreatDoorYBai
import Derived.Test.YthhlccdmflgbbaaGreatDoorYBaj
import Derived.Test.YthhlccdmflgbbaaGreatDoorYBak
import Derived.Test.YthhlccdmflgbbaaGreatDoorYBal
import Derived.Test.YthhlccdmflgbbaaGreatDoorYBan
import Derived.Test.YthhlccdmflgbbaaGreatDoorYBao
/-
  What num.Round and Exact do, and the document's limbs and Exact.
-/
namespace Go.Proofs.YthhlccdmflgbbaaGreatDoor
open Go.RowKit
set_option linter.unusedVariables false
set_option linter.unusedSimpArgs false
set_option maxRecDepth 100000

theorem nx_sgi (s : Bool) {x : Int} (h0 : 0 ≤ x) (h1 : x ≤ 19342822337206103650074624) : nx (!s) (sgi s x) = sgi s (x + 1) := by
  have := TP_eq
  unfold nx
  cases s
  · show min TP (x + 1) = x + 1
    omega
  · show max (-TP) (-x - 1) = -(x + 1)
    omega
theorem nx_lo {a : Nat} {E : Int} (s : Bool) (h : ext a E = false) : nx (!s) (sgi s (lo a E)) = sgi s (hi a E) := by
  obtain ⟨h1, h2⟩ := lo_bd a E
  have hh : hi a E = lo a E + 1 := by
    unfold hi
    rw [h, if_neg (by decide)]
  rw [hh, nx_sgi s h1 h2]
theorem pick_t (s : Bool) (x y : Int) (b : Bool) (h : b = true) : sgi s (if b = true then x else y) = sgi s x := by rw [if_pos h]
theorem pick_f (s : Bool) (x y : Int) (b : Bool) (h : b = false) : sgi s (if b = true then x else y) = sgi s y := by rw [h, if_neg (by decide)]
theorem rnd_ext {up : Bool} {N E : Int} (h : ext N.natAbs E = true) : rnd up N E = sgi (decide (N < 0)) (lo N.natAbs E) := by
  unfold rnd hi
  rw [if_pos h]
  cases hb : (up != decide (N < 0))
  · exact pick_f _ _ _ _ rfl
  · exact pick_t _ _ _ _ rfl
theorem rnd_same {up s : Bool} {N E : Int} (hs : s = decide (N < 0)) (h : s = up) : rnd up N E = sgi s (lo N.natAbs E) := by
  unfold rnd
  rw [← hs, h]
  exact pick_f _ _ _ _ (by cases up <;> rfl)
theorem rnd_diff {s : Bool} {N E : Int} (hs : s = decide (N < 0)) : rnd (!s) N E = sgi s (hi N.natAbs E) := by
  unfold rnd
  rw [← hs]
  exact pick_t _ _ _ _ (by cases s <;> rfl)
/-- A dyadic number and a truth are answered. -/
def PDB (w : World) (N E : Int) (t : Bool) (e : Ending) (w' : World) : Prop := ∃ s A n c, e = .returned (.tuple #[.agg #[.bool s, .slice A n c, .int .i64 E], .bool t]) ∧ Wn w' s A n c N ∧ n ≤ 2 ∧ Below w.heap.size w w'
def exb (D : Int) (s : Bool) (M E : Int) : Bool := decide (MayQ D s M E) && !(D == 2)
def exq (D : Int) (s : Bool) (M E : Int) : Int × Int := if exb D s M E = true then mk (sgi s M) E else (0, 0)
def Jo.Fact.rd (a K : Nat) : Jo.Fact := ⟨fun v w => ∃ A n c, v = .slice A n c ∧ Rd w A n c a ∧ n ≤ K, fun v w w' h b => by
  obtain ⟨A, n, c, e, h, k⟩ := h; exact ⟨A, n, c, e, h.below b, k⟩⟩
theorem lit_rdk (W : World) {X Y a : Nat} (hX : X < 4294967296) (hY : Y < 4294967296) (ha : Y + 4294967296 * X = a) : Rd (W.alloc (.cells #[.int .u32 (Y : Int), .int .u32 (X : Int)] 77)) (some ⟨W.heap.size, 0, none⟩) 2 2 a :=
  ⟨_, _, lit2 W Y X hY hX, by simp [val]; omega⟩
theorem sg_toNat {s : Bool} {M : Int} (h : 0 ≤ M) : sg s M.toNat = sgi s M := by
  have : ((M.toNat : Nat) : Int) = M := by omega
  unfold sg sgi
  rw [this]
set_option maxHeartbeats 4000000 in
theorem yexact_a {w : World} {D M E : Int} {s : Bool} (hm : decide (MayQ D s M E) = false) : Calls Tryz.prog 54 #[.agg #[.int .i64 D, .bool s, .int .u64 M, .int .i64 E]] w (PDB w 0 0 false) := by
  have HM := Lib.hid hm; clear hm
  go_enter Tryz.func54, Tryz.ntmps54
  go_upto_region 1 with (fail)
  generalize hW1 : (w.alloc _).alloc _ = w1 at *; obtain ⟨X1, XR, HB⟩ := Bo.en2 hW1; clear hW1; obtain ⟨xX10, xX11, xX12, xX13⟩ := X1.u4
  go_wp2_with fail
  refine (yMay HM.out).mono ?_; rintro ee w2 ⟨rfl, B⟩; clear xX10 xX11 xX12 xX13; replace X1 := X1.below B; replace XR := XR.below B; replace HB := Lib.hid (bt HB.out B); clear B; obtain ⟨xXR0, xXR1, xXR2⟩ := XR.u3; have zXR0 := XR.frozen; obtain ⟨xX10, xX11, xX12, xX13⟩ := X1.u4; go_wp2; clear xXR0 zXR0 xXR1 xXR2 xX10 xX11 xX12 xX13; have SX := StN.mk3 XR (.bool false) (.slice none 0 0) (.int .i64 0)
  exact bodyPost_ret (v := .tuple #[.agg #[.bool false, .slice none 0 0, .int .i64 0], .bool false]) (by simp [results, Tryz.results54, go_sem, SX.box.cell]) rfl ⟨_, _, _, _, rfl, Wn.zero, by decide, (SX.below HB.out (by omega))⟩
set_option maxHeartbeats 4000000 in
theorem yexact_b {w : World} {D M E : Int} {s : Bool} (hm : decide (MayQ D s M E) = true) (hd : D = 2) : Calls Tryz.prog 54 #[.agg #[.int .i64 D, .bool s, .int .u64 M, .int .i64 E]] w (PDB w 0 0 false) := by
  have HM := Lib.hid hm; clear hm; subst hd
  go_enter Tryz.func54, Tryz.ntmps54
  go_upto_region 1 with (fail)
  generalize hW1 : (w.alloc _).alloc _ = w1 at *; obtain ⟨X1, XR, HB⟩ := Bo.en2 hW1; clear hW1; obtain ⟨xX10, xX11, xX12, xX13⟩ := X1.u4
  go_wp2_with fail
  refine (yMay HM.out).mono ?_; rintro ee w2 ⟨rfl, B⟩; clear xX10 xX11 xX12 xX13; replace X1 := X1.below B; replace XR := XR.below B; replace HB := Lib.hid (bt HB.out B); clear B; obtain ⟨xXR0, xXR1, xXR2⟩ := XR.u3; have zXR0 := XR.frozen; obtain ⟨xX10, xX11, xX12, xX13⟩ := X1.u4; go_wp2; clear xXR0 zXR0 xXR1 xXR2 xX10 xX11 xX12 xX13; have SX := StN.mk3 XR (.bool false) (.slice none 0 0) (.int .i64 0)
  exact bodyPost_ret (v := .tuple #[.agg #[.bool false, .slice none 0 0, .int .i64 0], .bool false]) (by simp [results, Tryz.results54, go_sem, SX.box.cell]) rfl ⟨_, _, _, _, rfl, Wn.zero, by decide, (SX.below HB.out (by omega))⟩
set_option maxHeartbeats 4000000 in
theorem yexact_z {w : World} {s : Bool} {M E : Int} (hm : decide (MayQ 0 s M E) = true) : Calls Tryz.prog 54 #[.agg #[.int .i64 0, .bool s, .int .u64 M, .int .i64 E]] w (PDB w 0 0 true) := by
  have HM := Lib.hid hm; clear hm
  go_enter Tryz.func54, Tryz.ntmps54
  go_upto_region 1 with (fail)
  generalize hW1 : (w.alloc _).alloc _ = w1 at *; obtain ⟨X1, XR, HB⟩ := Bo.en2 hW1; clear hW1; obtain ⟨xX10, xX11, xX12, xX13⟩ := X1.u4
  go_wp2_with fail
  refine (yMay HM.out).mono ?_; rintro ee w2 ⟨rfl, B⟩; clear xX10 xX11 xX12 xX13; replace X1 := X1.below B; replace XR := XR.below B; replace HB := Lib.hid (bt HB.out B); clear B; obtain ⟨xXR0, xXR1, xXR2⟩ := XR.u3; have zXR0 := XR.frozen; obtain ⟨xX10, xX11, xX12, xX13⟩ := X1.u4; go_wp2; clear xXR0 zXR0 xXR1 xXR2 xX10 xX11 xX12 xX13; have SX := StN.mk3 XR (.bool false) (.slice none 0 0) (.int .i64 0)
  exact bodyPost_ret (v := .tuple #[.agg #[.bool false, .slice none 0 0, .int .i64 0], .bool true]) (by simp [results, Tryz.results54, go_sem, SX.box.cell]) rfl ⟨_, _, _, _, rfl, Wn.zero, by decide, (SX.below HB.out (by omega))⟩
/-- The limbs of a word are answered. -/
def PR (w : World) (a : Nat) (e : Ending) (w' : World) : Prop := ∃ A n c, e = .returned (.slice A n c) ∧ Rd w' A n c a ∧ n ≤ 2 ∧ Below w.heap.size w w'
set_option maxHeartbeats 1000000 in
theorem yLimbs {w : World} {M : Int} (h0 : 0 ≤ M) (hM : M < 18446744073709551616) : Calls Tryz.prog 72 #[.int .u64 M] w (PR w M.toNat) := by
  obtain ⟨X, hX⟩ : ∃ X : Nat, M / 4294967296 = X := ⟨(M / 4294967296).toNat, by omega⟩
  obtain ⟨Y, hY⟩ : ∃ Y : Nat, M % 4294967296 = Y := ⟨(M % 4294967296).toNat, by omega⟩
  have hx : X < 4294967296 := by omega
  have hy : Y < 4294967296 := by omega
  have ha : Y + 4294967296 * X = M.toNat := by omega
  have w1 : IntKind.u32.wrap (X : Int) = X := IntWalk.u32_in _ (by omega)
  have w2 : IntKind.u32.wrap (Y : Int) = Y := IntWalk.u32_in _ (by omega)
  go_enter Tryz.func72, Tryz.ntmps72
  go_wp2
  go_ret
  exact ⟨_, 2, 2, rfl, lit_rdk w hx hy ha, by decide, bel1 _ _⟩
set_option maxHeartbeats 4000000 in
theorem yexact_m {w : World} {D M E : Int} {s : Bool} {N F : Int} (h0 : 0 ≤ M) (hM : M < 18446744073709551616) (hm : decide (MayQ D s M E) = true) (hd : D ≠ 2) (hz : D ≠ 0) (hN : (mk (sgi s M) E).1 = N) (hE : (mk (sgi s M) E).2 = F) : Calls Tryz.prog 54 #[.agg #[.int .i64 D, .bool s, .int .u64 M, .int .i64 E]] w (PDB w N F true) := by
  have HM := Lib.hid hm; have HN := Lib.hid hN; have HE := Lib.hid hE
  have e2 : (D == 2) = false := by simpa using hd
  have e0 : (D == 0) = false := by simpa using hz
  obtain ⟨X, hX⟩ : ∃ X : Nat, M / 4294967296 = X := ⟨(M / 4294967296).toNat, by omega⟩
  obtain ⟨Y, hY⟩ : ∃ Y : Nat, M % 4294967296 = Y := ⟨(M % 4294967296).toNat, by omega⟩
  have hx : X < 4294967296 := by omega
  have hy : Y < 4294967296 := by omega
  have ha : Y + 4294967296 * X = M.toNat := by omega
  have HX := Lib.hid hX
  have HY : Hid (IntKind.u32.wrap M = (Y : Int)) := Lib.hid (by
    show M % 4294967296 = (Y : Int)
    exact hY)
  have HX2 : Hid (IntKind.u32.wrap (X : Int) = (X : Int)) := Lib.hid (IntWalk.u32_in _ (by omega))
  have HS : Hid (sg s M.toNat = sgi s M) := Lib.hid (sg_toNat h0)
  clear hm hN hE hX hY
  go_enter Tryz.func54, Tryz.ntmps54
  go_upto_region 1 with (fail)
  generalize hW1 : (w.alloc _).alloc _ = w1 at *; obtain ⟨X1, XR, HB⟩ := Bo.en2 hW1; clear hW1; obtain ⟨xX10, xX11, xX12, xX13⟩ := X1.u4
  go_wp2_with fail
  refine (yMay HM.out).mono ?_; rintro ee w2 ⟨rfl, B⟩; clear xX10 xX11 xX12 xX13; replace X1 := X1.below B; replace XR := XR.below B; replace HB := Lib.hid (bt HB.out B); clear B; obtain ⟨xX10, xX11, xX12, xX13⟩ := X1.u4
  go_upto_region 6 with (fail)
  clear xX10 xX11 xX12 xX13; refine Jo.rj [0, 1, 2, 3, 4, 5, 6, 7, 8] [some 19, some 20, some 21, some 22, some 23, some 24, some 25, some 26, some 27, none, some 3] [[], [0], [], [2], [3], [1, 4], [], [6], [5, 7], [], []] 11 [(some 19, 0), (some 20, 1), (some 21, 2), (some 22, 3), (some 23, 4), (some 24, 5), (some 25, 6), (some 26, 7), (some 27, 8)] 2 [Jo.qp w.heap.size 1, Jo.qb s, Jo.qp w.heap.size 2, Jo.Fact.eq (.int .u64 M), Jo.Fact.rd M.toNat 2, Jo.Fact.wn (sgi s M) 2, Jo.qp w.heap.size 3, Jo.qi E, Jo.Fact.dy N F 2, Jo.Fact.any, Jo.Fact.any] (by kernel_rfl) (by kernel_rfl) (by decide) rfl rfl ?_ ?_
  · refine Jo.jn 0 (some 19) [] _ rfl rfl rfl rfl ?_ ?_
    · rintro wj hJ K hK; simp only [Jo.z] at hK ⊢; go_simp; exact hK.out _ _ rfl (br _ _)
    refine Jo.jn 1 (some 20) [(some 19, 0)] _ rfl rfl rfl rfl ?_ ?_
    · rintro wj hJ _ rfl K hK; simp only [Jo.z] at hK ⊢; have xX11 := (X1.below hJ).a 1 (.bool s) rfl; go_simp; exact hK.out _ _ rfl (br _ _)
    refine Jo.jn 2 (some 21) [] _ rfl rfl rfl rfl ?_ ?_
    · rintro wj hJ K hK; simp only [Jo.z] at hK ⊢; go_simp; exact hK.out _ _ rfl (br _ _)
    refine Jo.jn 3 (some 22) [(some 21, 2)] _ rfl rfl rfl rfl ?_ ?_
    · rintro wj hJ _ rfl K hK; simp only [Jo.z] at hK ⊢; have xX12 := (X1.below hJ).a 2 (.int .u64 M) rfl; go_simp; exact hK.out _ _ rfl (br _ _)
    refine Jo.jn 4 (some 23) [(some 22, 3)] _ rfl rfl rfl rfl ?_ ?_
    · rintro wj hJ _ rfl K hK; simp only [Jo.z] at hK ⊢; go_simp; refine (yLimbs h0 hM).mono ?_; rintro ee wk ⟨A3, n3, c3, rfl, p3, k3, B⟩; exact hK.out _ _ ⟨A3, n3, c3, rfl, p3, k3⟩ B
    refine Jo.jn 5 (some 24) [(some 20, 1), (some 23, 4)] _ rfl rfl rfl rfl ?_ ?_
    · rintro wj hJ _ rfl _ ⟨A3, n3, c3, rfl, p3, k3⟩ K hK; simp only [Jo.z] at hK ⊢; go_simp; refine (qMake s p3).mono ?_; rintro ee wk ⟨s4, A4, n4, c4, rfl, p4, k4, B⟩; exact hK.out _ _ ⟨s4, A4, n4, c4, rfl, HS.out ▸ p4, by omega⟩ B
    refine Jo.jn 6 (some 25) [] _ rfl rfl rfl rfl ?_ ?_
    · rintro wj hJ K hK; simp only [Jo.z] at hK ⊢; go_simp; exact hK.out _ _ rfl (br _ _)
    refine Jo.jn 7 (some 26) [(some 25, 6)] _ rfl rfl rfl rfl ?_ ?_
    · rintro wj hJ _ rfl K hK; simp only [Jo.z] at hK ⊢; have xX13 := (X1.below hJ).a 3 (.int .i64 E) rfl; go_simp; exact hK.out _ _ rfl (br _ _)
    refine Jo.jn 8 (some 27) [(some 24, 5), (some 26, 7)] _ rfl rfl rfl rfl ?_ ?_
    · rintro wj hJ _ ⟨s4, A4, n4, c4, rfl, p4, k4⟩ _ rfl K hK; simp only [Jo.z] at hK ⊢; go_simp; refine (q3Make p4.wr (by omega) HN.out HE.out).mono ?_; rintro ee wk ⟨s5, A5, n5, c5, rfl, p5, k5, B⟩; exact hK.out _ _ ⟨s5, A5, n5, c5, rfl, p5, by omega⟩ B
    exact Jo.Steps.nil
  rintro w3 hJ _ _ _ rfl _ _ _ rfl _ ⟨A3, n3, c3, rfl, _, _⟩ _ ⟨s4, A4, n4, c4, rfl, _, _⟩ _ _ _ rfl _ ⟨s5, A5, n5, c5, rfl, p5, k5⟩ -; simp only [Jo.z]; replace X1 := X1.below hJ; replace XR := XR.below hJ; replace HB := Lib.hid (bt HB.out hJ); obtain ⟨xXR0, xXR1, xXR2⟩ := XR.u3; have zXR0 := XR.frozen
  refine Jo.jnext (i := 9) (o := ⟨none, _, _, _, _, _⟩) (by kernel_rfl) rfl (fun K hK => ?_)
  go_simp; refine hK.out _ _ ?_; clear hK K xXR0 zXR0 xXR1 xXR2; generalize hS : ((w3.setCell _ _).setCell _ _).setCell _ _ = w4 at *; have SX := StN.of3 XR hS; replace X1 := X1.stn SX (by omega); replace p5 := p5.stn SX (by simp [no32]); replace HB := Lib.hid (SX.below HB.out (by omega)); replace XR := SX.box; clear SX hS
  refine Jo.jnext (i := 10) (o := ⟨some 3, _, _, _, _, _⟩) (by kernel_rfl) rfl (fun K hK => ?_)
  go_simp; refine hK.out _ _ ?_; clear hK K; refine Jo.jdone (by kernel_rfl) ?_; go_wp2; exact bodyPost_ret (v := .tuple #[.agg #[.bool s5, .slice A5 n5 c5, .int .i64 F], .bool true]) (by simp [results, Tryz.results54, go_sem, XR.cell]) rfl ⟨_, _, _, _, rfl, p5, k5, HB.out⟩
theorem yExact0 {w : World} {t : Bool} {D M E : Int} {s : Bool} {N F : Int} (h0 : 0 ≤ M) (hM : M < 18446744073709551616) (hq : exb D s M E = t) (hN : (exq D s M E).1 = N) (hE : (exq D s M E).2 = F) : Calls Tryz.prog 54 #[.agg #[.int .i64 D, .bool s, .int .u64 M, .int .i64 E]] w (PDB w N F t) := by
  unfold exq at hN hE
  rw [hq] at hN hE
  unfold exb at hq
  cases hm : decide (MayQ D s M E)
  · rw [hm, Bool.false_and] at hq; subst hq; subst hN; subst hE; exact yexact_a hm
  · rw [hm, Bool.true_and] at hq
    by_cases hd : D = 2
    · have e : (D == 2) = true := by simpa using hd
      rw [e] at hq; subst hq; subst hN; subst hE; exact yexact_b hm hd
    · have e : (D == 2) = false := by simpa using hd
      rw [e] at hq
      obtain rfl : true = t := hq
      rw [if_pos rfl] at hN hE
      by_cases hz : D = 0
      · subst hz
        have e1 : s = false ∧ M = 0 ∧ E = 0 := by
          have := of_decide_eq_true hm
          unfold MayQ at this
          simpa using this
        obtain ⟨rfl, rfl, rfl⟩ := e1
        have e2 : mk (sgi false 0) 0 = (0, 0) := mk_zero 0
        rw [e2] at hN hE; subst hN; subst hE; exact yexact_z hm
      · exact yexact_m h0 hM hm hd hz hN hE
end Go.Proofs.YthhlccdmflgbbaaGreatDoor

/-
  What the document's Round and Of do.
-/
namespace Go.Proofs.YthhlccdmflgbbaaGreatDoor
open Go.RowKit
set_option linter.unusedVariables false
set_option linter.unusedSimpArgs false
set_option maxRecDepth 100000

theorem fin_nc {a : Nat} {E : Int} (s : Bool) (h : a ≠ 0) : fin s (tp a) (xp a E) false = sgi s (lo a E) := by
  have := TP_eq
  unfold fin lo
  rw [if_neg h]; refine congrArg (sgi s) ?_
  by_cases c1 : 1048576 < xp a E
  · rw [if_pos c1, if_pos c1, if_neg (by decide)]
    omega
  · rw [if_neg c1, if_neg c1]
    by_cases c2 : xp a E < -1048576
    · rw [if_pos c2, if_pos c2, if_neg (by decide)]
    · rw [if_neg c2, if_neg c2]
theorem fin_small {a : Nat} {E : Int} (s : Bool) (h : a ≠ 0) (hl : blen a ≤ 64) : fin s (tp a) (xp a E) true = sgi s (hi a E) := by
  have := TP_eq
  have e0 : (a == 0) = false := by simpa using h
  unfold fin hi ext lo
  rw [if_neg h, e0, Bool.false_or, decide_eq_true hl, Bool.and_true]
  congr 1
  by_cases c1 : 1048576 < xp a E
  · rw [if_pos c1, if_pos rfl, decide_eq_false (show ¬ xp a E ≤ 1048576 by omega), Bool.false_and, if_neg (by decide), if_pos c1]
    omega
  · rw [if_neg c1, if_neg c1, decide_eq_true (show xp a E ≤ 1048576 by omega), Bool.true_and]
    by_cases c2 : xp a E < -1048576
    · rw [if_pos c2, if_pos rfl, decide_eq_false (show ¬ -1048576 ≤ xp a E by omega), if_neg (by decide), if_pos c2]
      rfl
    · rw [if_neg c2, decide_eq_true (show -1048576 ≤ xp a E by omega), if_pos rfl, if_neg c2]
theorem hi_big {a : Nat} {E : Int} (hl : 64 < blen a) : hi a E = lo a E + 1 := by
  have h0 : a ≠ 0 := fun e => by rw [e] at hl; exact absurd hl (by decide)
  have e0 : (a == 0) = false := by simpa using h0
  have : ext a E = false := by
    unfold ext
    rw [e0, decide_eq_false (show ¬ blen a ≤ 64 by omega)]
    simp
  unfold hi
  rw [this, if_neg (by decide)]
theorem fin_up {a : Nat} {E : Int} (s : Bool) (hl : 64 < blen a) (ht : tp a + 1 < 2 ^ 64) : fin s ((tp a + 1 : Nat) : Int) (xp a E) true = sgi s (hi a E) := by
  have := TP_eq
  have h0 : a ≠ 0 := fun e => by rw [e] at hl; exact absurd hl (by decide)
  rw [hi_big hl]
  unfold fin lo
  rw [if_neg h0]
  congr 1
  by_cases c1 : 1048576 < xp a E
  · rw [if_pos c1, if_pos c1, if_pos rfl]
    omega
  · rw [if_neg c1, if_neg c1]
    by_cases c2 : xp a E < -1048576
    · rw [if_pos c2, if_pos c2, if_pos rfl]
      rfl
    · rw [if_neg c2, if_neg c2]
      omega
theorem fin_carry {a : Nat} {E : Int} (s : Bool) (hl : 64 < blen a) (ht : tp a + 1 = 2 ^ 64) : fin s 9223372036854775808 (xp a E + 1) true = sgi s (hi a E) := by
  have := TP_eq
  have h0 : a ≠ 0 := fun e => by rw [e] at hl; exact absurd hl (by decide)
  rw [hi_big hl]
  unfold fin lo
  rw [if_neg h0]
  congr 1
  by_cases c1 : 1048576 < xp a E
  · rw [if_pos (show 1048576 < xp a E + 1 by omega), if_pos c1, if_pos rfl]
    omega
  · rw [if_neg c1]
    by_cases c3 : 1048576 < xp a E + 1
    · rw [if_pos c3, if_pos rfl, if_neg (show ¬ xp a E < -1048576 by omega)]
      omega
    · rw [if_neg c3]
      by_cases c2 : xp a E < -1048576
      · rw [if_pos c2]
        by_cases c4 : xp a E + 1 < -1048576
        · rw [if_pos c4, if_pos rfl]
          rfl
        · rw [if_neg c4]
          omega
      · rw [if_neg c2, if_neg (by omega)]
        omega
theorem tp_one {a : Nat} (h : 64 < blen a) : a / 2 ^ ((blen a : Int) - 64).toNat = tp a := by
  rw [tp_big (by omega), show ((blen a : Int) - 64).toNat = blen a - 64 by omega]
theorem tp_shl {a : Nat} (h : blen a ≤ 64) : a * 2 ^ (64 - (blen a : Int)).toNat = tp a := by
  rw [tp_small h, show (64 - (blen a : Int)).toNat = 64 - blen a by omega]
set_option maxHeartbeats 4000000 in
theorem yround_zero {w : World} {A : Option Addr} {n c a : Nat} {s sg0 up : Bool} {z e N E : Int} (h : Wr w s A n c z) (hn : n ≤ 100000) (hN : (mk z e).1 = N) (hE : (mk z e).2 = E) (ha : N.natAbs = a) (hs : decide (N < 0) = sg0) (h0 : a = 0) :
    Calls Tryz.prog 55 #[.agg #[.bool s, .slice A n c, .int .i64 e], .bool up] w (PN w 0) := by
  obtain ⟨b1, b2⟩ := mk_bd z e; rw [hE] at b1 b2; have HN := Lib.hid hN; have HE := Lib.hid hE; have HA := Lib.hid ha; have HSG := Lib.hid hs; clear hN hE ha hs; subst h0
  go_enter Tryz.func55, Tryz.ntmps55
  go_upto_region 1 with (fail)
  generalize hW1 : (w.alloc _).alloc _ = w1 at *; obtain ⟨X1, XR, HB⟩ := Bo.en2 hW1; replace h := h.below HB.out; clear hW1; obtain ⟨xX10, xX11, xX12⟩ := X1.u3
  go_wp2_with fail
  refine (q3Make h hn HN.out HE.out).mono ?_; rintro ee w2 ⟨s1, A1, n1, c1, rfl, p1, k1, B⟩; clear xX10 xX11 xX12; replace X1 := X1.below B; replace XR := XR.below B; replace h := h.below B; replace HB := Lib.hid (bt HB.out B); clear B
  go_upto_region 2 with (fail)
  have lX5 := Nat.le_refl (World.heap w2).size; have nX5X1 := X1.lt; have nX5XR := XR.lt; generalize hWn : w2.alloc _ = w3 at *; obtain ⟨X5, BW⟩ := Bo.nw hWn; clear hWn; replace X1 := X1.below BW; replace XR := XR.below BW; replace p1 := p1.below BW; replace HB := Lib.hid (bt HB.out BW); clear BW; clear lX5
  have hz : n1 = 0 := by have := p1.1.pos; have := HA.out; omega
  subst hz; clear p1; obtain ⟨xXR0, xXR1, xXR2, xXR3⟩ := XR.u4; have zXR0 := XR.frozen; obtain ⟨xX50, xX51, xX52⟩ := X5.u3; go_wp2; clear xXR0 zXR0 xXR1 xXR2 xXR3 xX50 xX51 xX52; have SX := StN.mk4 XR (.int .i64 0) (.bool false) (.int .u64 0) (.int .i64 0); exact bodyPost_ret (by simp [results, Tryz.results55, go_sem, SX.box.cell]) rfl ⟨_, _, _, _, rfl, Fq.nought, (SX.below HB.out (by omega))⟩
set_option maxHeartbeats 4000000 in
theorem yround_ss {w : World} {A : Option Addr} {n c a : Nat} {s sg0 : Bool} {z e N E L x r : Int} (h : Wr w s A n c z) (hn : n ≤ 100000) (hN : (mk z e).1 = N) (hE : (mk z e).2 = E) (ha : N.natAbs = a) (hs : decide (N < 0) = sg0) (h0 : a ≠ 0) (hL : ((blen a : Nat) : Int) = L) (hl : L ≤ 64) (hx : E + L - 64 = x) (hb : L ≤ 3200000) (hr : fin sg0 (tp a) x false = r) :
    Calls Tryz.prog 55 #[.agg #[.bool s, .slice A n c, .int .i64 e], .bool sg0] w (PN w r) := by
  obtain ⟨b1, b2⟩ := mk_bd z e; rw [hE] at b1 b2; have HN := Lib.hid hN; have HE := Lib.hid hE; have HA := Lib.hid ha; have HSG := Lib.hid hs; have HL := Lib.hid hL
  have hl0 : blen a ≠ 0 := fun e => h0 (blen_eq_zero.1 e)
  have g1 := tp_ge h0; have g2 := tp_lt a
  have HX1 : Hid (IntKind.i64.wrap (E + L) = E + L) := Lib.hid (IntWalk.i64_in _ (by omega))
  have HX2 : Hid (IntKind.i64.wrap (E + L - 64) = x) := Lib.hid (by rw [hx]; exact IntWalk.i64_in _ (by omega))
  obtain ⟨T, hT⟩ : ∃ T, ((tp a : Nat) : Int) = T := ⟨_, rfl⟩; rw [hT] at hr; have HT := Lib.hid hT; have HR := Lib.hid hr; obtain ⟨v, hv⟩ : ∃ v, 64 - L = v := ⟨_, rfl⟩
  have HV : Hid (IntKind.i64.wrap (64 - L) = v) := Lib.hid (by rw [hv]; exact IntWalk.i64_in _ (by omega))
  have HSH : Hid (a * 2 ^ v.toNat = tp a) := Lib.hid (by rw [← hv, ← hL]; exact tp_shl (by omega))
  have hv1 : 0 ≤ v := by omega
  have hv2 : v ≤ 64 := by omega
  have hT1 : 9223372036854775808 ≤ T := by omega
  have hT2 : T < 18446744073709551616 := by omega
  have HG2 := Lib.hid g2; clear hN hE ha hs hL hx hr hT hv g1 g2 hl0
  go_enter Tryz.func55, Tryz.ntmps55
  go_upto_region 1 with (fail)
  generalize hW1 : (w.alloc _).alloc _ = w1 at *; obtain ⟨X1, XR, HB⟩ := Bo.en2 hW1; replace h := h.below HB.out; clear hW1; obtain ⟨xX10, xX11, xX12⟩ := X1.u3
  go_wp2_with fail
  refine (q3Make h hn HN.out HE.out).mono ?_; rintro ee w2 ⟨s1, A1, n1, c1, rfl, p1, k1, B⟩; clear xX10 xX11 xX12; replace X1 := X1.below B; replace XR := XR.below B; replace h := h.below B; replace HB := Lib.hid (bt HB.out B); clear B
  go_upto_region 2 with (fail)
  have lX5 := Nat.le_refl (World.heap w2).size; have nX5X1 := X1.lt; have nX5XR := XR.lt; generalize hWn : w2.alloc _ = w3 at *; obtain ⟨X5, BW⟩ := Bo.nw hWn; clear hWn; replace X1 := X1.below BW; replace XR := XR.below BW; replace p1 := p1.below BW; replace HB := Lib.hid (bt HB.out BW); clear BW; clear lX5
  obtain rfl : s1 = sg0 := p1.2.trans HSG.out
  have p2 : Nm w3 A1 n1 c1 a := HA.out ▸ p1.1
  have hbl := p2.rd.blen_le
  have hn1 : n1 ≤ 100000 := by omega
  have hpos : 0 < n1 := p2.pos.2 (by omega)
  clear p1 HSG
  have e0 : ((n1 : Int) == 0) = false := by
    have : (n1 : Int) ≠ 0 := by omega
    simpa using this
  have hbg : n1 ≤ 1099511627776 := by omega
  have f1 : (s1 != s1) = false := by cases s1 <;> rfl
  have f2 : (!s1 != s1) = true := by cases s1 <;> rfl
  have f3 : (s1 == s1) = true := by cases s1 <;> rfl
  have f4 : ((!s1) == s1) = false := by cases s1 <;> rfl
  obtain ⟨xX50, xX51, xX52⟩ := X5.u3
  go_wp2_with fail
  refine (rLen p2.rd HL.out).mono ?_; rintro ee w4 ⟨rfl, B⟩; clear xX50 xX51 xX52; replace XR := XR.below B; replace X5 := X5.below B; replace p2 := p2.below B; replace HB := Lib.hid (bt HB.out B); clear B; obtain ⟨xX50, xX51, xX52⟩ := X5.u3
  go_upto_region 7 with (fail)
  clear xX50 xX51 xX52; refine Jo.rj [0, 1, 2, 3, 4, 5, 6, 7, 8, 9, 10, 11, 12, 13, 14, 15, 16] [some 32, some 33, some 34, some 35, some 36, some 37, some 38, some 39, some 40, some 41, some 42, some 43, some 44, some 45, some 46, some 47, some 48, none] [[], [0], [1], [], [3], [4], [], [6], [5, 7], [8], [], [10], [], [11, 12], [13], [], [2, 9, 14, 15], []] 18 [(some 32, 0), (some 33, 1), (some 34, 2), (some 35, 3), (some 36, 4), (some 37, 5), (some 38, 6), (some 39, 7), (some 40, 8), (some 41, 9), (some 42, 10), (some 43, 11), (some 44, 12), (some 45, 13), (some 46, 14), (some 47, 15), (some 48, 16)] 1 [Jo.qp w2.heap.size 0, Jo.qp w2.heap.size 0, Jo.qb s1, Jo.qp w2.heap.size 0, Jo.qp w2.heap.size 1, Jo.Fact.eq (.slice A1 n1 c1), Jo.qi L, Jo.qi v, Jo.Fact.nm (tp a) 100100, Jo.Fact.eq (.int .u64 T), Jo.qp w2.heap.size 2, Jo.qi E, Jo.qi L, Jo.Fact.eq (.int .i64 (E + L)), Jo.qi x, Jo.qb false, Jo.Fact.num r, Jo.Fact.any] (by kernel_rfl) (by kernel_rfl) (by decide) rfl rfl ?_ ?_
  · refine Jo.jn 0 (some 32) [] _ rfl rfl rfl rfl ?_ ?_
    · rintro wj hJ K hK; simp only [Jo.z] at hK ⊢; go_simp; exact hK.out _ _ rfl (br _ _)
    refine Jo.jn 1 (some 33) [(some 32, 0)] _ rfl rfl rfl rfl ?_ ?_
    · rintro wj hJ _ rfl K hK; simp only [Jo.z] at hK ⊢; go_simp; exact hK.out _ _ rfl (br _ _)
    refine Jo.jn 2 (some 34) [(some 33, 1)] _ rfl rfl rfl rfl ?_ ?_
    · rintro wj hJ _ rfl K hK; simp only [Jo.z] at hK ⊢; have xX50 := (X5.below hJ).a 0 (.bool s1) rfl; go_simp; exact hK.out _ _ rfl (br _ _)
    refine Jo.jn 3 (some 35) [] _ rfl rfl rfl rfl ?_ ?_
    · rintro wj hJ K hK; simp only [Jo.z] at hK ⊢; go_simp; exact hK.out _ _ rfl (br _ _)
    refine Jo.jn 4 (some 36) [(some 35, 3)] _ rfl rfl rfl rfl ?_ ?_
    · rintro wj hJ _ rfl K hK; simp only [Jo.z] at hK ⊢; go_simp; exact hK.out _ _ rfl (br _ _)
    refine Jo.jn 5 (some 37) [(some 36, 4)] _ rfl rfl rfl rfl ?_ ?_
    · rintro wj hJ _ rfl K hK; simp only [Jo.z] at hK ⊢; have xX51 := (X5.below hJ).a 1 (.slice A1 n1 c1) rfl; go_simp; exact hK.out _ _ rfl (br _ _)
    refine Jo.jn 6 (some 38) [] _ rfl rfl rfl rfl ?_ ?_
    · rintro wj hJ K hK; simp only [Jo.z] at hK ⊢; go_simp; exact hK.out _ _ rfl (br _ _)
    refine Jo.jn 7 (some 39) [(some 38, 6)] _ rfl rfl rfl rfl ?_ ?_
    · rintro wj hJ _ rfl K hK; simp only [Jo.z] at hK ⊢; have hv := HV.out; go_simp; exact hK.out _ _ rfl (br _ _)
    refine Jo.jn 8 (some 40) [(some 37, 5), (some 39, 7)] _ rfl rfl rfl rfl ?_ ?_
    · rintro wj hJ _ rfl _ rfl K hK; simp only [Jo.z] at hK ⊢; go_simp; refine (rShlN (p2.below hJ).rd (by omega) hv1 (by omega) HSH.out).mono ?_; rintro ee wk ⟨A3, n3, c3, rfl, p3, k3, B⟩; exact hK.out _ _ ⟨A3, n3, c3, rfl, p3, by omega⟩ B
    refine Jo.jn 9 (some 41) [(some 40, 8)] _ rfl rfl rfl rfl ?_ ?_
    · rintro wj hJ _ ⟨A3, n3, c3, rfl, p3, k3⟩ K hK; simp only [Jo.z] at hK ⊢; go_simp; refine (yWord p3 HG2.out HT.out).mono ?_; rintro ee wk ⟨rfl, B⟩; exact hK.out _ _ rfl B
    refine Jo.jn 10 (some 42) [] _ rfl rfl rfl rfl ?_ ?_
    · rintro wj hJ K hK; simp only [Jo.z] at hK ⊢; go_simp; exact hK.out _ _ rfl (br _ _)
    refine Jo.jn 11 (some 43) [(some 42, 10)] _ rfl rfl rfl rfl ?_ ?_
    · rintro wj hJ _ rfl K hK; simp only [Jo.z] at hK ⊢; have xX52 := (X5.below hJ).a 2 (.int .i64 E) rfl; go_simp; exact hK.out _ _ rfl (br _ _)
    refine Jo.jn 12 (some 44) [] _ rfl rfl rfl rfl ?_ ?_
    · rintro wj hJ K hK; simp only [Jo.z] at hK ⊢; go_simp; exact hK.out _ _ rfl (br _ _)
    refine Jo.jn 13 (some 45) [(some 43, 11), (some 44, 12)] _ rfl rfl rfl rfl ?_ ?_
    · rintro wj hJ _ rfl _ rfl K hK; simp only [Jo.z] at hK ⊢; have hx1 := HX1.out; go_simp; exact hK.out _ _ rfl (br _ _)
    refine Jo.jn 14 (some 46) [(some 45, 13)] _ rfl rfl rfl rfl ?_ ?_
    · rintro wj hJ _ rfl K hK; simp only [Jo.z] at hK ⊢; have hx2 := HX2.out; go_simp; exact hK.out _ _ rfl (br _ _)
    refine Jo.jn 15 (some 47) [] _ rfl rfl rfl rfl ?_ ?_
    · rintro wj hJ K hK; simp only [Jo.z] at hK ⊢; go_simp; exact hK.out _ _ rfl (br _ _)
    refine Jo.jn 16 (some 48) [(some 34, 2), (some 41, 9), (some 46, 14), (some 47, 15)] _ rfl rfl rfl rfl ?_ ?_
    · rintro wj hJ _ rfl _ rfl _ rfl _ rfl K hK; simp only [Jo.z] at hK ⊢; go_simp; refine (yFin hT1 hT2 HR.out).mono ?_; rintro ee wk ⟨K4, s4, M4, E4, rfl, q4, B⟩; exact hK.out _ _ ⟨K4, s4, M4, E4, rfl, q4⟩ B
    exact Jo.Steps.nil
  rintro w5 hJ _ _ _ _ _ rfl _ _ _ _ _ rfl _ rfl _ rfl _ ⟨A3, n3, c3, rfl, _, _⟩ _ rfl _ _ _ rfl _ rfl _ rfl _ rfl _ rfl _ ⟨K4, s4, M4, E4, rfl, q4⟩ -; simp only [Jo.z]; replace XR := XR.below hJ; replace X5 := X5.below hJ; replace p2 := p2.below hJ; replace HB := Lib.hid (bt HB.out hJ); obtain ⟨xXR0, xXR1, xXR2, xXR3⟩ := XR.u4; have zXR0 := XR.frozen
  refine Jo.jnext (i := 17) (o := ⟨none, _, _, _, _, _⟩) (by kernel_rfl) rfl (fun K hK => ?_)
  go_simp; refine hK.out _ _ ?_; clear hK K xXR0 zXR0 xXR1 xXR2 xXR3; have SX := StN.mk4 XR (.int .i64 K4) (.bool s4) (.int .u64 M4) (.int .i64 E4); refine Jo.jdone (by kernel_rfl) ?_; go_wp2; exact bodyPost_ret (by simp [results, Tryz.results55, go_sem, SX.box.cell]) rfl ⟨_, _, _, _, rfl, q4, (SX.below HB.out (by omega))⟩
set_option maxHeartbeats 4000000 in
theorem yround_sd {w : World} {A : Option Addr} {n c a : Nat} {s sg0 : Bool} {z e N E L x r : Int} (h : Wr w s A n c z) (hn : n ≤ 100000) (hN : (mk z e).1 = N) (hE : (mk z e).2 = E) (ha : N.natAbs = a) (hs : decide (N < 0) = sg0) (h0 : a ≠ 0) (hL : ((blen a : Nat) : Int) = L) (hl : L ≤ 64) (hx : E + L - 64 = x) (hb : L ≤ 3200000) (hr : fin sg0 (tp a) x true = r) :
    Calls Tryz.prog 55 #[.agg #[.bool s, .slice A n c, .int .i64 e], .bool (!sg0)] w (PN w r) := by
  obtain ⟨b1, b2⟩ := mk_bd z e; rw [hE] at b1 b2; have HN := Lib.hid hN; have HE := Lib.hid hE; have HA := Lib.hid ha; have HSG := Lib.hid hs; have HL := Lib.hid hL
  have hl0 : blen a ≠ 0 := fun e => h0 (blen_eq_zero.1 e)
  have g1 := tp_ge h0; have g2 := tp_lt a
  have HX1 : Hid (IntKind.i64.wrap (E + L) = E + L) := Lib.hid (IntWalk.i64_in _ (by omega))
  have HX2 : Hid (IntKind.i64.wrap (E + L - 64) = x) := Lib.hid (by rw [hx]; exact IntWalk.i64_in _ (by omega))
  obtain ⟨T, hT⟩ : ∃ T, ((tp a : Nat) : Int) = T := ⟨_, rfl⟩; rw [hT] at hr; have HT := Lib.hid hT; have HR := Lib.hid hr; obtain ⟨v, hv⟩ : ∃ v, 64 - L = v := ⟨_, rfl⟩
  have HV : Hid (IntKind.i64.wrap (64 - L) = v) := Lib.hid (by rw [hv]; exact IntWalk.i64_in _ (by omega))
  have HSH : Hid (a * 2 ^ v.toNat = tp a) := Lib.hid (by rw [← hv, ← hL]; exact tp_shl (by omega))
  have hv1 : 0 ≤ v := by omega
  have hv2 : v ≤ 64 := by omega
  have hT1 : 9223372036854775808 ≤ T := by omega
  have hT2 : T < 18446744073709551616 := by omega
  have HG2 := Lib.hid g2; clear hN hE ha hs hL hx hr hT hv g1 g2 hl0
  go_enter Tryz.func55, Tryz.ntmps55
  go_upto_region 1 with (fail)
  generalize hW1 : (w.alloc _).alloc _ = w1 at *; obtain ⟨X1, XR, HB⟩ := Bo.en2 hW1; replace h := h.below HB.out; clear hW1; obtain ⟨xX10, xX11, xX12⟩ := X1.u3
  go_wp2_with fail
  refine (q3Make h hn HN.out HE.out).mono ?_; rintro ee w2 ⟨s1, A1, n1, c1, rfl, p1, k1, B⟩; clear xX10 xX11 xX12; replace X1 := X1.below B; replace XR := XR.below B; replace h := h.below B; replace HB := Lib.hid (bt HB.out B); clear B
  go_upto_region 2 with (fail)
  have lX5 := Nat.le_refl (World.heap w2).size; have nX5X1 := X1.lt; have nX5XR := XR.lt; generalize hWn : w2.alloc _ = w3 at *; obtain ⟨X5, BW⟩ := Bo.nw hWn; clear hWn; replace X1 := X1.below BW; replace XR := XR.below BW; replace p1 := p1.below BW; replace HB := Lib.hid (bt HB.out BW); clear BW; clear lX5
  obtain rfl : s1 = sg0 := p1.2.trans HSG.out
  have p2 : Nm w3 A1 n1 c1 a := HA.out ▸ p1.1
  have hbl := p2.rd.blen_le
  have hn1 : n1 ≤ 100000 := by omega
  have hpos : 0 < n1 := p2.pos.2 (by omega)
  clear p1 HSG
  have e0 : ((n1 : Int) == 0) = false := by
    have : (n1 : Int) ≠ 0 := by omega
    simpa using this
  have hbg : n1 ≤ 1099511627776 := by omega
  have f1 : (s1 != s1) = false := by cases s1 <;> rfl
  have f2 : (!s1 != s1) = true := by cases s1 <;> rfl
  have f3 : (s1 == s1) = true := by cases s1 <;> rfl
  have f4 : ((!s1) == s1) = false := by cases s1 <;> rfl
  obtain ⟨xX50, xX51, xX52⟩ := X5.u3
  go_wp2_with fail
  refine (rLen p2.rd HL.out).mono ?_; rintro ee w4 ⟨rfl, B⟩; clear xX50 xX51 xX52; replace XR := XR.below B; replace X5 := X5.below B; replace p2 := p2.below B; replace HB := Lib.hid (bt HB.out B); clear B; obtain ⟨xX50, xX51, xX52⟩ := X5.u3
  go_upto_region 7 with (fail)
  clear xX50 xX51 xX52; refine Jo.rj [0, 1, 2, 3, 4, 5, 6, 7, 8, 9, 10, 11, 12, 13, 14, 15, 16] [some 32, some 33, some 34, some 35, some 36, some 37, some 38, some 39, some 40, some 41, some 42, some 43, some 44, some 45, some 46, some 47, some 48, none] [[], [0], [1], [], [3], [4], [], [6], [5, 7], [8], [], [10], [], [11, 12], [13], [], [2, 9, 14, 15], []] 18 [(some 32, 0), (some 33, 1), (some 34, 2), (some 35, 3), (some 36, 4), (some 37, 5), (some 38, 6), (some 39, 7), (some 40, 8), (some 41, 9), (some 42, 10), (some 43, 11), (some 44, 12), (some 45, 13), (some 46, 14), (some 47, 15), (some 48, 16)] 1 [Jo.qp w2.heap.size 0, Jo.qp w2.heap.size 0, Jo.qb s1, Jo.qp w2.heap.size 0, Jo.qp w2.heap.size 1, Jo.Fact.eq (.slice A1 n1 c1), Jo.qi L, Jo.qi v, Jo.Fact.nm (tp a) 100100, Jo.Fact.eq (.int .u64 T), Jo.qp w2.heap.size 2, Jo.qi E, Jo.qi L, Jo.Fact.eq (.int .i64 (E + L)), Jo.qi x, Jo.qb true, Jo.Fact.num r, Jo.Fact.any] (by kernel_rfl) (by kernel_rfl) (by decide) rfl rfl ?_ ?_
  · refine Jo.jn 0 (some 32) [] _ rfl rfl rfl rfl ?_ ?_
    · rintro wj hJ K hK; simp only [Jo.z] at hK ⊢; go_simp; exact hK.out _ _ rfl (br _ _)
    refine Jo.jn 1 (some 33) [(some 32, 0)] _ rfl rfl rfl rfl ?_ ?_
    · rintro wj hJ _ rfl K hK; simp only [Jo.z] at hK ⊢; go_simp; exact hK.out _ _ rfl (br _ _)
    refine Jo.jn 2 (some 34) [(some 33, 1)] _ rfl rfl rfl rfl ?_ ?_
    · rintro wj hJ _ rfl K hK; simp only [Jo.z] at hK ⊢; have xX50 := (X5.below hJ).a 0 (.bool s1) rfl; go_simp; exact hK.out _ _ rfl (br _ _)
    refine Jo.jn 3 (some 35) [] _ rfl rfl rfl rfl ?_ ?_
    · rintro wj hJ K hK; simp only [Jo.z] at hK ⊢; go_simp; exact hK.out _ _ rfl (br _ _)
    refine Jo.jn 4 (some 36) [(some 35, 3)] _ rfl rfl rfl rfl ?_ ?_
    · rintro wj hJ _ rfl K hK; simp only [Jo.z] at hK ⊢; go_simp; exact hK.out _ _ rfl (br _ _)
    refine Jo.jn 5 (some 37) [(some 36, 4)] _ rfl rfl rfl rfl ?_ ?_
    · rintro wj hJ _ rfl K hK; simp only [Jo.z] at hK ⊢; have xX51 := (X5.below hJ).a 1 (.slice A1 n1 c1) rfl; go_simp; exact hK.out _ _ rfl (br _ _)
    refine Jo.jn 6 (some 38) [] _ rfl rfl rfl rfl ?_ ?_
    · rintro wj hJ K hK; simp only [Jo.z] at hK ⊢; go_simp; exact hK.out _ _ rfl (br _ _)
    refine Jo.jn 7 (some 39) [(some 38, 6)] _ rfl rfl rfl rfl ?_ ?_
    · rintro wj hJ _ rfl K hK; simp only [Jo.z] at hK ⊢; have hv := HV.out; go_simp; exact hK.out _ _ rfl (br _ _)
    refine Jo.jn 8 (some 40) [(some 37, 5), (some 39, 7)] _ rfl rfl rfl rfl ?_ ?_
    · rintro wj hJ _ rfl _ rfl K hK; simp only [Jo.z] at hK ⊢; go_simp; refine (rShlN (p2.below hJ).rd (by omega) hv1 (by omega) HSH.out).mono ?_; rintro ee wk ⟨A3, n3, c3, rfl, p3, k3, B⟩; exact hK.out _ _ ⟨A3, n3, c3, rfl, p3, by omega⟩ B
    refine Jo.jn 9 (some 41) [(some 40, 8)] _ rfl rfl rfl rfl ?_ ?_
    · rintro wj hJ _ ⟨A3, n3, c3, rfl, p3, k3⟩ K hK; simp only [Jo.z] at hK ⊢; go_simp; refine (yWord p3 HG2.out HT.out).mono ?_; rintro ee wk ⟨rfl, B⟩; exact hK.out _ _ rfl B
    refine Jo.jn 10 (some 42) [] _ rfl rfl rfl rfl ?_ ?_
    · rintro wj hJ K hK; simp only [Jo.z] at hK ⊢; go_simp; exact hK.out _ _ rfl (br _ _)
    refine Jo.jn 11 (some 43) [(some 42, 10)] _ rfl rfl rfl rfl ?_ ?_
    · rintro wj hJ _ rfl K hK; simp only [Jo.z] at hK ⊢; have xX52 := (X5.below hJ).a 2 (.int .i64 E) rfl; go_simp; exact hK.out _ _ rfl (br _ _)
    refine Jo.jn 12 (some 44) [] _ rfl rfl rfl rfl ?_ ?_
    · rintro wj hJ K hK; simp only [Jo.z] at hK ⊢; go_simp; exact hK.out _ _ rfl (br _ _)
    refine Jo.jn 13 (some 45) [(some 43, 11), (some 44, 12)] _ rfl rfl rfl rfl ?_ ?_
    · rintro wj hJ _ rfl _ rfl K hK; simp only [Jo.z] at hK ⊢; have hx1 := HX1.out; go_simp; exact hK.out _ _ rfl (br _ _)
    refine Jo.jn 14 (some 46) [(some 45, 13)] _ rfl rfl rfl rfl ?_ ?_
    · rintro wj hJ _ rfl K hK; simp only [Jo.z] at hK ⊢; have hx2 := HX2.out; go_simp; exact hK.out _ _ rfl (br _ _)
    refine Jo.jn 15 (some 47) [] _ rfl rfl rfl rfl ?_ ?_
    · rintro wj hJ K hK; simp only [Jo.z] at hK ⊢; go_simp; exact hK.out _ _ rfl (br _ _)
    refine Jo.jn 16 (some 48) [(some 34, 2), (some 41, 9), (some 46, 14), (some 47, 15)] _ rfl rfl rfl rfl ?_ ?_
    · rintro wj hJ _ rfl _ rfl _ rfl _ rfl K hK; simp only [Jo.z] at hK ⊢; go_simp; refine (yFin hT1 hT2 HR.out).mono ?_; rintro ee wk ⟨K4, s4, M4, E4, rfl, q4, B⟩; exact hK.out _ _ ⟨K4, s4, M4, E4, rfl, q4⟩ B
    exact Jo.Steps.nil
  rintro w5 hJ _ _ _ _ _ rfl _ _ _ _ _ rfl _ rfl _ rfl _ ⟨A3, n3, c3, rfl, _, _⟩ _ rfl _ _ _ rfl _ rfl _ rfl _ rfl _ rfl _ ⟨K4, s4, M4, E4, rfl, q4⟩ -; simp only [Jo.z]; replace XR := XR.below hJ; replace X5 := X5.below hJ; replace p2 := p2.below hJ; replace HB := Lib.hid (bt HB.out hJ); obtain ⟨xXR0, xXR1, xXR2, xXR3⟩ := XR.u4; have zXR0 := XR.frozen
  refine Jo.jnext (i := 17) (o := ⟨none, _, _, _, _, _⟩) (by kernel_rfl) rfl (fun K hK => ?_)
  go_simp; refine hK.out _ _ ?_; clear hK K xXR0 zXR0 xXR1 xXR2 xXR3; have SX := StN.mk4 XR (.int .i64 K4) (.bool s4) (.int .u64 M4) (.int .i64 E4); refine Jo.jdone (by kernel_rfl) ?_; go_wp2; exact bodyPost_ret (by simp [results, Tryz.results55, go_sem, SX.box.cell]) rfl ⟨_, _, _, _, rfl, q4, (SX.below HB.out (by omega))⟩
set_option maxHeartbeats 4000000 in
theorem yround_bs {w : World} {A : Option Addr} {n c a : Nat} {s sg0 : Bool} {z e N E L x r : Int} (h : Wr w s A n c z) (hn : n ≤ 100000) (hN : (mk z e).1 = N) (hE : (mk z e).2 = E) (ha : N.natAbs = a) (hs : decide (N < 0) = sg0) (h0 : a ≠ 0) (hL : ((blen a : Nat) : Int) = L) (hl : 64 < L) (hx : E + L - 64 = x) (hb : L ≤ 3200000) (hr : fin sg0 (tp a) x false = r) :
    Calls Tryz.prog 55 #[.agg #[.bool s, .slice A n c, .int .i64 e], .bool sg0] w (PN w r) := by
  obtain ⟨b1, b2⟩ := mk_bd z e; rw [hE] at b1 b2; have HN := Lib.hid hN; have HE := Lib.hid hE; have HA := Lib.hid ha; have HSG := Lib.hid hs; have HL := Lib.hid hL
  have hl0 : blen a ≠ 0 := fun e => h0 (blen_eq_zero.1 e)
  have g1 := tp_ge h0; have g2 := tp_lt a
  have HX1 : Hid (IntKind.i64.wrap (E + L) = E + L) := Lib.hid (IntWalk.i64_in _ (by omega))
  have HX2 : Hid (IntKind.i64.wrap (E + L - 64) = x) := Lib.hid (by rw [hx]; exact IntWalk.i64_in _ (by omega))
  obtain ⟨v, hv⟩ : ∃ v, L - 64 = v := ⟨_, rfl⟩
  have HV : Hid (IntKind.i64.wrap (L - 64) = v) := Lib.hid (by rw [hv]; exact IntWalk.i64_in _ (by omega))
  have HSH : Hid (a / 2 ^ v.toNat = tp a) := Lib.hid (by rw [← hv, ← hL]; exact tp_one (by omega))
  obtain ⟨T, hT⟩ : ∃ T, ((tp a : Nat) : Int) = T := ⟨_, rfl⟩; rw [hT] at hr; have HT := Lib.hid hT; have HR := Lib.hid hr
  have hT1 : 9223372036854775808 ≤ T := by omega
  have hT2 : T < 18446744073709551616 := by omega
  have HG2 := Lib.hid g2; clear hN hE ha hs hL hx hr hT hv g1 g2 hl0
  go_enter Tryz.func55, Tryz.ntmps55
  go_upto_region 1 with (fail)
  generalize hW1 : (w.alloc _).alloc _ = w1 at *; obtain ⟨X1, XR, HB⟩ := Bo.en2 hW1; replace h := h.below HB.out; clear hW1; obtain ⟨xX10, xX11, xX12⟩ := X1.u3
  go_wp2_with fail
  refine (q3Make h hn HN.out HE.out).mono ?_; rintro ee w2 ⟨s1, A1, n1, c1, rfl, p1, k1, B⟩; clear xX10 xX11 xX12; replace X1 := X1.below B; replace XR := XR.below B; replace h := h.below B; replace HB := Lib.hid (bt HB.out B); clear B
  go_upto_region 2 with (fail)
  have lX5 := Nat.le_refl (World.heap w2).size; have nX5X1 := X1.lt; have nX5XR := XR.lt; generalize hWn : w2.alloc _ = w3 at *; obtain ⟨X5, BW⟩ := Bo.nw hWn; clear hWn; replace X1 := X1.below BW; replace XR := XR.below BW; replace p1 := p1.below BW; replace HB := Lib.hid (bt HB.out BW); clear BW; clear lX5
  obtain rfl : s1 = sg0 := p1.2.trans HSG.out
  have p2 : Nm w3 A1 n1 c1 a := HA.out ▸ p1.1
  have hbl := p2.rd.blen_le
  have hn1 : n1 ≤ 100000 := by omega
  have hpos : 0 < n1 := p2.pos.2 (by omega)
  clear p1 HSG
  have e0 : ((n1 : Int) == 0) = false := by
    have : (n1 : Int) ≠ 0 := by omega
    simpa using this
  have hbg : n1 ≤ 1099511627776 := by omega
  have f1 : (s1 != s1) = false := by cases s1 <;> rfl
  have f2 : (!s1 != s1) = true := by cases s1 <;> rfl
  have f3 : (s1 == s1) = true := by cases s1 <;> rfl
  have f4 : ((!s1) == s1) = false := by cases s1 <;> rfl
  obtain ⟨xX50, xX51, xX52⟩ := X5.u3
  go_wp2_with fail
  refine (rLen p2.rd HL.out).mono ?_; rintro ee w4 ⟨rfl, B⟩; clear xX50 xX51 xX52; replace XR := XR.below B; replace X5 := X5.below B; replace p2 := p2.below B; replace HB := Lib.hid (bt HB.out B); clear B; obtain ⟨xX50, xX51, xX52⟩ := X5.u3; have hv := HV.out
  go_wp2_with fail
  refine (rShrP v p2.rd (by omega)).mono ?_; rintro ee w5 ⟨A3, n3, c3, rfl, p3, k3, B⟩; clear xX50 xX51 xX52; replace XR := XR.below B; replace X5 := X5.below B; replace p2 := p2.below B; replace HB := Lib.hid (bt HB.out B); clear B hv; rw [HSH.out] at p3; obtain ⟨xX50, xX51, xX52⟩ := X5.u3; have hx1 := HX1.out; have hx2 := HX2.out
  go_upto_region 15 with (fail)
  clear hx1 hx2; clear xX50 xX51 xX52; have p9 := p3; refine Jo.rj [0, 1, 2, 3, 4, 5, 6, 7] [some 71, some 72, some 73, some 74, some 75, some 76, some 77, some 78, none] [[], [0], [1], [], [3], [], [], [2, 4, 5, 6], []] 9 [(some 71, 0), (some 72, 1), (some 73, 2), (some 74, 3), (some 75, 4), (some 76, 5), (some 77, 6), (some 78, 7)] 1 [Jo.qp w2.heap.size 0, Jo.qp w2.heap.size 0, Jo.qb s1, Jo.Fact.eq (.slice A3 n3 c3), Jo.Fact.eq (.int .u64 T), Jo.qi x, Jo.qb false, Jo.Fact.num r, Jo.Fact.any] (by kernel_rfl) (by kernel_rfl) (by decide) rfl rfl ?_ ?_
  · refine Jo.jn 0 (some 71) [] _ rfl rfl rfl rfl ?_ ?_
    · rintro wj hJ K hK; simp only [Jo.z] at hK ⊢; go_simp; exact hK.out _ _ rfl (br _ _)
    refine Jo.jn 1 (some 72) [(some 71, 0)] _ rfl rfl rfl rfl ?_ ?_
    · rintro wj hJ _ rfl K hK; simp only [Jo.z] at hK ⊢; go_simp; exact hK.out _ _ rfl (br _ _)
    refine Jo.jn 2 (some 73) [(some 72, 1)] _ rfl rfl rfl rfl ?_ ?_
    · rintro wj hJ _ rfl K hK; simp only [Jo.z] at hK ⊢; have xX50 := (X5.below hJ).a 0 (.bool s1) rfl; go_simp; exact hK.out _ _ rfl (br _ _)
    refine Jo.jn 3 (some 74) [] _ rfl rfl rfl rfl ?_ ?_
    · rintro wj hJ K hK; simp only [Jo.z] at hK ⊢; go_simp; exact hK.out _ _ rfl (br _ _)
    refine Jo.jn 4 (some 75) [(some 74, 3)] _ rfl rfl rfl rfl ?_ ?_
    · rintro wj hJ _ rfl K hK; simp only [Jo.z] at hK ⊢; go_simp; refine (yWord (p9.below hJ) HG2.out HT.out).mono ?_; rintro ee wk ⟨rfl, B⟩; exact hK.out _ _ rfl B
    refine Jo.jn 5 (some 76) [] _ rfl rfl rfl rfl ?_ ?_
    · rintro wj hJ K hK; simp only [Jo.z] at hK ⊢; go_simp; exact hK.out _ _ rfl (br _ _)
    refine Jo.jn 6 (some 77) [] _ rfl rfl rfl rfl ?_ ?_
    · rintro wj hJ K hK; simp only [Jo.z] at hK ⊢; go_simp; exact hK.out _ _ rfl (br _ _)
    refine Jo.jn 7 (some 78) [(some 73, 2), (some 75, 4), (some 76, 5), (some 77, 6)] _ rfl rfl rfl rfl ?_ ?_
    · rintro wj hJ _ rfl _ rfl _ rfl _ rfl K hK; simp only [Jo.z] at hK ⊢; go_simp; refine (yFin hT1 hT2 HR.out).mono ?_; rintro ee wk ⟨K4, s4, M4, E4, rfl, q4, B⟩; exact hK.out _ _ ⟨K4, s4, M4, E4, rfl, q4⟩ B
    exact Jo.Steps.nil
  rintro w8 hJ _ _ _ _ _ rfl _ rfl _ rfl _ rfl _ rfl _ ⟨K4, s4, M4, E4, rfl, q4⟩ -; simp only [Jo.z]; replace XR := XR.below hJ; replace X5 := X5.below hJ; replace p9 := p9.below hJ; replace HB := Lib.hid (bt HB.out hJ); obtain ⟨xXR0, xXR1, xXR2, xXR3⟩ := XR.u4; have zXR0 := XR.frozen
  refine Jo.jnext (i := 8) (o := ⟨none, _, _, _, _, _⟩) (by kernel_rfl) rfl (fun K hK => ?_)
  go_simp; refine hK.out _ _ ?_; clear hK K xXR0 zXR0 xXR1 xXR2 xXR3; have SX := StN.mk4 XR (.int .i64 K4) (.bool s4) (.int .u64 M4) (.int .i64 E4); refine Jo.jdone (by kernel_rfl) ?_; go_wp2; exact bodyPost_ret (by simp [results, Tryz.results55, go_sem, SX.box.cell]) rfl ⟨_, _, _, _, rfl, q4, (SX.below HB.out (by omega))⟩
set_option maxHeartbeats 4000000 in
theorem yround_bd {w : World} {A : Option Addr} {n c a : Nat} {s sg0 : Bool} {z e N E L x r : Int} (h : Wr w s A n c z) (hn : n ≤ 100000) (hN : (mk z e).1 = N) (hE : (mk z e).2 = E) (ha : N.natAbs = a) (hs : decide (N < 0) = sg0) (h0 : a ≠ 0) (hL : ((blen a : Nat) : Int) = L) (hl : 64 < L) (hx : E + L - 64 = x) (hb : L ≤ 3200000) (hc : tp a + 1 < 2 ^ 64) (hr : fin sg0 ((tp a + 1 : Nat) : Int) x true = r) :
    Calls Tryz.prog 55 #[.agg #[.bool s, .slice A n c, .int .i64 e], .bool (!sg0)] w (PN w r) := by
  obtain ⟨b1, b2⟩ := mk_bd z e; rw [hE] at b1 b2; have HN := Lib.hid hN; have HE := Lib.hid hE; have HA := Lib.hid ha; have HSG := Lib.hid hs; have HL := Lib.hid hL
  have hl0 : blen a ≠ 0 := fun e => h0 (blen_eq_zero.1 e)
  have g1 := tp_ge h0; have g2 := tp_lt a
  have HX1 : Hid (IntKind.i64.wrap (E + L) = E + L) := Lib.hid (IntWalk.i64_in _ (by omega))
  have HX2 : Hid (IntKind.i64.wrap (E + L - 64) = x) := Lib.hid (by rw [hx]; exact IntWalk.i64_in _ (by omega))
  obtain ⟨v, hv⟩ : ∃ v, L - 64 = v := ⟨_, rfl⟩
  have HV : Hid (IntKind.i64.wrap (L - 64) = v) := Lib.hid (by rw [hv]; exact IntWalk.i64_in _ (by omega))
  have HSH : Hid (a / 2 ^ v.toNat = tp a) := Lib.hid (by rw [← hv, ← hL]; exact tp_one (by omega))
  obtain ⟨U, hU⟩ : ∃ U, tp a + 1 = U := ⟨_, rfl⟩; have HU := Lib.hid hU; rw [hU] at hr hc; obtain ⟨T, hT⟩ : ∃ T, ((U : Nat) : Int) = T := ⟨_, rfl⟩; rw [hT] at hr; have HT := Lib.hid hT; have HR := Lib.hid hr
  have hT1 : 9223372036854775808 ≤ T := by omega
  have hT2 : T < 18446744073709551616 := by omega
  have HG2 := Lib.hid hc; obtain ⟨ℓ, hℓ⟩ : ∃ ℓ, ((blen U : Nat) : Int) = ℓ := ⟨_, rfl⟩
  have hℓ2 : ℓ ≤ 64 := by
    have := blen_mono_le hc
    omega
  have HLU := Lib.hid hℓ; clear hN hE ha hs hL hx hr hT hv g1 g2 hl0 hc hU hℓ
  go_enter Tryz.func55, Tryz.ntmps55
  go_upto_region 1 with (fail)
  generalize hW1 : (w.alloc _).alloc _ = w1 at *; obtain ⟨X1, XR, HB⟩ := Bo.en2 hW1; replace h := h.below HB.out; clear hW1; obtain ⟨xX10, xX11, xX12⟩ := X1.u3
  go_wp2_with fail
  refine (q3Make h hn HN.out HE.out).mono ?_; rintro ee w2 ⟨s1, A1, n1, c1, rfl, p1, k1, B⟩; clear xX10 xX11 xX12; replace X1 := X1.below B; replace XR := XR.below B; replace h := h.below B; replace HB := Lib.hid (bt HB.out B); clear B
  go_upto_region 2 with (fail)
  have lX5 := Nat.le_refl (World.heap w2).size; have nX5X1 := X1.lt; have nX5XR := XR.lt; generalize hWn : w2.alloc _ = w3 at *; obtain ⟨X5, BW⟩ := Bo.nw hWn; clear hWn; replace X1 := X1.below BW; replace XR := XR.below BW; replace p1 := p1.below BW; replace HB := Lib.hid (bt HB.out BW); clear BW; clear lX5
  obtain rfl : s1 = sg0 := p1.2.trans HSG.out
  have p2 : Nm w3 A1 n1 c1 a := HA.out ▸ p1.1
  have hbl := p2.rd.blen_le
  have hn1 : n1 ≤ 100000 := by omega
  have hpos : 0 < n1 := p2.pos.2 (by omega)
  clear p1 HSG
  have e0 : ((n1 : Int) == 0) = false := by
    have : (n1 : Int) ≠ 0 := by omega
    simpa using this
  have hbg : n1 ≤ 1099511627776 := by omega
  have f1 : (s1 != s1) = false := by cases s1 <;> rfl
  have f2 : (!s1 != s1) = true := by cases s1 <;> rfl
  have f3 : (s1 == s1) = true := by cases s1 <;> rfl
  have f4 : ((!s1) == s1) = false := by cases s1 <;> rfl
  obtain ⟨xX50, xX51, xX52⟩ := X5.u3
  go_wp2_with fail
  refine (rLen p2.rd HL.out).mono ?_; rintro ee w4 ⟨rfl, B⟩; clear xX50 xX51 xX52; replace XR := XR.below B; replace X5 := X5.below B; replace p2 := p2.below B; replace HB := Lib.hid (bt HB.out B); clear B; obtain ⟨xX50, xX51, xX52⟩ := X5.u3; have hv := HV.out
  go_wp2_with fail
  refine (rShrP v p2.rd (by omega)).mono ?_; rintro ee w5 ⟨A3, n3, c3, rfl, p3, k3, B⟩; clear xX50 xX51 xX52; replace XR := XR.below B; replace X5 := X5.below B; replace p2 := p2.below B; replace HB := Lib.hid (bt HB.out B); clear B hv; rw [HSH.out] at p3; obtain ⟨xX50, xX51, xX52⟩ := X5.u3; have hx1 := HX1.out; have hx2 := HX2.out
  go_wp2_with fail
  clear hx1 hx2; refine (rAddE (p3.rd.below (bel1 _ _)) (one_rd _) (by omega) (by omega) HU.out).mono ?_; rintro ee w6 ⟨A4, n4, c4, rfl, p4, k4, B⟩; replace B := bt (bel1 _ _) B; clear xX50 xX51 xX52; replace XR := XR.below B; replace X5 := X5.below B; replace p3 := p3.below B; replace HB := Lib.hid (bt HB.out B); clear B
  have hn3 : n3 ≤ 100000 := by omega
  go_wp2_with fail
  refine (rLen p4.rd HLU.out).mono ?_; rintro ee w7 ⟨rfl, B⟩; replace XR := XR.below B; replace X5 := X5.below B; replace p4 := p4.below B; replace HB := Lib.hid (bt HB.out B); clear B
  go_upto_region 15 with (fail)
  have p9 := p4; refine Jo.rj [0, 1, 2, 3, 4, 5, 6, 7] [some 71, some 72, some 73, some 74, some 75, some 76, some 77, some 78, none] [[], [0], [1], [], [3], [], [], [2, 4, 5, 6], []] 9 [(some 71, 0), (some 72, 1), (some 73, 2), (some 74, 3), (some 75, 4), (some 76, 5), (some 77, 6), (some 78, 7)] 1 [Jo.qp w2.heap.size 0, Jo.qp w2.heap.size 0, Jo.qb s1, Jo.Fact.eq (.slice A4 n4 c4), Jo.Fact.eq (.int .u64 T), Jo.qi x, Jo.qb true, Jo.Fact.num r, Jo.Fact.any] (by kernel_rfl) (by kernel_rfl) (by decide) rfl rfl ?_ ?_
  · refine Jo.jn 0 (some 71) [] _ rfl rfl rfl rfl ?_ ?_
    · rintro wj hJ K hK; simp only [Jo.z] at hK ⊢; go_simp; exact hK.out _ _ rfl (br _ _)
    refine Jo.jn 1 (some 72) [(some 71, 0)] _ rfl rfl rfl rfl ?_ ?_
    · rintro wj hJ _ rfl K hK; simp only [Jo.z] at hK ⊢; go_simp; exact hK.out _ _ rfl (br _ _)
    refine Jo.jn 2 (some 73) [(some 72, 1)] _ rfl rfl rfl rfl ?_ ?_
    · rintro wj hJ _ rfl K hK; simp only [Jo.z] at hK ⊢; have xX50 := (X5.below hJ).a 0 (.bool s1) rfl; go_simp; exact hK.out _ _ rfl (br _ _)
    refine Jo.jn 3 (some 74) [] _ rfl rfl rfl rfl ?_ ?_
    · rintro wj hJ K hK; simp only [Jo.z] at hK ⊢; go_simp; exact hK.out _ _ rfl (br _ _)
    refine Jo.jn 4 (some 75) [(some 74, 3)] _ rfl rfl rfl rfl ?_ ?_
    · rintro wj hJ _ rfl K hK; simp only [Jo.z] at hK ⊢; go_simp; refine (yWord (p9.below hJ) HG2.out HT.out).mono ?_; rintro ee wk ⟨rfl, B⟩; exact hK.out _ _ rfl B
    refine Jo.jn 5 (some 76) [] _ rfl rfl rfl rfl ?_ ?_
    · rintro wj hJ K hK; simp only [Jo.z] at hK ⊢; go_simp; exact hK.out _ _ rfl (br _ _)
    refine Jo.jn 6 (some 77) [] _ rfl rfl rfl rfl ?_ ?_
    · rintro wj hJ K hK; simp only [Jo.z] at hK ⊢; go_simp; exact hK.out _ _ rfl (br _ _)
    refine Jo.jn 7 (some 78) [(some 73, 2), (some 75, 4), (some 76, 5), (some 77, 6)] _ rfl rfl rfl rfl ?_ ?_
    · rintro wj hJ _ rfl _ rfl _ rfl _ rfl K hK; simp only [Jo.z] at hK ⊢; go_simp; refine (yFin hT1 hT2 HR.out).mono ?_; rintro ee wk ⟨K4, s4, M4, E4, rfl, q4, B⟩; exact hK.out _ _ ⟨K4, s4, M4, E4, rfl, q4⟩ B
    exact Jo.Steps.nil
  rintro w8 hJ _ _ _ _ _ rfl _ rfl _ rfl _ rfl _ rfl _ ⟨K4, s4, M4, E4, rfl, q4⟩ -; simp only [Jo.z]; replace XR := XR.below hJ; replace X5 := X5.below hJ; replace p9 := p9.below hJ; replace HB := Lib.hid (bt HB.out hJ); obtain ⟨xXR0, xXR1, xXR2, xXR3⟩ := XR.u4; have zXR0 := XR.frozen
  refine Jo.jnext (i := 8) (o := ⟨none, _, _, _, _, _⟩) (by kernel_rfl) rfl (fun K hK => ?_)
  go_simp; refine hK.out _ _ ?_; clear hK K xXR0 zXR0 xXR1 xXR2 xXR3; have SX := StN.mk4 XR (.int .i64 K4) (.bool s4) (.int .u64 M4) (.int .i64 E4); refine Jo.jdone (by kernel_rfl) ?_; go_wp2; exact bodyPost_ret (by simp [results, Tryz.results55, go_sem, SX.box.cell]) rfl ⟨_, _, _, _, rfl, q4, (SX.below HB.out (by omega))⟩
set_option maxHeartbeats 4000000 in
theorem yround_bc {w : World} {A : Option Addr} {n c a : Nat} {s sg0 : Bool} {z e N E L x r : Int} (h : Wr w s A n c z) (hn : n ≤ 100000) (hN : (mk z e).1 = N) (hE : (mk z e).2 = E) (ha : N.natAbs = a) (hs : decide (N < 0) = sg0) (h0 : a ≠ 0) (hL : ((blen a : Nat) : Int) = L) (hl : 64 < L) (hx : E + L - 64 = x) (hb : L ≤ 3200000) (hc : tp a + 1 = 2 ^ 64) (hr : fin sg0 9223372036854775808 (x + 1) true = r) :
    Calls Tryz.prog 55 #[.agg #[.bool s, .slice A n c, .int .i64 e], .bool (!sg0)] w (PN w r) := by
  obtain ⟨b1, b2⟩ := mk_bd z e; rw [hE] at b1 b2; have HN := Lib.hid hN; have HE := Lib.hid hE; have HA := Lib.hid ha; have HSG := Lib.hid hs; have HL := Lib.hid hL
  have hl0 : blen a ≠ 0 := fun e => h0 (blen_eq_zero.1 e)
  have g1 := tp_ge h0; have g2 := tp_lt a
  have HX1 : Hid (IntKind.i64.wrap (E + L) = E + L) := Lib.hid (IntWalk.i64_in _ (by omega))
  have HX2 : Hid (IntKind.i64.wrap (E + L - 64) = x) := Lib.hid (by rw [hx]; exact IntWalk.i64_in _ (by omega))
  obtain ⟨v, hv⟩ : ∃ v, L - 64 = v := ⟨_, rfl⟩
  have HV : Hid (IntKind.i64.wrap (L - 64) = v) := Lib.hid (by rw [hv]; exact IntWalk.i64_in _ (by omega))
  have HSH : Hid (a / 2 ^ v.toNat = tp a) := Lib.hid (by rw [← hv, ← hL]; exact tp_one (by omega))
  obtain ⟨U, hU⟩ : ∃ U, tp a + 1 = U := ⟨_, rfl⟩; have HU := Lib.hid hU; rw [hU] at hc; have HR := Lib.hid hr
  have hT1 : (9223372036854775808 : Int) ≤ 9223372036854775808 := by decide
  have hT2 : (9223372036854775808 : Int) < 18446744073709551616 := by decide
  have hc2 : U = 18446744073709551616 := hc
  have HG2 : Hid (9223372036854775808 < 18446744073709551616) := Lib.hid (by decide)
  have HW3 : Hid (IntKind.i64.wrap (x + 1) = x + 1) := Lib.hid (IntWalk.i64_in _ (by omega))
  have HLU : Hid (((blen U : Nat) : Int) = 65) := Lib.hid (by rw [hc, blen_pow]; rfl)
  have HDV : Hid (U / 2 ^ (1 : Int).toNat = 9223372036854775808) := Lib.hid (by rw [hc2]; decide)
  clear hN hE ha hs hL hx hr hv g1 g2 hl0 hc hU hc2
  go_enter Tryz.func55, Tryz.ntmps55
  go_upto_region 1 with (fail)
  generalize hW1 : (w.alloc _).alloc _ = w1 at *; obtain ⟨X1, XR, HB⟩ := Bo.en2 hW1; replace h := h.below HB.out; clear hW1; obtain ⟨xX10, xX11, xX12⟩ := X1.u3
  go_wp2_with fail
  refine (q3Make h hn HN.out HE.out).mono ?_; rintro ee w2 ⟨s1, A1, n1, c1, rfl, p1, k1, B⟩; clear xX10 xX11 xX12; replace X1 := X1.below B; replace XR := XR.below B; replace h := h.below B; replace HB := Lib.hid (bt HB.out B); clear B
  go_upto_region 2 with (fail)
  have lX5 := Nat.le_refl (World.heap w2).size; have nX5X1 := X1.lt; have nX5XR := XR.lt; generalize hWn : w2.alloc _ = w3 at *; obtain ⟨X5, BW⟩ := Bo.nw hWn; clear hWn; replace X1 := X1.below BW; replace XR := XR.below BW; replace p1 := p1.below BW; replace HB := Lib.hid (bt HB.out BW); clear BW; clear lX5
  obtain rfl : s1 = sg0 := p1.2.trans HSG.out
  have p2 : Nm w3 A1 n1 c1 a := HA.out ▸ p1.1
  have hbl := p2.rd.blen_le
  have hn1 : n1 ≤ 100000 := by omega
  have hpos : 0 < n1 := p2.pos.2 (by omega)
  clear p1 HSG
  have e0 : ((n1 : Int) == 0) = false := by
    have : (n1 : Int) ≠ 0 := by omega
    simpa using this
  have hbg : n1 ≤ 1099511627776 := by omega
  have f1 : (s1 != s1) = false := by cases s1 <;> rfl
  have f2 : (!s1 != s1) = true := by cases s1 <;> rfl
  have f3 : (s1 == s1) = true := by cases s1 <;> rfl
  have f4 : ((!s1) == s1) = false := by cases s1 <;> rfl
  obtain ⟨xX50, xX51, xX52⟩ := X5.u3
  go_wp2_with fail
  refine (rLen p2.rd HL.out).mono ?_; rintro ee w4 ⟨rfl, B⟩; clear xX50 xX51 xX52; replace XR := XR.below B; replace X5 := X5.below B; replace p2 := p2.below B; replace HB := Lib.hid (bt HB.out B); clear B; obtain ⟨xX50, xX51, xX52⟩ := X5.u3; have hv := HV.out
  go_wp2_with fail
  refine (rShrP v p2.rd (by omega)).mono ?_; rintro ee w5 ⟨A3, n3, c3, rfl, p3, k3, B⟩; clear xX50 xX51 xX52; replace XR := XR.below B; replace X5 := X5.below B; replace p2 := p2.below B; replace HB := Lib.hid (bt HB.out B); clear B hv; rw [HSH.out] at p3; obtain ⟨xX50, xX51, xX52⟩ := X5.u3; have hx1 := HX1.out; have hx2 := HX2.out
  go_wp2_with fail
  clear hx1 hx2; refine (rAddE (p3.rd.below (bel1 _ _)) (one_rd _) (by omega) (by omega) HU.out).mono ?_; rintro ee w6 ⟨A4, n4, c4, rfl, p4, k4, B⟩; replace B := bt (bel1 _ _) B; clear xX50 xX51 xX52; replace XR := XR.below B; replace X5 := X5.below B; replace p3 := p3.below B; replace HB := Lib.hid (bt HB.out B); clear B
  have hn3 : n3 ≤ 100000 := by omega
  go_wp2_with fail
  refine (rLen p4.rd HLU.out).mono ?_; rintro ee w7 ⟨rfl, B⟩; replace XR := XR.below B; replace X5 := X5.below B; replace p4 := p4.below B; replace HB := Lib.hid (bt HB.out B); clear B
  go_wp2_with fail
  refine (rShrP 1 p4.rd (by omega)).mono ?_; rintro ee w71 ⟨A5, n5, c5, rfl, p5, k5, B⟩; replace XR := XR.below B; replace X5 := X5.below B; replace p4 := p4.below B; replace HB := Lib.hid (bt HB.out B); clear B; rw [HDV.out] at p5; have hw3 := HW3.out
  go_upto_region 15 with (fail)
  clear hw3; have p9 := p5; refine Jo.rj [0, 1, 2, 3, 4, 5, 6, 7] [some 71, some 72, some 73, some 74, some 75, some 76, some 77, some 78, none] [[], [0], [1], [], [3], [], [], [2, 4, 5, 6], []] 9 [(some 71, 0), (some 72, 1), (some 73, 2), (some 74, 3), (some 75, 4), (some 76, 5), (some 77, 6), (some 78, 7)] 1 [Jo.qp w2.heap.size 0, Jo.qp w2.heap.size 0, Jo.qb s1, Jo.Fact.eq (.slice A5 n5 c5), Jo.Fact.eq (.int .u64 9223372036854775808), Jo.Fact.eq (.int .i64 (x + 1)), Jo.qb true, Jo.Fact.num r, Jo.Fact.any] (by kernel_rfl) (by kernel_rfl) (by decide) rfl rfl ?_ ?_
  · refine Jo.jn 0 (some 71) [] _ rfl rfl rfl rfl ?_ ?_
    · rintro wj hJ K hK; simp only [Jo.z] at hK ⊢; go_simp; exact hK.out _ _ rfl (br _ _)
    refine Jo.jn 1 (some 72) [(some 71, 0)] _ rfl rfl rfl rfl ?_ ?_
    · rintro wj hJ _ rfl K hK; simp only [Jo.z] at hK ⊢; go_simp; exact hK.out _ _ rfl (br _ _)
    refine Jo.jn 2 (some 73) [(some 72, 1)] _ rfl rfl rfl rfl ?_ ?_
    · rintro wj hJ _ rfl K hK; simp only [Jo.z] at hK ⊢; have xX50 := (X5.below hJ).a 0 (.bool s1) rfl; go_simp; exact hK.out _ _ rfl (br _ _)
    refine Jo.jn 3 (some 74) [] _ rfl rfl rfl rfl ?_ ?_
    · rintro wj hJ K hK; simp only [Jo.z] at hK ⊢; go_simp; exact hK.out _ _ rfl (br _ _)
    refine Jo.jn 4 (some 75) [(some 74, 3)] _ rfl rfl rfl rfl ?_ ?_
    · rintro wj hJ _ rfl K hK; simp only [Jo.z] at hK ⊢; go_simp; refine (yWord (p9.below hJ) HG2.out rfl).mono ?_; rintro ee wk ⟨rfl, B⟩; exact hK.out _ _ rfl B
    refine Jo.jn 5 (some 76) [] _ rfl rfl rfl rfl ?_ ?_
    · rintro wj hJ K hK; simp only [Jo.z] at hK ⊢; go_simp; exact hK.out _ _ rfl (br _ _)
    refine Jo.jn 6 (some 77) [] _ rfl rfl rfl rfl ?_ ?_
    · rintro wj hJ K hK; simp only [Jo.z] at hK ⊢; go_simp; exact hK.out _ _ rfl (br _ _)
    refine Jo.jn 7 (some 78) [(some 73, 2), (some 75, 4), (some 76, 5), (some 77, 6)] _ rfl rfl rfl rfl ?_ ?_
    · rintro wj hJ _ rfl _ rfl _ rfl _ rfl K hK; simp only [Jo.z] at hK ⊢; go_simp; refine (yFin hT1 hT2 HR.out).mono ?_; rintro ee wk ⟨K4, s4, M4, E4, rfl, q4, B⟩; exact hK.out _ _ ⟨K4, s4, M4, E4, rfl, q4⟩ B
    exact Jo.Steps.nil
  rintro w8 hJ _ _ _ _ _ rfl _ rfl _ rfl _ rfl _ rfl _ ⟨K4, s4, M4, E4, rfl, q4⟩ -; simp only [Jo.z]; replace XR := XR.below hJ; replace X5 := X5.below hJ; replace p9 := p9.below hJ; replace HB := Lib.hid (bt HB.out hJ); obtain ⟨xXR0, xXR1, xXR2, xXR3⟩ := XR.u4; have zXR0 := XR.frozen
  refine Jo.jnext (i := 8) (o := ⟨none, _, _, _, _, _⟩) (by kernel_rfl) rfl (fun K hK => ?_)
  go_simp; refine hK.out _ _ ?_; clear hK K xXR0 zXR0 xXR1 xXR2 xXR3; have SX := StN.mk4 XR (.int .i64 K4) (.bool s4) (.int .u64 M4) (.int .i64 E4); refine Jo.jdone (by kernel_rfl) ?_; go_wp2; exact bodyPost_ret (by simp [results, Tryz.results55, go_sem, SX.box.cell]) rfl ⟨_, _, _, _, rfl, q4, (SX.below HB.out (by omega))⟩
theorem yRound {w : World} {A : Option Addr} {n c : Nat} {s up : Bool} {z e N E r : Int} (h : Wr w s A n c z) (hn : n ≤ 100000) (hN : (mk z e).1 = N) (hE : (mk z e).2 = E) (hr : rnd up N E = r) :
    Calls Tryz.prog 55 #[.agg #[.bool s, .slice A n c, .int .i64 e], .bool up] w (PN w r) := by
  obtain ⟨σ, hσ⟩ : ∃ σ, decide (N < 0) = σ := ⟨_, rfl⟩
  have hbl : blen N.natAbs ≤ 3200000 := by
    have hb := h.rd.blen_le
    have : blen N.natAbs ≤ blen z.natAbs := by
      rcases mk_cases z e with h0 | ⟨h0, h1, h2, h3, h4, h5, h6⟩
      · rw [h0] at hN; rw [← hN]; exact Nat.zero_le _
      · rw [hN] at h6 h4; rw [h6, natAbs_mul_pow, blen_mul (by omega)]
        omega
    omega
  by_cases h0 : N.natAbs = 0
  · have hN0 : N = 0 := by omega
    have : r = 0 := by
      rw [← hr, hN0, rnd_ext rfl]
      rfl
    rw [this]; exact yround_zero h hn hN hE rfl hσ h0
  · by_cases hs : σ = up
    · subst hs; rw [rnd_same hσ.symm rfl, ← fin_nc σ h0] at hr
      by_cases hl : blen N.natAbs ≤ 64
      · exact yround_ss h hn hN hE rfl hσ h0 rfl (by omega) rfl (by omega) hr
      · exact yround_bs h hn hN hE rfl hσ h0 rfl (by omega) rfl (by omega) hr
    · obtain rfl : (!σ) = up := by cases σ <;> cases up <;> first | rfl | exact absurd rfl hs
      rw [rnd_diff hσ.symm] at hr
      by_cases hl : blen N.natAbs ≤ 64
      · rw [← fin_small σ h0 hl] at hr; exact yround_sd h hn hN hE rfl hσ h0 rfl (by omega) rfl (by omega) hr
      · have g := tp_lt N.natAbs
        by_cases hc : tp N.natAbs + 1 < 2 ^ 64
        · rw [← fin_up σ (by omega) hc] at hr; exact yround_bd h hn hN hE rfl hσ h0 rfl (by omega) rfl (by omega) hc hr
        · rw [← fin_carry σ (by omega) (by omega)] at hr; exact yround_bc h hn hN hE rfl hσ h0 rfl (by omega) rfl (by omega) (by omega) hr
end Go.Proofs.YthhlccdmflgbbaaGreatDoor

/-
  What pelorusref03.Two does: the sum of two.
-/
namespace Go.Proofs.YthhlccdmflgbbaaGreatDoor
open Go.RowKit
set_option linter.unusedVariables false
set_option maxRecDepth 100000

set_option maxHeartbeats 4000000 in
theorem q3two_l {w : World} {A B : Option Addr} {n c m d : Nat} {s t : Bool} {z e y f N1 E1 N2 E2 : Int} (h : Wr w s A n c z) (k : Wr w t B m d y) (hn : n ≤ 20000) (hm : m ≤ 20000)
    (HN1 : Hid ((mk z e).1 = N1)) (HE1 : Hid ((mk z e).2 = E1)) (HN2 : Hid ((mk y f).1 = N2)) (HE2 : Hid ((mk y f).2 = E2)) (h1 : N1 = 0) :
    Calls Tryz.prog 56 #[.agg #[.bool s, .slice A n c, .int .i64 e], .agg #[.bool t, .slice B m d, .int .i64 f]] w (D1 w m N2 E2) := by
  go_enter Tryz.func56, Tryz.ntmps56
  go_upto_region 1 with (fail)
  generalize hW1 : ((w.alloc _).alloc _).alloc _ = w1 at *; obtain ⟨X1, X2, XR, HB⟩ := Bo.en3 hW1; replace h := h.below HB.out; replace k := k.below HB.out; clear hW1; obtain ⟨xX10, xX11, xX12⟩ := X1.u3
  go_wp2_with fail
  refine (q3Make h (by omega) HN1.out HE1.out).mono ?_; rintro ee w2 ⟨s1, A1, n1, c1, rfl, p1, k1, B⟩; clear xX10 xX11 xX12; replace X1 := X1.below B; replace X2 := X2.below B; replace XR := XR.below B; replace h := h.below B; replace k := k.below B; replace HB := Lib.hid (bt HB.out B); clear B; obtain ⟨xX20, xX21, xX22⟩ := X2.u3
  go_upto_region 2 with (fail)
  clear xX20 xX21 xX22; have lX5 := Nat.le_refl (World.heap w2).size; have nX5X2 := X2.lt; have nX5XR := XR.lt; generalize hWn : w2.alloc _ = w3 at *; obtain ⟨X5, BW⟩ := Bo.nw hWn; clear hWn; replace X2 := X2.below BW; replace XR := XR.below BW; replace k := k.below BW; replace p1 := p1.below BW; replace HB := Lib.hid (bt HB.out BW); clear BW; obtain ⟨xX20, xX21, xX22⟩ := X2.u3
  go_wp2_with fail
  refine (q3Make k (by omega) HN2.out HE2.out).mono ?_; rintro ee w4 ⟨s2, A2, n2, c2, rfl, p2, k2, B⟩; clear xX20 xX21 xX22; replace X2 := X2.below B; replace XR := XR.below B; replace X5 := X5.below B; replace k := k.below B; replace p1 := p1.below B; replace HB := Lib.hid (bt HB.out B); clear B
  go_upto_region 3 with (fail)
  have lX6 := Nat.le_refl (World.heap w4).size; have nX6XR := XR.lt; have nX6X5 := X5.lt; generalize hWn : w4.alloc _ = w5 at *; obtain ⟨X6, BW⟩ := Bo.nw hWn; clear hWn; replace XR := XR.below BW; replace X5 := X5.below BW; replace p1 := p1.below BW; replace p2 := p2.below BW; replace HB := Lib.hid (bt HB.out BW); clear BW; clear lX6
  have hz : n1 = 0 := by have := p1.1.pos; omega
  subst hz; obtain ⟨xX50, xX51, xX52⟩ := X5.u3; obtain ⟨xX60, xX61, xX62⟩ := X6.u3; obtain ⟨xXR0, xXR1, xXR2⟩ := XR.u3; have zXR0 := XR.frozen; go_wp2; clear xX50 xX51 xX52 xX60 xX61 xX62 xXR0 zXR0 xXR1 xXR2; have SX := StN.mk3 XR (.bool s2) (.slice A2 n2 c2) (.int .i64 E2); replace p2 := p2.stn SX (by simp [no32]); exact bodyPost_ret (v := .agg #[.bool s2, .slice A2 n2 c2, .int .i64 E2]) (by simp [results, Tryz.results56, go_sem, SX.box.cell]) rfl ⟨s2, _, _, _, rfl, p2, k2, (SX.below HB.out (by omega))⟩

set_option maxHeartbeats 4000000 in
theorem q3two_r {w : World} {A B : Option Addr} {n c m d : Nat} {s t : Bool} {z e y f N1 E1 N2 E2 : Int} (h : Wr w s A n c z) (k : Wr w t B m d y) (hn : n ≤ 20000) (hm : m ≤ 20000)
    (HN1 : Hid ((mk z e).1 = N1)) (HE1 : Hid ((mk z e).2 = E1)) (HN2 : Hid ((mk y f).1 = N2)) (HE2 : Hid ((mk y f).2 = E2)) (h1 : N1 ≠ 0) (h2 : N2 = 0) :
    Calls Tryz.prog 56 #[.agg #[.bool s, .slice A n c, .int .i64 e], .agg #[.bool t, .slice B m d, .int .i64 f]] w (D1 w n N1 E1) := by
  go_enter Tryz.func56, Tryz.ntmps56
  go_upto_region 1 with (fail)
  generalize hW1 : ((w.alloc _).alloc _).alloc _ = w1 at *; obtain ⟨X1, X2, XR, HB⟩ := Bo.en3 hW1; replace h := h.below HB.out; replace k := k.below HB.out; clear hW1; obtain ⟨xX10, xX11, xX12⟩ := X1.u3
  go_wp2_with fail
  refine (q3Make h (by omega) HN1.out HE1.out).mono ?_; rintro ee w2 ⟨s1, A1, n1, c1, rfl, p1, k1, B⟩; clear xX10 xX11 xX12; replace X1 := X1.below B; replace X2 := X2.below B; replace XR := XR.below B; replace h := h.below B; replace k := k.below B; replace HB := Lib.hid (bt HB.out B); clear B; obtain ⟨xX20, xX21, xX22⟩ := X2.u3
  go_upto_region 2 with (fail)
  clear xX20 xX21 xX22; have lX5 := Nat.le_refl (World.heap w2).size; have nX5X2 := X2.lt; have nX5XR := XR.lt; generalize hWn : w2.alloc _ = w3 at *; obtain ⟨X5, BW⟩ := Bo.nw hWn; clear hWn; replace X2 := X2.below BW; replace XR := XR.below BW; replace k := k.below BW; replace p1 := p1.below BW; replace HB := Lib.hid (bt HB.out BW); clear BW; obtain ⟨xX20, xX21, xX22⟩ := X2.u3
  go_wp2_with fail
  refine (q3Make k (by omega) HN2.out HE2.out).mono ?_; rintro ee w4 ⟨s2, A2, n2, c2, rfl, p2, k2, B⟩; clear xX20 xX21 xX22; replace X2 := X2.below B; replace XR := XR.below B; replace X5 := X5.below B; replace k := k.below B; replace p1 := p1.below B; replace HB := Lib.hid (bt HB.out B); clear B
  go_upto_region 3 with (fail)
  have lX6 := Nat.le_refl (World.heap w4).size; have nX6XR := XR.lt; have nX6X5 := X5.lt; generalize hWn : w4.alloc _ = w5 at *; obtain ⟨X6, BW⟩ := Bo.nw hWn; clear hWn; replace XR := XR.below BW; replace X5 := X5.below BW; replace p1 := p1.below BW; replace p2 := p2.below BW; replace HB := Lib.hid (bt HB.out BW); clear BW; clear lX6
  have hpa : 0 < n1 := by have := p1.1.pos; omega
  have qa : ((n1 : Int) == 0) = false := by have : (n1 : Int) ≠ 0 := by omega
                                            simpa using this
  have la := p1.1.rd.big
  have hz : n2 = 0 := by have := p2.1.pos; omega
  subst hz; obtain ⟨xX50, xX51, xX52⟩ := X5.u3; obtain ⟨xX60, xX61, xX62⟩ := X6.u3; obtain ⟨xXR0, xXR1, xXR2⟩ := XR.u3; have zXR0 := XR.frozen; go_wp2; clear xX50 xX51 xX52 xX60 xX61 xX62 xXR0 zXR0 xXR1 xXR2; have SX := StN.mk3 XR (.bool s1) (.slice A1 n1 c1) (.int .i64 E1); replace p1 := p1.stn SX (by simp [no32]); exact bodyPost_ret (v := .agg #[.bool s1, .slice A1 n1 c1, .int .i64 E1]) (by simp [results, Tryz.results56, go_sem, SX.box.cell]) rfl ⟨s1, _, _, _, rfl, p1, k1, (SX.below HB.out (by omega))⟩

set_option maxHeartbeats 8000000 in
theorem q3sum_up {w : World} {A B : Option Addr} {n c m d : Nat} {s t : Bool} {z e y f N1 E1 N2 E2 N E : Int} (h : Wr w s A n c z) (k : Wr w t B m d y) (hn : n ≤ 20000) (hm : m ≤ 20000)
    (HN1 : Hid ((mk z e).1 = N1)) (HE1 : Hid ((mk z e).2 = E1)) (HN2 : Hid ((mk y f).1 = N2)) (HE2 : Hid ((mk y f).2 = E2)) (h1 : N1 ≠ 0) (h2 : N2 ≠ 0) (hle : E1 ≤ E2) (hfar : E2 - E1 ≤ 640000) (b1 : -4194304 ≤ E1) (b2 : E2 ≤ 4194304)
    (HN : Hid ((mk (N1 + N2 * ((2 ^ (E2 - E1).toNat : Nat) : Int)) E1).1 = N)) (HE : Hid ((mk (N1 + N2 * ((2 ^ (E2 - E1).toNat : Nat) : Int)) E1).2 = E)) :
    Calls Tryz.prog 56 #[.agg #[.bool s, .slice A n c, .int .i64 e], .agg #[.bool t, .slice B m d, .int .i64 f]] w (D1 w (n + m + 20010) N E) := by
  obtain ⟨δ, hδ⟩ : ∃ x, E2 - E1 = x := ⟨_, rfl⟩
  have HW : Hid (IntKind.i64.wrap (E2 - E1) = δ) := Lib.hid (by rw [hδ]; exact IntWalk.i64_in _ (by omega))
  have hd0 : 0 ≤ δ := by omega
  rw [hδ] at hfar HN HE
  have tle : decide (E2 < E1) = false := by simp; omega
  clear hδ
  go_enter Tryz.func56, Tryz.ntmps56
  go_upto_region 1 with (fail)
  generalize hW1 : ((w.alloc _).alloc _).alloc _ = w1 at *; obtain ⟨X1, X2, XR, HB⟩ := Bo.en3 hW1; replace h := h.below HB.out; replace k := k.below HB.out; clear hW1; obtain ⟨xX10, xX11, xX12⟩ := X1.u3
  go_wp2_with fail
  refine (q3Make h (by omega) HN1.out HE1.out).mono ?_; rintro ee w2 ⟨s1, A1, n1, c1, rfl, p1, k1, B⟩; clear xX10 xX11 xX12; replace X1 := X1.below B; replace X2 := X2.below B; replace XR := XR.below B; replace h := h.below B; replace k := k.below B; replace HB := Lib.hid (bt HB.out B); clear B; obtain ⟨xX20, xX21, xX22⟩ := X2.u3
  go_upto_region 2 with (fail)
  clear xX20 xX21 xX22; have lX5 := Nat.le_refl (World.heap w2).size; have nX5X2 := X2.lt; have nX5XR := XR.lt; generalize hWn : w2.alloc _ = w3 at *; obtain ⟨X5, BW⟩ := Bo.nw hWn; clear hWn; replace X2 := X2.below BW; replace XR := XR.below BW; replace k := k.below BW; replace p1 := p1.below BW; replace HB := Lib.hid (bt HB.out BW); clear BW; obtain ⟨xX20, xX21, xX22⟩ := X2.u3
  go_wp2_with fail
  refine (q3Make k (by omega) HN2.out HE2.out).mono ?_; rintro ee w4 ⟨s2, A2, n2, c2, rfl, p2, k2, B⟩; clear xX20 xX21 xX22; replace X2 := X2.below B; replace XR := XR.below B; replace X5 := X5.below B; replace k := k.below B; replace p1 := p1.below B; replace HB := Lib.hid (bt HB.out B); clear B
  go_upto_region 3 with (fail)
  have lX6 := Nat.le_refl (World.heap w4).size; have nX6XR := XR.lt; have nX6X5 := X5.lt; generalize hWn : w4.alloc _ = w5 at *; obtain ⟨X6, BW⟩ := Bo.nw hWn; clear hWn; replace XR := XR.below BW; replace X5 := X5.below BW; replace p1 := p1.below BW; replace p2 := p2.below BW; replace HB := Lib.hid (bt HB.out BW); clear BW; clear lX6
  have hpa : 0 < n1 := by have := p1.1.pos; omega
  have qa : ((n1 : Int) == 0) = false := by have : (n1 : Int) ≠ 0 := by omega
                                            simpa using this
  have la := p1.1.rd.big
  have hpb : 0 < n2 := by have := p2.1.pos; omega
  have qb : ((n2 : Int) == 0) = false := by have : (n2 : Int) ≠ 0 := by omega
                                            simpa using this
  have lb := p2.1.rd.big; clear h1 h2; obtain ⟨xX50, xX51, xX52⟩ := X5.u3; obtain ⟨xX60, xX61, xX62⟩ := X6.u3
  go_upto_region 11 with (fail)
  clear xX50 xX51 xX52 xX60 xX61 xX62; have HC := Lib.hid (sg_scale s2 N2 (2 ^ δ.toNat) p2.wr.eq); have lt5 := X5.lt; have lt6 := X6.lt; have ltR := XR.lt
  refine Jo.region_joint (T := [0, 1, 2, 3, 4, 5, 6, 7, 8, 9, 10, 11, 12, 13]) (ds := [some 39, some 40, some 41, some 42, some 43, some 44, some 45, some 46, some 47, some 48, some 49, some 50, some 51, some 8, none]) (ls := [[], [0], [1], [], [3], [4], [], [6], [], [8], [7, 9], [5, 10], [2, 11], [], []]) (k := 15) (L := [(some 39, 0), (some 40, 1), (some 41, 2), (some 42, 3), (some 43, 4), (some 44, 5), (some 45, 6), (some 46, 7), (some 47, 8), (some 48, 9), (some 49, 10), (some 50, 11), (some 51, 12), (some 8, 13)]) (fuel := 1) (J := fun wj => Below (World.heap w5).size w5 wj)
    (F := [Jo.qp w4.heap.size 0, Jo.qp w4.heap.size 0, Jo.qb s2, Jo.qp w4.heap.size 0, Jo.qp w4.heap.size 1, Jo.Fact.eq (.slice A2 n2 c2), Jo.qp w4.heap.size 2, Jo.qi E2, Jo.qp w2.heap.size 2, Jo.qi E1, Jo.qi δ, Jo.Fact.nm (N2.natAbs * 2 ^ δ.toNat) (n2 + δ.toNat / 32 + 1), Jo.Fact.wn (N2 * ((2 ^ δ.toNat : Nat) : Int)) (n2 + δ.toNat / 32 + 1), Jo.Fact.bo w5.heap.size #[.bool false, .slice none 0 0] 58, Jo.Fact.any])
    (by kernel_rfl) (by kernel_rfl) (by decide) rfl rfl (fun _ _ h b => bt h b) ((br _ _).drew) ?_ (fun vs w9 hJ hd => ?_)
  · refine Jo.jn 0 (some 39) [] _ rfl rfl rfl rfl ?_ ?_
    · rintro wj hJ K hK; simp only [Jo.z] at hK ⊢; go_simp; exact hK.out _ _ rfl (br _ _)
    refine Jo.jn 1 (some 40) [(some 39, 0)] _ rfl rfl rfl rfl ?_ ?_
    · rintro wj hJ _ rfl K hK; simp only [Jo.z] at hK ⊢; go_simp; exact hK.out _ _ rfl (br _ _)
    refine Jo.jn 2 (some 41) [(some 40, 1)] _ rfl rfl rfl rfl ?_ ?_
    · rintro wj hJ _ rfl K hK; simp only [Jo.z] at hK ⊢; have xX60 := (X6.below hJ).a 0 (.bool s2) rfl; go_simp; exact hK.out _ _ rfl (br _ _)
    refine Jo.jn 3 (some 42) [] _ rfl rfl rfl rfl ?_ ?_
    · rintro wj hJ K hK; simp only [Jo.z] at hK ⊢; go_simp; exact hK.out _ _ rfl (br _ _)
    refine Jo.jn 4 (some 43) [(some 42, 3)] _ rfl rfl rfl rfl ?_ ?_
    · rintro wj hJ _ rfl K hK; simp only [Jo.z] at hK ⊢; go_simp; exact hK.out _ _ rfl (br _ _)
    refine Jo.jn 5 (some 44) [(some 43, 4)] _ rfl rfl rfl rfl ?_ ?_
    · rintro wj hJ _ rfl K hK; simp only [Jo.z] at hK ⊢; have xX61 := (X6.below hJ).a 1 (.slice A2 n2 c2) rfl; go_simp; exact hK.out _ _ rfl (br _ _)
    refine Jo.jn 6 (some 45) [] _ rfl rfl rfl rfl ?_ ?_
    · rintro wj hJ K hK; simp only [Jo.z] at hK ⊢; go_simp; exact hK.out _ _ rfl (br _ _)
    refine Jo.jn 7 (some 46) [(some 45, 6)] _ rfl rfl rfl rfl ?_ ?_
    · rintro wj hJ _ rfl K hK; simp only [Jo.z] at hK ⊢; have xX62 := (X6.below hJ).a 2 (.int .i64 E2) rfl; go_simp; exact hK.out _ _ rfl (br _ _)
    refine Jo.jn 8 (some 47) [] _ rfl rfl rfl rfl ?_ ?_
    · rintro wj hJ K hK; simp only [Jo.z] at hK ⊢; go_simp; exact hK.out _ _ rfl (br _ _)
    refine Jo.jn 9 (some 48) [(some 47, 8)] _ rfl rfl rfl rfl ?_ ?_
    · rintro wj hJ _ rfl K hK; simp only [Jo.z] at hK ⊢; have xX52 := (X5.below hJ).a 2 (.int .i64 E1) rfl; go_simp; exact hK.out _ _ rfl (br _ _)
    refine Jo.jn 10 (some 49) [(some 46, 7), (some 48, 9)] _ rfl rfl rfl rfl ?_ ?_
    · rintro wj hJ _ rfl _ rfl K hK; simp only [Jo.z] at hK ⊢; have hw := HW.out; go_simp; exact hK.out _ _ rfl (br _ _)
    refine Jo.jn 11 (some 50) [(some 44, 5), (some 49, 10)] _ rfl rfl rfl rfl ?_ ?_
    · rintro wj hJ _ rfl _ rfl K hK; simp only [Jo.z] at hK ⊢; go_simp; refine (rShlN (p2.below hJ).1.rd (by omega) hd0 (by omega) rfl).mono ?_; rintro ee wk ⟨A7, n7, c7, rfl, p7, k7, B⟩; exact hK.out _ _ ⟨A7, n7, c7, rfl, p7, k7⟩ B
    refine Jo.jn 12 (some 51) [(some 41, 2), (some 50, 11)] _ rfl rfl rfl rfl ?_ ?_
    · rintro wj hJ _ rfl _ ⟨A7, n7, c7, rfl, p7, k7⟩ K hK; simp only [Jo.z] at hK ⊢; go_simp; refine (qMake s2 p7.rd).mono ?_; rintro ee wk ⟨s8, A8, n8, c8, rfl, p8, k8, B⟩; exact hK.out _ _ ⟨s8, A8, n8, c8, rfl, HC.out ▸ p8, Nat.le_trans k8 k7⟩ B
    refine Jo.jn 13 (some 8) [] _ rfl rfl rfl rfl ?_ ?_
    · rintro wj hJ K hK; simp only [Jo.z] at hK ⊢; go_simp; exact hK.out _ _ ⟨_, rfl, hJ.size, Bo.new _ _ _⟩ (bel1 _ _)
    exact Jo.Steps.nil
  have d11 : (Jo.Fact.nm (N2.natAbs * 2 ^ δ.toNat) (n2 + δ.toNat / 32 + 1)).P (vs 11) w9 := hd 11 (by decide)
  have d12 : (Jo.Fact.wn (N2 * ((2 ^ δ.toNat : Nat) : Int)) (n2 + δ.toNat / 32 + 1)).P (vs 12) w9 := hd 12 (by decide)
  have d13 : (Jo.Fact.bo w5.heap.size #[.bool false, .slice none 0 0] 58).P (vs 13) w9 := hd 13 (by decide)
  simp only [Jo.putl, Jo.zd, Jo.ze, Act.put, Jo.za, Jo.zb, Jo.zc]
  rw [show vs 2 = _ from hd 2 (by decide), show vs 5 = _ from hd 5 (by decide), show vs 7 = _ from hd 7 (by decide), show vs 9 = _ from hd 9 (by decide), show vs 10 = _ from hd 10 (by decide)]
  clear hd; generalize vs 11 = u11 at d11 ⊢; generalize vs 12 = u12 at d12 ⊢; generalize vs 13 = u13 at d13 ⊢; obtain ⟨A7, n7, c7, rfl, _, _⟩ := d11; obtain ⟨s8, A8, n8, c8, rfl, p8, k8⟩ := d12; obtain ⟨g8, rfl, hg8, X8⟩ := d13; replace XR := XR.below hJ; replace X5 := X5.below hJ; replace X6 := X6.below hJ; replace p1 := p1.below hJ; replace p2 := p2.below hJ; replace HB := Lib.hid (bt HB.out hJ)
  obtain ⟨xX80, xX81⟩ := X8.u2; have zX80 := X8.frozen
  refine Jo.jnext (i := 14) (o := ⟨none, _, _, _, _, _⟩) (by kernel_rfl) rfl (fun K hK => ?_)
  go_simp; refine hK.out _ _ ?_; clear hK K xX80 zX80 xX81; generalize hS : (w9.setCell _ _).setCell _ _ = w10 at *; have SX := StN.of2 X8 hS; replace XR := XR.stn SX (by omega); replace X5 := X5.stn SX (by omega); replace X6 := X6.stn SX (by omega); replace p1 := p1.stn SX (by simp [no32]); replace p2 := p2.stn SX (by simp [no32]); replace p8 := p8.stn SX (by simp [no32]); replace HB := Lib.hid (SX.below HB.out (by omega))
  replace X8 := SX.box; clear SX hS; refine Jo.jdone (by kernel_rfl) ?_
  go_upto_region 12 with (fail)
  refine Jo.rj [0, 1, 2, 3, 4, 5, 6] [some 52, some 53, some 54, some 55, some 56, some 57, some 58, none] [[], [0], [], [1, 2], [], [4], [3, 5], []] 8 [(some 52, 0), (some 53, 1), (some 54, 2), (some 55, 3), (some 56, 4), (some 57, 5), (some 58, 6)] 1 [Jo.qp w2.heap.size 0, Jo.Fact.eq (.agg #[.bool s1, .slice A1 n1 c1]), Jo.Fact.eq (.agg #[.bool s8, .slice A8 n8 c8]), Jo.Fact.wn (N1 + N2 * ((2 ^ δ.toNat : Nat) : Int)) (n + m + 20010), Jo.qp w2.heap.size 2, Jo.qi E1, Jo.Fact.dy N E (n + m + 20010), Jo.Fact.any] (by kernel_rfl) (by kernel_rfl) (by decide) rfl rfl ?_ ?_
  · refine Jo.jn 0 (some 52) [] _ rfl rfl rfl rfl ?_ ?_
    · rintro wj hJ K hK; simp only [Jo.z] at hK ⊢; go_simp; exact hK.out _ _ rfl (br _ _)
    refine Jo.jn 1 (some 53) [(some 52, 0)] _ rfl rfl rfl rfl ?_ ?_
    · rintro wj hJ _ rfl K hK; simp only [Jo.z] at hK ⊢; obtain ⟨xX50, xX51, xX52⟩ := (X5.below hJ).u3; go_simp; exact hK.out _ _ rfl (br _ _)
    refine Jo.jn 2 (some 54) [] _ rfl rfl rfl rfl ?_ ?_
    · rintro wj hJ K hK; simp only [Jo.z] at hK ⊢; obtain ⟨xX80, xX81⟩ := (X8.below hJ).u2; go_simp; exact hK.out _ _ rfl (br _ _)
    refine Jo.jn 3 (some 55) [(some 53, 1), (some 54, 2)] _ rfl rfl rfl rfl ?_ ?_
    · rintro wj hJ _ rfl _ rfl K hK; simp only [Jo.z] at hK ⊢; go_simp; refine (qAdd (p1.below hJ).wr (p8.below hJ).wr (by omega) (by omega) rfl).mono ?_; rintro ee wk ⟨s3, A3, n3, c3, rfl, p3, k3, B⟩; exact hK.out _ _ ⟨s3, A3, n3, c3, rfl, p3, by omega⟩ B
    refine Jo.jn 4 (some 56) [] _ rfl rfl rfl rfl ?_ ?_
    · rintro wj hJ K hK; simp only [Jo.z] at hK ⊢; go_simp; exact hK.out _ _ rfl (br _ _)
    refine Jo.jn 5 (some 57) [(some 56, 4)] _ rfl rfl rfl rfl ?_ ?_
    · rintro wj hJ _ rfl K hK; simp only [Jo.z] at hK ⊢; have xX52 := (X5.below hJ).a 2 (.int .i64 E1) rfl; go_simp; exact hK.out _ _ rfl (br _ _)
    refine Jo.jn 6 (some 58) [(some 55, 3), (some 57, 5)] _ rfl rfl rfl rfl ?_ ?_
    · rintro wj hJ _ ⟨s3, A3, n3, c3, rfl, p3, k3⟩ _ rfl K hK; simp only [Jo.z] at hK ⊢; go_simp; refine (q3Make p3.wr (by omega) HN.out HE.out).mono ?_; rintro ee wk ⟨s4, A4, n4, c4, rfl, p4, k4, B⟩; exact hK.out _ _ ⟨s4, A4, n4, c4, rfl, p4, Nat.le_trans k4 k3⟩ B
    exact Jo.Steps.nil
  rintro w11 hJ _ _ _ rfl _ rfl _ ⟨s3, A3, n3, c3, rfl, _, _⟩ _ _ _ rfl _ ⟨s4, A4, n4, c4, rfl, p4, k4⟩ -; simp only [Jo.z]; replace XR := XR.below hJ; replace X5 := X5.below hJ; replace X6 := X6.below hJ; replace X8 := X8.below hJ; replace p1 := p1.below hJ; replace p2 := p2.below hJ; replace p8 := p8.below hJ; replace HB := Lib.hid (bt HB.out hJ); obtain ⟨xXR0, xXR1, xXR2⟩ := XR.u3; have zXR0 := XR.frozen
  refine Jo.jnext (i := 7) (o := ⟨none, _, _, _, _, _⟩) (by kernel_rfl) rfl (fun K hK => ?_)
  go_simp; refine hK.out _ _ ?_; clear hK K xXR0 zXR0 xXR1 xXR2; have SX := StN.mk3 XR (.bool s4) (.slice A4 n4 c4) (.int .i64 E); replace p4 := p4.stn SX (by simp [no32]); refine Jo.jdone (by kernel_rfl) ?_; go_wp2; exact bodyPost_ret (v := .agg #[.bool s4, .slice A4 n4 c4, .int .i64 E]) (by simp [results, Tryz.results56, go_sem, SX.box.cell]) rfl ⟨s4, _, _, _, rfl, p4, k4, (SX.below HB.out (by omega))⟩

set_option maxHeartbeats 8000000 in
theorem q3sum_dn {w : World} {A B : Option Addr} {n c m d : Nat} {s t : Bool} {z e y f N1 E1 N2 E2 N E : Int} (h : Wr w s A n c z) (k : Wr w t B m d y) (hn : n ≤ 20000) (hm : m ≤ 20000)
    (HN1 : Hid ((mk z e).1 = N1)) (HE1 : Hid ((mk z e).2 = E1)) (HN2 : Hid ((mk y f).1 = N2)) (HE2 : Hid ((mk y f).2 = E2)) (h1 : N1 ≠ 0) (h2 : N2 ≠ 0) (hle : E2 < E1) (hfar : E1 - E2 ≤ 640000) (b1 : -4194304 ≤ E2) (b2 : E1 ≤ 4194304)
    (HN : Hid ((mk (N2 + N1 * ((2 ^ (E1 - E2).toNat : Nat) : Int)) E2).1 = N)) (HE : Hid ((mk (N2 + N1 * ((2 ^ (E1 - E2).toNat : Nat) : Int)) E2).2 = E)) :
    Calls Tryz.prog 56 #[.agg #[.bool s, .slice A n c, .int .i64 e], .agg #[.bool t, .slice B m d, .int .i64 f]] w (D1 w (n + m + 20010) N E) := by
  obtain ⟨δ, hδ⟩ : ∃ x, E1 - E2 = x := ⟨_, rfl⟩
  have HW : Hid (IntKind.i64.wrap (E1 - E2) = δ) := Lib.hid (by rw [hδ]; exact IntWalk.i64_in _ (by omega))
  have hd0 : 0 ≤ δ := by omega
  rw [hδ] at hfar HN HE
  have tle : decide (E2 < E1) = true := by simp; omega
  clear hδ
  go_enter Tryz.func56, Tryz.ntmps56
  go_upto_region 1 with (fail)
  generalize hW1 : ((w.alloc _).alloc _).alloc _ = w1 at *; obtain ⟨X1, X2, XR, HB⟩ := Bo.en3 hW1; replace h := h.below HB.out; replace k := k.below HB.out; clear hW1; obtain ⟨xX10, xX11, xX12⟩ := X1.u3
  go_wp2_with fail
  refine (q3Make h (by omega) HN1.out HE1.out).mono ?_; rintro ee w2 ⟨s1, A1, n1, c1, rfl, p1, k1, B⟩; clear xX10 xX11 xX12; replace X1 := X1.below B; replace X2 := X2.below B; replace XR := XR.below B; replace h := h.below B; replace k := k.below B; replace HB := Lib.hid (bt HB.out B); clear B; obtain ⟨xX20, xX21, xX22⟩ := X2.u3
  go_upto_region 2 with (fail)
  clear xX20 xX21 xX22; have lX5 := Nat.le_refl (World.heap w2).size; have nX5X2 := X2.lt; have nX5XR := XR.lt; generalize hWn : w2.alloc _ = w3 at *; obtain ⟨X5, BW⟩ := Bo.nw hWn; clear hWn; replace X2 := X2.below BW; replace XR := XR.below BW; replace k := k.below BW; replace p1 := p1.below BW; replace HB := Lib.hid (bt HB.out BW); clear BW; obtain ⟨xX20, xX21, xX22⟩ := X2.u3
  go_wp2_with fail
  refine (q3Make k (by omega) HN2.out HE2.out).mono ?_; rintro ee w4 ⟨s2, A2, n2, c2, rfl, p2, k2, B⟩; clear xX20 xX21 xX22; replace X2 := X2.below B; replace XR := XR.below B; replace X5 := X5.below B; replace k := k.below B; replace p1 := p1.below B; replace HB := Lib.hid (bt HB.out B); clear B
  go_upto_region 3 with (fail)
  have lX6 := Nat.le_refl (World.heap w4).size; have nX6XR := XR.lt; have nX6X5 := X5.lt; generalize hWn : w4.alloc _ = w5 at *; obtain ⟨X6, BW⟩ := Bo.nw hWn; clear hWn; replace XR := XR.below BW; replace X5 := X5.below BW; replace p1 := p1.below BW; replace p2 := p2.below BW; replace HB := Lib.hid (bt HB.out BW); clear BW; clear lX6
  have hpa : 0 < n1 := by have := p1.1.pos; omega
  have qa : ((n1 : Int) == 0) = false := by have : (n1 : Int) ≠ 0 := by omega
                                            simpa using this
  have la := p1.1.rd.big
  have hpb : 0 < n2 := by have := p2.1.pos; omega
  have qb : ((n2 : Int) == 0) = false := by have : (n2 : Int) ≠ 0 := by omega
                                            simpa using this
  have lb := p2.1.rd.big; clear h1 h2; obtain ⟨xX50, xX51, xX52⟩ := X5.u3; obtain ⟨xX60, xX61, xX62⟩ := X6.u3
  go_upto_region 9 with (fail)
  clear xX50 xX51 xX52 xX60 xX61 xX62; have lX7 := Nat.le_refl (World.heap w5).size; have nX7XR := XR.lt; have nX7X5 := X5.lt; have nX7X6 := X6.lt; generalize hWn : w5.alloc _ = w6 at *; obtain ⟨X7, BW⟩ := Bo.nw hWn; clear hWn; replace XR := XR.below BW; replace X5 := X5.below BW; replace X6 := X6.below BW; replace p1 := p1.below BW; replace p2 := p2.below BW; replace HB := Lib.hid (bt HB.out BW); clear BW
  obtain ⟨xX60, xX61, xX62⟩ := X6.u3; obtain ⟨xX50, xX51, xX52⟩ := X5.u3; have zX50 := X5.frozen
  go_upto_region 10 with (fail)
  clear xX60 xX61 xX62 xX50 zX50 xX51 xX52; generalize hS : ((w6.setCell _ _).setCell _ _).setCell _ _ = w7 at *; have SX := StN.of3 X5 hS; replace XR := XR.stn SX (by omega); replace X6 := X6.stn SX (by omega); replace X7 := X7.stn SX (by omega); replace p1 := p1.stn SX (by simp [no32]); replace p2 := p2.stn SX (by simp [no32]); replace HB := Lib.hid (SX.below HB.out (by omega)); replace X5 := SX.box
  clear SX hS; obtain ⟨xX70, xX71, xX72⟩ := X7.u3; obtain ⟨xX60, xX61, xX62⟩ := X6.u3; have zX60 := X6.frozen
  go_upto_region 11 with (fail)
  clear xX70 xX71 xX72 xX60 zX60 xX61 xX62; generalize hS : ((w7.setCell _ _).setCell _ _).setCell _ _ = w8 at *; have SX := StN.of3 X6 hS; replace XR := XR.stn SX (by omega); replace X5 := X5.stn SX (by omega); replace X7 := X7.stn SX (by omega); replace p1 := p1.stn SX (by simp [no32]); replace p2 := p2.stn SX (by simp [no32]); replace HB := Lib.hid (SX.below HB.out (by omega)); replace X6 := SX.box
  clear SX hS; have HC := Lib.hid (sg_scale s1 N1 (2 ^ δ.toNat) p1.wr.eq); have lt5 := X5.lt; have lt6 := X6.lt; have ltR := XR.lt
  refine Jo.region_joint (T := [0, 1, 2, 3, 4, 5, 6, 7, 8, 9, 10, 11, 12, 13]) (ds := [some 39, some 40, some 41, some 42, some 43, some 44, some 45, some 46, some 47, some 48, some 49, some 50, some 51, some 8, none]) (ls := [[], [0], [1], [], [3], [4], [], [6], [], [8], [7, 9], [5, 10], [2, 11], [], []]) (k := 15) (L := [(some 39, 0), (some 40, 1), (some 41, 2), (some 42, 3), (some 43, 4), (some 44, 5), (some 45, 6), (some 46, 7), (some 47, 8), (some 48, 9), (some 49, 10), (some 50, 11), (some 51, 12), (some 8, 13)]) (fuel := 1) (J := fun wj => Below (World.heap w8).size w8 wj)
    (F := [Jo.qp w4.heap.size 0, Jo.qp w4.heap.size 0, Jo.qb s1, Jo.qp w4.heap.size 0, Jo.qp w4.heap.size 1, Jo.Fact.eq (.slice A1 n1 c1), Jo.qp w4.heap.size 2, Jo.qi E1, Jo.qp w2.heap.size 2, Jo.qi E2, Jo.qi δ, Jo.Fact.nm (N1.natAbs * 2 ^ δ.toNat) (n1 + δ.toNat / 32 + 1), Jo.Fact.wn (N1 * ((2 ^ δ.toNat : Nat) : Int)) (n1 + δ.toNat / 32 + 1), Jo.Fact.bo w8.heap.size #[.bool false, .slice none 0 0] 58, Jo.Fact.any])
    (by kernel_rfl) (by kernel_rfl) (by decide) rfl rfl (fun _ _ h b => bt h b) ((br _ _).drew) ?_ (fun vs w9 hJ hd => ?_)
  · refine Jo.jn 0 (some 39) [] _ rfl rfl rfl rfl ?_ ?_
    · rintro wj hJ K hK; simp only [Jo.z] at hK ⊢; go_simp; exact hK.out _ _ rfl (br _ _)
    refine Jo.jn 1 (some 40) [(some 39, 0)] _ rfl rfl rfl rfl ?_ ?_
    · rintro wj hJ _ rfl K hK; simp only [Jo.z] at hK ⊢; go_simp; exact hK.out _ _ rfl (br _ _)
    refine Jo.jn 2 (some 41) [(some 40, 1)] _ rfl rfl rfl rfl ?_ ?_
    · rintro wj hJ _ rfl K hK; simp only [Jo.z] at hK ⊢; have xX60 := (X6.below hJ).a 0 (.bool s1) rfl; go_simp; exact hK.out _ _ rfl (br _ _)
    refine Jo.jn 3 (some 42) [] _ rfl rfl rfl rfl ?_ ?_
    · rintro wj hJ K hK; simp only [Jo.z] at hK ⊢; go_simp; exact hK.out _ _ rfl (br _ _)
    refine Jo.jn 4 (some 43) [(some 42, 3)] _ rfl rfl rfl rfl ?_ ?_
    · rintro wj hJ _ rfl K hK; simp only [Jo.z] at hK ⊢; go_simp; exact hK.out _ _ rfl (br _ _)
    refine Jo.jn 5 (some 44) [(some 43, 4)] _ rfl rfl rfl rfl ?_ ?_
    · rintro wj hJ _ rfl K hK; simp only [Jo.z] at hK ⊢; have xX61 := (X6.below hJ).a 1 (.slice A1 n1 c1) rfl; go_simp; exact hK.out _ _ rfl (br _ _)
    refine Jo.jn 6 (some 45) [] _ rfl rfl rfl rfl ?_ ?_
    · rintro wj hJ K hK; simp only [Jo.z] at hK ⊢; go_simp; exact hK.out _ _ rfl (br _ _)
    refine Jo.jn 7 (some 46) [(some 45, 6)] _ rfl rfl rfl rfl ?_ ?_
    · rintro wj hJ _ rfl K hK; simp only [Jo.z] at hK ⊢; have xX62 := (X6.below hJ).a 2 (.int .i64 E1) rfl; go_simp; exact hK.out _ _ rfl (br _ _)
    refine Jo.jn 8 (some 47) [] _ rfl rfl rfl rfl ?_ ?_
    · rintro wj hJ K hK; simp only [Jo.z] at hK ⊢; go_simp; exact hK.out _ _ rfl (br _ _)
    refine Jo.jn 9 (some 48) [(some 47, 8)] _ rfl rfl rfl rfl ?_ ?_
    · rintro wj hJ _ rfl K hK; simp only [Jo.z] at hK ⊢; have xX52 := (X5.below hJ).a 2 (.int .i64 E2) rfl; go_simp; exact hK.out _ _ rfl (br _ _)
    refine Jo.jn 10 (some 49) [(some 46, 7), (some 48, 9)] _ rfl rfl rfl rfl ?_ ?_
    · rintro wj hJ _ rfl _ rfl K hK; simp only [Jo.z] at hK ⊢; have hw := HW.out; go_simp; exact hK.out _ _ rfl (br _ _)
    refine Jo.jn 11 (some 50) [(some 44, 5), (some 49, 10)] _ rfl rfl rfl rfl ?_ ?_
    · rintro wj hJ _ rfl _ rfl K hK; simp only [Jo.z] at hK ⊢; go_simp; refine (rShlN (p1.below hJ).1.rd (by omega) hd0 (by omega) rfl).mono ?_; rintro ee wk ⟨A7, n7, c7, rfl, p7, k7, B⟩; exact hK.out _ _ ⟨A7, n7, c7, rfl, p7, k7⟩ B
    refine Jo.jn 12 (some 51) [(some 41, 2), (some 50, 11)] _ rfl rfl rfl rfl ?_ ?_
    · rintro wj hJ _ rfl _ ⟨A7, n7, c7, rfl, p7, k7⟩ K hK; simp only [Jo.z] at hK ⊢; go_simp; refine (qMake s1 p7.rd).mono ?_; rintro ee wk ⟨s8, A8, n8, c8, rfl, p8, k8, B⟩; exact hK.out _ _ ⟨s8, A8, n8, c8, rfl, HC.out ▸ p8, Nat.le_trans k8 k7⟩ B
    refine Jo.jn 13 (some 8) [] _ rfl rfl rfl rfl ?_ ?_
    · rintro wj hJ K hK; simp only [Jo.z] at hK ⊢; go_simp; exact hK.out _ _ ⟨_, rfl, hJ.size, Bo.new _ _ _⟩ (bel1 _ _)
    exact Jo.Steps.nil
  have d11 : (Jo.Fact.nm (N1.natAbs * 2 ^ δ.toNat) (n1 + δ.toNat / 32 + 1)).P (vs 11) w9 := hd 11 (by decide)
  have d12 : (Jo.Fact.wn (N1 * ((2 ^ δ.toNat : Nat) : Int)) (n1 + δ.toNat / 32 + 1)).P (vs 12) w9 := hd 12 (by decide)
  have d13 : (Jo.Fact.bo w8.heap.size #[.bool false, .slice none 0 0] 58).P (vs 13) w9 := hd 13 (by decide)
  simp only [Jo.putl, Jo.zd, Jo.ze, Act.put, Jo.za, Jo.zb, Jo.zc]
  rw [show vs 2 = _ from hd 2 (by decide), show vs 5 = _ from hd 5 (by decide), show vs 7 = _ from hd 7 (by decide), show vs 9 = _ from hd 9 (by decide), show vs 10 = _ from hd 10 (by decide)]
  clear hd; generalize vs 11 = u11 at d11 ⊢; generalize vs 12 = u12 at d12 ⊢; generalize vs 13 = u13 at d13 ⊢; obtain ⟨A7, n7, c7, rfl, _, _⟩ := d11; obtain ⟨s8, A8, n8, c8, rfl, p8, k8⟩ := d12; obtain ⟨g8, rfl, hg8, X8⟩ := d13; replace XR := XR.below hJ; replace X5 := X5.below hJ; replace X6 := X6.below hJ; replace p1 := p1.below hJ; replace p2 := p2.below hJ; replace HB := Lib.hid (bt HB.out hJ)
  obtain ⟨xX80, xX81⟩ := X8.u2; have zX80 := X8.frozen
  refine Jo.jnext (i := 14) (o := ⟨none, _, _, _, _, _⟩) (by kernel_rfl) rfl (fun K hK => ?_)
  go_simp; refine hK.out _ _ ?_; clear hK K xX80 zX80 xX81; generalize hS : (w9.setCell _ _).setCell _ _ = w10 at *; have SX := StN.of2 X8 hS; replace XR := XR.stn SX (by omega); replace X5 := X5.stn SX (by omega); replace X6 := X6.stn SX (by omega); replace p1 := p1.stn SX (by simp [no32]); replace p2 := p2.stn SX (by simp [no32]); replace p8 := p8.stn SX (by simp [no32]); replace HB := Lib.hid (SX.below HB.out (by omega))
  replace X8 := SX.box; clear SX hS; refine Jo.jdone (by kernel_rfl) ?_
  go_upto_region 12 with (fail)
  refine Jo.rj [0, 1, 2, 3, 4, 5, 6] [some 52, some 53, some 54, some 55, some 56, some 57, some 58, none] [[], [0], [], [1, 2], [], [4], [3, 5], []] 8 [(some 52, 0), (some 53, 1), (some 54, 2), (some 55, 3), (some 56, 4), (some 57, 5), (some 58, 6)] 1 [Jo.qp w2.heap.size 0, Jo.Fact.eq (.agg #[.bool s2, .slice A2 n2 c2]), Jo.Fact.eq (.agg #[.bool s8, .slice A8 n8 c8]), Jo.Fact.wn (N2 + N1 * ((2 ^ δ.toNat : Nat) : Int)) (n + m + 20010), Jo.qp w2.heap.size 2, Jo.qi E2, Jo.Fact.dy N E (n + m + 20010), Jo.Fact.any] (by kernel_rfl) (by kernel_rfl) (by decide) rfl rfl ?_ ?_
  · refine Jo.jn 0 (some 52) [] _ rfl rfl rfl rfl ?_ ?_
    · rintro wj hJ K hK; simp only [Jo.z] at hK ⊢; go_simp; exact hK.out _ _ rfl (br _ _)
    refine Jo.jn 1 (some 53) [(some 52, 0)] _ rfl rfl rfl rfl ?_ ?_
    · rintro wj hJ _ rfl K hK; simp only [Jo.z] at hK ⊢; obtain ⟨xX50, xX51, xX52⟩ := (X5.below hJ).u3; go_simp; exact hK.out _ _ rfl (br _ _)
    refine Jo.jn 2 (some 54) [] _ rfl rfl rfl rfl ?_ ?_
    · rintro wj hJ K hK; simp only [Jo.z] at hK ⊢; obtain ⟨xX80, xX81⟩ := (X8.below hJ).u2; go_simp; exact hK.out _ _ rfl (br _ _)
    refine Jo.jn 3 (some 55) [(some 53, 1), (some 54, 2)] _ rfl rfl rfl rfl ?_ ?_
    · rintro wj hJ _ rfl _ rfl K hK; simp only [Jo.z] at hK ⊢; go_simp; refine (qAdd (p2.below hJ).wr (p8.below hJ).wr (by omega) (by omega) rfl).mono ?_; rintro ee wk ⟨s3, A3, n3, c3, rfl, p3, k3, B⟩; exact hK.out _ _ ⟨s3, A3, n3, c3, rfl, p3, by omega⟩ B
    refine Jo.jn 4 (some 56) [] _ rfl rfl rfl rfl ?_ ?_
    · rintro wj hJ K hK; simp only [Jo.z] at hK ⊢; go_simp; exact hK.out _ _ rfl (br _ _)
    refine Jo.jn 5 (some 57) [(some 56, 4)] _ rfl rfl rfl rfl ?_ ?_
    · rintro wj hJ _ rfl K hK; simp only [Jo.z] at hK ⊢; have xX52 := (X5.below hJ).a 2 (.int .i64 E2) rfl; go_simp; exact hK.out _ _ rfl (br _ _)
    refine Jo.jn 6 (some 58) [(some 55, 3), (some 57, 5)] _ rfl rfl rfl rfl ?_ ?_
    · rintro wj hJ _ ⟨s3, A3, n3, c3, rfl, p3, k3⟩ _ rfl K hK; simp only [Jo.z] at hK ⊢; go_simp; refine (q3Make p3.wr (by omega) HN.out HE.out).mono ?_; rintro ee wk ⟨s4, A4, n4, c4, rfl, p4, k4, B⟩; exact hK.out _ _ ⟨s4, A4, n4, c4, rfl, p4, Nat.le_trans k4 k3⟩ B
    exact Jo.Steps.nil
  rintro w11 hJ _ _ _ rfl _ rfl _ ⟨s3, A3, n3, c3, rfl, _, _⟩ _ _ _ rfl _ ⟨s4, A4, n4, c4, rfl, p4, k4⟩ -; simp only [Jo.z]; replace XR := XR.below hJ; replace X5 := X5.below hJ; replace X6 := X6.below hJ; replace X8 := X8.below hJ; replace p1 := p1.below hJ; replace p2 := p2.below hJ; replace p8 := p8.below hJ; replace HB := Lib.hid (bt HB.out hJ); obtain ⟨xXR0, xXR1, xXR2⟩ := XR.u3; have zXR0 := XR.frozen
  refine Jo.jnext (i := 7) (o := ⟨none, _, _, _, _, _⟩) (by kernel_rfl) rfl (fun K hK => ?_)
  go_simp; refine hK.out _ _ ?_; clear hK K xXR0 zXR0 xXR1 xXR2; have SX := StN.mk3 XR (.bool s4) (.slice A4 n4 c4) (.int .i64 E); replace p4 := p4.stn SX (by simp [no32]); refine Jo.jdone (by kernel_rfl) ?_; go_wp2; exact bodyPost_ret (v := .agg #[.bool s4, .slice A4 n4 c4, .int .i64 E]) (by simp [results, Tryz.results56, go_sem, SX.box.cell]) rfl ⟨s4, _, _, _, rfl, p4, k4, (SX.below HB.out (by omega))⟩

theorem q3Two {w : World} {A B : Option Addr} {n c m d : Nat} {s t : Bool} {z e y f N E : Int} (h : Wr w s A n c z) (k : Wr w t B m d y) (hn : n ≤ 20000) (hm : m ≤ 20000) (hf : Near (mk z e) (mk y f))
    (hN : (pl (mk z e) (mk y f)).1 = N) (hE : (pl (mk z e) (mk y f)).2 = E) :
    Calls Tryz.prog 56 #[.agg #[.bool s, .slice A n c, .int .i64 e], .agg #[.bool t, .slice B m d, .int .i64 f]] w (D1 w (n + m + 20010) N E) := by
  have mono : ∀ K, K ≤ n + m + 20010 → ∀ N E e w', D1 w K N E e w' → D1 w (n + m + 20010) N E e w' := fun K hK N E e w' ⟨s, A, n, c, e1, p, q, b⟩ => ⟨s, A, n, c, e1, p, Nat.le_trans q hK, b⟩
  obtain ⟨b1, b2⟩ := mk_bd z e; obtain ⟨b3, b4⟩ := mk_bd y f
  unfold pl at hN hE
  by_cases h1 : (mk z e).1 = 0
  · rw [if_pos h1] at hN hE; subst hN; subst hE; exact (q3two_l h k hn hm (Lib.hid rfl) (Lib.hid rfl) (Lib.hid rfl) (Lib.hid rfl) h1).mono (mono _ (by omega) _ _)
  · rw [if_neg h1] at hN hE
    by_cases h2 : (mk y f).1 = 0
    · rw [if_pos h2] at hN hE; subst hN; subst hE; exact (q3two_r h k hn hm (Lib.hid rfl) (Lib.hid rfl) (Lib.hid rfl) (Lib.hid rfl) h1 h2).mono (mono _ (by omega) _ _)
    · rw [if_neg h2] at hN hE; obtain ⟨g1, g2⟩ := hf h1 h2
      by_cases hle : (mk z e).2 ≤ (mk y f).2
      · rw [Int.min_eq_left hle] at hN hE; exact q3sum_up h k hn hm (Lib.hid rfl) (Lib.hid rfl) (Lib.hid rfl) (Lib.hid rfl) h1 h2 hle g2 b1 b4 (Lib.hid (by simpa using hN)) (Lib.hid (by simpa using hE))
      · rw [Int.min_eq_right (by omega), Int.add_comm] at hN hE; exact q3sum_dn h k hn hm (Lib.hid rfl) (Lib.hid rfl) (Lib.hid rfl) (Lib.hid rfl) h1 h2 (by omega) g1 b3 b2 (Lib.hid (by simpa using hN)) (Lib.hid (by simpa using hE))
end Go.Proofs.YthhlccdmflgbbaaGreatDoor

/-
  Contracts and words that the statement's proof rests on, several texts in one: Kh.
-/
import Derived.Below
import Derived.BigQuiet
import Derived.Carry
import Derived.Deep.Draws
import Derived.Deep.MidRow
import Derived.Deep.QuietTactic
import Derived.Deep.RegionHeld3
import Derived.Deep.RegionWith
import Derived.IntWalk
import Derived.Laws.CopyOwn
import Derived.Laws.MakeOwn
import Derived.Laws.OwnMore
import Derived.Laws.Rows
import Derived.Lib.BitFns
import Derived.Lib.Hide
import Derived.Maps.AppendAt
import Derived.StillTailTactics
import Derived.Test.YteejbcimmmcnlaaGreatDoorRows
import Derived.WalkKit
import Derived.WalkLawsBesides
import Derived.WalkSpells
import Derived.Test.YteejbcimmmcnlaaGreatDoorYBag
import Derived.Test.YteejbcimmmcnlaaGreatDoorYBah
import Derived.Test.YteejbcimmmcnlaaGreatDoorYBai
import Derived.Test.YteejbcimmmcnlaaGreatDoorYBaj
import Derived.Test.YteejbcimmmcnlaaGreatDoorYBam
import Derived.Test.YteejbcimmmcnlaaGreatDoorYBaq
import Derived.Test.YteejbcimmmcnlaaGreatDoorYBau
import Derived.Test.YteejbcimmmcnlaaGreatDoorYBax
/-
  What num.word and cut do, and the document's word.
-/
namespace Go.Proofs.YteejbcimmmcnlaaGreatDoor
open Go.RowKit
set_option linter.unusedVariables false
set_option linter.unusedSimpArgs false
set_option maxRecDepth 100000

theorem vShlA {w : World} {A1 : Option Addr} {n c1 a r : Nat} {z : Int} (h1 : Rd w A1 n c1 a) (hn : n ≤ 1000000) (hz : z ≤ 16777216) (hr : a * 2 ^ z.toNat = r) : Calls Tryz.prog 147 #[.slice A1 n c1, .int .i64 z] w (P1 w (n + z.toNat / 32 + 1) r) := by
  subst hr
  by_cases h0 : z < 1
  · rw [show z.toNat = 0 by omega, Nat.pow_zero, Nat.mul_one]
    refine (vShl_low z h1 h0).mono ?_; rintro e w' ⟨A, m, c, e, h, k, B⟩; exact ⟨A, m, c, e, h, by omega, B⟩
  · have := vShl z.toNat h1 (by omega) (by omega)
    rwa [show ((z.toNat : Nat) : Int) = z by omega] at this
/-- A word is answered. -/
def PU (w : World) (z : Int) (e : Ending) (w' : World) : Prop := e = .returned (.int .u64 z) ∧ Below w.heap.size w w'
theorem tp_word {a : Nat} {v : Int} (hv : v = (blen a : Int) - 64) : a / 2 ^ v.toNat * 2 ^ (-v).toNat = tp a := by
  subst hv
  rcases Nat.lt_or_ge (blen a) 64 with h | h
  · rw [show ((blen a : Int) - 64).toNat = 0 by omega, Nat.pow_zero, Nat.div_one, tp_small (by omega), show (-((blen a : Int) - 64)).toNat = 64 - blen a by omega]
  · rw [show (-((blen a : Int) - 64)).toNat = 0 by omega, Nat.pow_zero, Nat.mul_one, tp_big h, show ((blen a : Int) - 64).toNat = blen a - 64 by omega]
theorem limbs_two {v : Nat} (h1 : 4294967296 ≤ v) (h2 : v < 18446744073709551616) : limbs v = [v % 4294967296, v / 4294967296] := by
  rw [limbs_pos (by omega), limbs_pos (by omega), show v / 4294967296 / 4294967296 = 0 by omega, limbs_zero, Nat.mod_eq_of_lt (show v / 4294967296 < 4294967296 by omega)]
set_option maxHeartbeats 4000000 in
theorem nWord {w : World} {A : Option Addr} {n c a : Nat} {L T : Int} (h : Rd w A n c a) (hn : n ≤ 100000) (h0 : a ≠ 0) (hL : ((blen a : Nat) : Int) = L) (hT : ((tp a : Nat) : Int) = T) : Calls Tryz.prog 191 #[.slice A n c, .int .i64 L] w (PU w T) := by
  have hb := h.blen_le; obtain ⟨v, hv⟩ : ∃ v : Int, L - 64 = v := ⟨_, rfl⟩; have hw := tp_word (a := a) (v := v) (by omega)
  have HW1 : Hid (IntKind.i64.wrap (L - 64) = v) := Lib.hid (by rw [hv]; exact IntWalk.i64_in _ (by omega))
  have HW2 : Hid (IntKind.i64.wrap (-v) = -v) := Lib.hid (IntWalk.i64_in _ (by omega))
  obtain ⟨q, hq⟩ : ∃ q, a / 2 ^ v.toNat = q := ⟨_, rfl⟩; rw [hq] at hw; have HQ := Lib.hid hq; have HT := Lib.hid hw; have g1 := tp_ge h0; have g2 := tp_lt a
  revert hT g1 g2 HT
  generalize tp a = W
  intro hT HT g1 g2
  have hlm := limbs_two (v := W) (by omega) (by omega); obtain ⟨X, hX0⟩ : ∃ X, W / 4294967296 = X := ⟨_, rfl⟩; obtain ⟨Y, hY0⟩ : ∃ Y, W % 4294967296 = Y := ⟨_, rfl⟩; rw [hX0, hY0] at hlm
  have hX : X < 4294967296 := by omega
  have hY : Y < 4294967296 := by omega
  have hTT : (X : Int) * 4294967296 + (Y : Int) = T := by omega
  have hor := or_join X Y hX hY; rw [hTT] at hor
  have HS1 := Lib.hid (show IntKind.u64.wrap (X : Int) = X from IntWalk.u64_in _ (by omega))
  have HS2 := Lib.hid (show IntKind.u64.wrap ((X : Int) * 4294967296) = (X : Int) * 4294967296 from IntWalk.u64_in _ (by omega))
  have HS3 := Lib.hid (show IntKind.u64.wrap (Y : Int) = Y from IntWalk.u64_in _ (by omega))
  have hv1 : -64 ≤ v := by omega
  have hv2 : v ≤ 3200000 := by omega
  have HO := Lib.hid hor; have HL := Lib.hid hlm; clear hor hlm hTT hT g1 g2 hw hq hv hL hX0 hY0
  go_enter Tryz.func191, Tryz.ntmps191
  have HB := Lib.hid (Below.refl w.heap.size w); have hw1 := HW1.out
  go_wp2_with fail
  refine (vShrE h (by omega) HQ.out).mono ?_; rintro ee w2 ⟨A2, n2, c2, rfl, p2, k2, B⟩; replace h := h.below B; replace HB := Lib.hid (bt HB.out B); clear B; clear hw1; have hw2 := HW2.out
  go_wp2_with fail
  refine (vShlA p2.rd (by omega) (by omega) HT.out).mono ?_; rintro ee w3 ⟨A3, n3, c3, rfl, p3, k3, B⟩; replace p2 := p2.below B; replace HB := Lib.hid (bt HB.out B); clear B; clear hw2 HW1 HW2 HQ HT; obtain ⟨b, hs⟩ := p3; have hl := hs.len; rw [HL.out] at hs hl
  obtain rfl : 2 = n3 := hl
  obtain ⟨o, rfl, hc⟩ := hs.at (by decide); have c0 := hc 0 (by decide); have c1 := hc 1 (by decide); rw [List.getD_cons_zero, Nat.add_zero] at c0; rw [List.getD_cons_succ, List.getD_cons_zero] at c1; clear hc hs HL
  go_upto_region 3 with (fail)
  refine Jo.rk [0, 1, 2, 3, 4, 5, 6, 7, 8, 9, 10] [some 15, some 16, some 17, some 18, some 19, some 20, some 21, some 22, some 23, some 24, some 4] [[], [0], [1], [2], [3], [], [5], [6], [7], [4, 8], [9]] 11 0 [Jo.Fact.eq (.slice (some ⟨b, o, none⟩) 2 c3), Jo.Fact.eq (.pointer (some ⟨b, o + 1, none⟩)), Jo.Fact.eq (.int .u32 (X : Int)), Jo.Fact.eq (.int .u64 (X : Int)), Jo.Fact.eq (.int .u64 ((X : Int) * 4294967296)), Jo.Fact.eq (.slice (some ⟨b, o, none⟩) 2 c3), Jo.Fact.eq (.pointer (some ⟨b, o, none⟩)), Jo.Fact.eq (.int .u32 (Y : Int)), Jo.Fact.eq (.int .u64 (Y : Int)), Jo.Fact.eq (.int .u64 T), Jo.Fact.eq (.int .u64 T)] (by kernel_rfl) (by kernel_rfl) (by decide) rfl ?_ ?_
  · refine Jo.jm rfl ?_ ?_
    · rintro wj hJ K hK; simp only [Jo.z] at hK ⊢; go_simp; exact hK.out _ _ rfl (br _ _)
    refine Jo.jm rfl ?_ ?_
    · rintro wj hJ _ rfl K hK; simp only [Jo.z] at hK ⊢; go_simp; exact hK.out _ _ rfl (br _ _)
    refine Jo.jm rfl ?_ ?_
    · rintro wj hJ _ rfl K hK; simp only [Jo.z] at hK ⊢
      have c0' := (hJ.cell (p := ⟨b, _, none⟩) (block_lt_of_cell c0)).trans c0
      have c1' := (hJ.cell (p := ⟨b, _, none⟩) (block_lt_of_cell c1)).trans c1
      go_simp; exact hK.out _ _ rfl (br _ _)
    refine Jo.jm rfl ?_ ?_
    · rintro wj hJ _ rfl K hK; simp only [Jo.z] at hK ⊢; have hs1 := HS1.out; go_simp; exact hK.out _ _ rfl (br _ _)
    refine Jo.jm rfl ?_ ?_
    · rintro wj hJ _ rfl K hK; simp only [Jo.z] at hK ⊢; have hs2 := HS2.out; go_simp; exact hK.out _ _ rfl (br _ _)
    refine Jo.jm rfl ?_ ?_
    · rintro wj hJ K hK; simp only [Jo.z] at hK ⊢; go_simp; exact hK.out _ _ rfl (br _ _)
    refine Jo.jm rfl ?_ ?_
    · rintro wj hJ _ rfl K hK; simp only [Jo.z] at hK ⊢; go_simp; exact hK.out _ _ rfl (br _ _)
    refine Jo.jm rfl ?_ ?_
    · rintro wj hJ _ rfl K hK; simp only [Jo.z] at hK ⊢
      have c0' := (hJ.cell (p := ⟨b, _, none⟩) (block_lt_of_cell c0)).trans c0
      have c1' := (hJ.cell (p := ⟨b, _, none⟩) (block_lt_of_cell c1)).trans c1
      go_simp; exact hK.out _ _ rfl (br _ _)
    refine Jo.jm rfl ?_ ?_
    · rintro wj hJ _ rfl K hK; simp only [Jo.z] at hK ⊢; have hs3 := HS3.out; go_simp; exact hK.out _ _ rfl (br _ _)
    refine Jo.jm rfl ?_ ?_
    · rintro wj hJ _ rfl _ rfl K hK; simp only [Jo.z] at hK ⊢; have hor := HO.out; go_simp; exact hK.out _ _ rfl (br _ _)
    refine Jo.jm rfl ?_ ?_
    · rintro wj hJ _ rfl K hK; simp only [Jo.z] at hK ⊢; go_simp; exact hK.out _ _ rfl (br _ _)
    exact Jo.Steps.nil
  rintro w4 hJ _ rfl _ _ _ rfl _ rfl _ rfl _ rfl _ _ _ rfl _ rfl _ rfl _ rfl -; simp only [Jo.z]; replace HB := Lib.hid (bt HB.out hJ); refine Jo.jdone (by kernel_rfl) ?_; go_wp2
  go_ret
  exact ⟨rfl, HB.out⟩

/-- A number and a truth are answered. -/
def PNB (w : World) (r : Int) (t : Bool) (e : Ending) (w' : World) : Prop := ∃ K s M E, e = .returned (.tuple #[.agg #[.int .i64 K, .bool s, .int .u64 M, .int .i64 E], .bool t]) ∧ Fq K s M E r ∧ Below w.heap.size w w'
set_option maxHeartbeats 4000000 in
theorem ncut_zero {w : World} {A : Option Addr} {n c a : Nat} {s : Bool} {E L x r : Int} {t : Bool} (h : Rd w A n c a) (hn : n ≤ 100000) (b1 : -4194304 ≤ E) (b2 : E ≤ 4194304) (h0 : a = 0) (hr : 0 = r) (ht : true = t) :
    Calls Tryz.prog 180 #[.agg #[.bool s, .slice A n c, .int .i64 E]] w (PNB w r t) := by
  have hb := h.blen_le; subst h0; subst hr; subst ht
  go_enter Tryz.func180, Tryz.ntmps180
  go_upto_region 1 with (fail)
  generalize hW1 : (w.alloc _).alloc _ = w1 at *; obtain ⟨X1, XR, HB⟩ := Bo.en2 hW1; replace h := h.below HB.out; clear hW1; obtain ⟨xX10, xX11, xX12⟩ := X1.u3
  go_wp2_with fail
  refine (vLenE (z := 0) h rfl).mono ?_; rintro ee w2 ⟨rfl, B⟩; clear xX10 xX11 xX12; replace X1 := X1.below B; replace XR := XR.below B; replace h := h.below B; replace HB := Lib.hid (bt HB.out B); clear B; obtain ⟨xXR0, xXR1, xXR2, xXR3⟩ := XR.u4; have zXR0 := XR.frozen; obtain ⟨xX10, xX11, xX12⟩ := X1.u3; go_wp2; clear xXR0 zXR0 xXR1 xXR2 xXR3 xX10 xX11 xX12; have SX := StN.mk4 XR (.int .i64 0) (.bool false) (.int .u64 0) (.int .i64 0)
  exact bodyPost_ret (v := .tuple #[.agg #[.int .i64 0, .bool false, .int .u64 0, .int .i64 0], .bool true]) (by simp [results, Tryz.results180, go_sem, SX.box.cell]) rfl ⟨_, _, _, _, rfl, Fq.nought, (SX.below HB.out (by omega))⟩
set_option maxHeartbeats 4000000 in
theorem ncut_big {w : World} {A : Option Addr} {n c a : Nat} {s : Bool} {E L x r : Int} (h : Rd w A n c a) (hn : n ≤ 100000) (b1 : -4194304 ≤ E) (b2 : E ≤ 4194304) (h0 : a ≠ 0) (hL : ((blen a : Nat) : Int) = L) (hx : E + L - 64 = x) (hx3 : 1048576 < x) (hr : sgi s 19342822337206103650074624 = r) :
    Calls Tryz.prog 180 #[.agg #[.bool s, .slice A n c, .int .i64 E]] w (PNB w r false) := by
  have hb := h.blen_le
  have h1 : blen a ≠ 0 := fun e => h0 (blen_eq_zero.1 e)
  have HL := Lib.hid hL
  have HX1 : Hid (IntKind.i64.wrap (E + L) = E + L) := Lib.hid (IntWalk.i64_in _ (by omega))
  have HX2 : Hid (IntKind.i64.wrap (E + L - 64) = x) := Lib.hid (by rw [hx]; exact IntWalk.i64_in _ (by omega))
  have e0 : (L == 0) = false := by
    have : L ≠ 0 := by omega
    simpa using this
  have hF : Fq 1 s 18446744073709551615 1048576 r := Fq.fin (by decide) (by decide) (by decide) (by decide) hr
  clear hL hx hr h1
  go_enter Tryz.func180, Tryz.ntmps180
  go_upto_region 1 with (fail)
  generalize hW1 : (w.alloc _).alloc _ = w1 at *; obtain ⟨X1, XR, HB⟩ := Bo.en2 hW1; replace h := h.below HB.out; clear hW1; obtain ⟨xX10, xX11, xX12⟩ := X1.u3
  go_wp2_with fail
  refine (vLenE h HL.out).mono ?_; rintro ee w2 ⟨rfl, B⟩; clear xX10 xX11 xX12; replace X1 := X1.below B; replace XR := XR.below B; replace h := h.below B; replace HB := Lib.hid (bt HB.out B); clear B; have hx1 := HX1.out; have hx2 := HX2.out; obtain ⟨xX10, xX11, xX12⟩ := X1.u3
  go_wp2_with fail
  refine (nH).mono ?_; rintro ee w3 ⟨rfl, B⟩; clear xX10 xX11 xX12; replace X1 := X1.below B; replace XR := XR.below B; replace h := h.below B; replace HB := Lib.hid (bt HB.out B); clear B; obtain ⟨xXR0, xXR1, xXR2, xXR3⟩ := XR.u4; have zXR0 := XR.frozen; obtain ⟨xX10, xX11, xX12⟩ := X1.u3; go_wp2; clear xXR0 zXR0 xXR1 xXR2 xXR3 xX10 xX11 xX12; have SX := StN.mk4 XR (.int .i64 1) (.bool s) (.int .u64 18446744073709551615) (.int .i64 1048576)
  exact bodyPost_ret (v := .tuple #[.agg #[.int .i64 1, .bool s, .int .u64 18446744073709551615, .int .i64 1048576], .bool false]) (by simp [results, Tryz.results180, go_sem, SX.box.cell]) rfl ⟨_, _, _, _, rfl, hF, (SX.below HB.out (by omega))⟩
set_option maxHeartbeats 4000000 in
theorem ncut_low {w : World} {A : Option Addr} {n c a : Nat} {s : Bool} {E L x : Int} (h : Rd w A n c a) (hn : n ≤ 100000) (b1 : -4194304 ≤ E) (b2 : E ≤ 4194304) (h0 : a ≠ 0) (hL : ((blen a : Nat) : Int) = L) (hx : E + L - 64 = x) (hx3 : x < -1048576) :
    Calls Tryz.prog 180 #[.agg #[.bool s, .slice A n c, .int .i64 E]] w (PNB w 0 false) := by
  have hb := h.blen_le
  have h1 : blen a ≠ 0 := fun e => h0 (blen_eq_zero.1 e)
  have HL := Lib.hid hL
  have HX1 : Hid (IntKind.i64.wrap (E + L) = E + L) := Lib.hid (IntWalk.i64_in _ (by omega))
  have HX2 : Hid (IntKind.i64.wrap (E + L - 64) = x) := Lib.hid (by rw [hx]; exact IntWalk.i64_in _ (by omega))
  have e0 : (L == 0) = false := by
    have : L ≠ 0 := by omega
    simpa using this
  clear hL hx h1
  go_enter Tryz.func180, Tryz.ntmps180
  go_upto_region 1 with (fail)
  generalize hW1 : (w.alloc _).alloc _ = w1 at *; obtain ⟨X1, XR, HB⟩ := Bo.en2 hW1; replace h := h.below HB.out; clear hW1; obtain ⟨xX10, xX11, xX12⟩ := X1.u3
  go_wp2_with fail
  refine (vLenE h HL.out).mono ?_; rintro ee w2 ⟨rfl, B⟩; clear xX10 xX11 xX12; replace X1 := X1.below B; replace XR := XR.below B; replace h := h.below B; replace HB := Lib.hid (bt HB.out B); clear B; have hx1 := HX1.out; have hx2 := HX2.out; obtain ⟨xXR0, xXR1, xXR2, xXR3⟩ := XR.u4; have zXR0 := XR.frozen; obtain ⟨xX10, xX11, xX12⟩ := X1.u3; go_wp2; clear xXR0 zXR0 xXR1 xXR2 xXR3 xX10 xX11 xX12; have SX := StN.mk4 XR (.int .i64 0) (.bool false) (.int .u64 0) (.int .i64 0)
  exact bodyPost_ret (v := .tuple #[.agg #[.int .i64 0, .bool false, .int .u64 0, .int .i64 0], .bool false]) (by simp [results, Tryz.results180, go_sem, SX.box.cell]) rfl ⟨_, _, _, _, rfl, Fq.nought, (SX.below HB.out (by omega))⟩
set_option maxHeartbeats 4000000 in
theorem ncut_mid {w : World} {A : Option Addr} {n c a : Nat} {s : Bool} {E L x r : Int} {t : Bool} (h : Rd w A n c a) (hn : n ≤ 100000) (b1 : -4194304 ≤ E) (b2 : E ≤ 4194304) (h0 : a ≠ 0) (hL : ((blen a : Nat) : Int) = L) (hx : E + L - 64 = x) (hx3 : -1048576 ≤ x) (hx4 : x ≤ 1048576) (hr : sgi s ((tp a : Int) - 9223372036854775808 + 1 + (x + 1048576) * 9223372036854775808) = r) (ht : decide (L ≤ 64) = t) :
    Calls Tryz.prog 180 #[.agg #[.bool s, .slice A n c, .int .i64 E]] w (PNB w r t) := by
  have hb := h.blen_le
  have h1 : blen a ≠ 0 := fun e => h0 (blen_eq_zero.1 e)
  have HL := Lib.hid hL
  have HX1 : Hid (IntKind.i64.wrap (E + L) = E + L) := Lib.hid (IntWalk.i64_in _ (by omega))
  have HX2 : Hid (IntKind.i64.wrap (E + L - 64) = x) := Lib.hid (by rw [hx]; exact IntWalk.i64_in _ (by omega))
  have e0 : (L == 0) = false := by
    have : L ≠ 0 := by omega
    simpa using this
  obtain ⟨T, hT⟩ : ∃ T, ((tp a : Nat) : Int) = T := ⟨_, rfl⟩; rw [hT] at hr
  have hF : Fq 1 s T x r := by
    have g1 := tp_ge h0; have g2 := tp_lt a; exact Fq.fin (by omega) (by omega) hx3 hx4 hr
  have HT := Lib.hid hT; have HTT := Lib.hid ht; clear hL hx hr h1 hT ht
  go_enter Tryz.func180, Tryz.ntmps180
  go_upto_region 1 with (fail)
  generalize hW1 : (w.alloc _).alloc _ = w1 at *; obtain ⟨X1, XR, HB⟩ := Bo.en2 hW1; replace h := h.below HB.out; clear hW1; obtain ⟨xX10, xX11, xX12⟩ := X1.u3
  go_wp2_with fail
  refine (vLenE h HL.out).mono ?_; rintro ee w2 ⟨rfl, B⟩; clear xX10 xX11 xX12; replace X1 := X1.below B; replace XR := XR.below B; replace h := h.below B; replace HB := Lib.hid (bt HB.out B); clear B; have hx1 := HX1.out; have hx2 := HX2.out; obtain ⟨xX10, xX11, xX12⟩ := X1.u3
  go_upto_region 9 with (fail)
  clear hx1 hx2; clear xX10 xX11 xX12
  refine Jo.region_late (g := w.heap.size + 1) (new := #[.int .i64 1, .bool s, .int .u64 T, .int .i64 x]) (R := 24) (T := [0, 1, 2, 3, 4, 5, 6, 7, 8, 9, 10, 11, 12]) (ds := [some 27, some 28, some 29, some 30, some 31, some 32, some 33, some 34, some 35, some 36, some 37, some 38, none, some 3]) (ls := [[], [0], [1], [], [3], [4], [], [5, 6], [], [2, 7, 8], [], [10], [9], []]) (k := 14) (L := [(some 27, 0), (some 28, 1), (some 29, 2), (some 30, 3), (some 31, 4), (some 32, 5), (some 33, 6), (some 34, 7), (some 35, 8), (some 36, 9), (some 37, 10), (some 38, 11), (none, 12)]) (fuel := 1)
    (F := [Jo.LFact.eq (.pointer (some ⟨w.heap.size, 0, none⟩)), Jo.LFact.eq (.pointer (some ⟨w.heap.size, 0, none⟩)), Jo.LFact.eq (.bool s), Jo.LFact.eq (.pointer (some ⟨w.heap.size, 0, none⟩)), Jo.LFact.eq (.pointer (some ⟨w.heap.size, 1, none⟩)), Jo.LFact.eq (.slice A n c), Jo.LFact.eq (.int .i64 L), Jo.LFact.eq (.int .u64 T), Jo.LFact.eq (.int .i64 x), Jo.LFact.eq (.agg #[.int .i64 1, .bool s, .int .u64 T, .int .i64 x]), Jo.LFact.eq (.int .i64 L), Jo.LFact.eq (.bool t), Jo.LFact.done, Jo.LFact.any])
    (by kernel_rfl) (by kernel_rfl) (by decide) rfl rfl ?_ (fun vs w3 hJ hd => ?_)
  · refine Jo.ld 0 (some 27) [] (Jo.LFact.eq (.pointer (some ⟨w.heap.size, 0, none⟩))) rfl rfl rfl rfl (fun vs wj hJ hd K hK => ?_) ?_
    · simp only [Jo.putl, Jo.ze, Act.put, Jo.za, Jo.zb, Jo.zc] at hK ⊢; clear hd; go_simp; exact hK.out _ _ rfl (Jo.Off.refl _ _ _ _)
    refine Jo.ld 1 (some 28) [(some 27, 0)] (Jo.LFact.eq (.pointer (some ⟨w.heap.size, 0, none⟩))) rfl rfl rfl rfl (fun vs wj hJ hd K hK => ?_) ?_
    · simp only [Jo.putl, Jo.zd, Jo.ze, Act.put, Jo.za, Jo.zb, Jo.zc] at hK ⊢
      rw [show vs 0 = _ from hd 0 (by decide)] at hK ⊢
      clear hd; go_simp; exact hK.out _ _ rfl (Jo.Off.refl _ _ _ _)
    refine Jo.ld 2 (some 29) [(some 28, 1)] (Jo.LFact.eq (.bool s)) rfl rfl rfl rfl (fun vs wj hJ hd K hK => ?_) ?_
    · simp only [Jo.putl, Jo.zd, Jo.ze, Act.put, Jo.za, Jo.zb, Jo.zc] at hK ⊢
      rw [show vs 1 = _ from hd 1 (by decide)] at hK ⊢
      clear hd; replace X1 := X1.off (by omega) hJ; obtain ⟨xX10, xX11, xX12⟩ := X1.u3; go_simp; exact hK.out _ _ rfl (Jo.Off.refl _ _ _ _)
    refine Jo.ld 3 (some 30) [] (Jo.LFact.eq (.pointer (some ⟨w.heap.size, 0, none⟩))) rfl rfl rfl rfl (fun vs wj hJ hd K hK => ?_) ?_
    · simp only [Jo.putl, Jo.ze, Act.put, Jo.za, Jo.zb, Jo.zc] at hK ⊢; clear hd; go_simp; exact hK.out _ _ rfl (Jo.Off.refl _ _ _ _)
    refine Jo.ld 4 (some 31) [(some 30, 3)] (Jo.LFact.eq (.pointer (some ⟨w.heap.size, 1, none⟩))) rfl rfl rfl rfl (fun vs wj hJ hd K hK => ?_) ?_
    · simp only [Jo.putl, Jo.zd, Jo.ze, Act.put, Jo.za, Jo.zb, Jo.zc] at hK ⊢
      rw [show vs 3 = _ from hd 3 (by decide)] at hK ⊢
      clear hd; go_simp; exact hK.out _ _ rfl (Jo.Off.refl _ _ _ _)
    refine Jo.ld 5 (some 32) [(some 31, 4)] (Jo.LFact.eq (.slice A n c)) rfl rfl rfl rfl (fun vs wj hJ hd K hK => ?_) ?_
    · simp only [Jo.putl, Jo.zd, Jo.ze, Act.put, Jo.za, Jo.zb, Jo.zc] at hK ⊢
      rw [show vs 4 = _ from hd 4 (by decide)] at hK ⊢
      clear hd; replace X1 := X1.off (by omega) hJ; obtain ⟨xX10, xX11, xX12⟩ := X1.u3; go_simp; exact hK.out _ _ rfl (Jo.Off.refl _ _ _ _)
    refine Jo.ld 6 (some 33) [] (Jo.LFact.eq (.int .i64 L)) rfl rfl rfl rfl (fun vs wj hJ hd K hK => ?_) ?_
    · simp only [Jo.putl, Jo.ze, Act.put, Jo.za, Jo.zb, Jo.zc] at hK ⊢; clear hd; go_simp; exact hK.out _ _ rfl (Jo.Off.refl _ _ _ _)
    refine Jo.ld 7 (some 34) [(some 32, 5), (some 33, 6)] (Jo.LFact.eq (.int .u64 T)) rfl rfl rfl rfl (fun vs wj hJ hd K hK => ?_) ?_
    · simp only [Jo.putl, Jo.zd, Jo.ze, Act.put, Jo.za, Jo.zb, Jo.zc] at hK ⊢
      rw [show vs 5 = _ from hd 5 (by decide), show vs 6 = _ from hd 6 (by decide)] at hK ⊢
      clear hd; go_simp; refine (nWord (h.off XR (by simp [no32]) hJ) hn h0 HL.out HT.out).mono ?_; rintro ee wk ⟨rfl, B⟩; exact hK.out _ _ rfl (Jo.Off.of_below B (Nat.lt_of_lt_of_le XR.lt hJ.size))
    refine Jo.ld 8 (some 35) [] (Jo.LFact.eq (.int .i64 x)) rfl rfl rfl rfl (fun vs wj hJ hd K hK => ?_) ?_
    · simp only [Jo.putl, Jo.ze, Act.put, Jo.za, Jo.zb, Jo.zc] at hK ⊢; clear hd; go_simp; exact hK.out _ _ rfl (Jo.Off.refl _ _ _ _)
    refine Jo.ld 9 (some 36) [(some 29, 2), (some 34, 7), (some 35, 8)] (Jo.LFact.eq (.agg #[.int .i64 1, .bool s, .int .u64 T, .int .i64 x])) rfl rfl rfl rfl (fun vs wj hJ hd K hK => ?_) ?_
    · simp only [Jo.putl, Jo.zd, Jo.ze, Act.put, Jo.za, Jo.zb, Jo.zc] at hK ⊢
      rw [show vs 2 = _ from hd 2 (by decide), show vs 7 = _ from hd 7 (by decide), show vs 8 = _ from hd 8 (by decide)] at hK ⊢
      clear hd; go_simp; exact hK.out _ _ rfl (Jo.Off.refl _ _ _ _)
    refine Jo.ld 10 (some 37) [] (Jo.LFact.eq (.int .i64 L)) rfl rfl rfl rfl (fun vs wj hJ hd K hK => ?_) ?_
    · simp only [Jo.putl, Jo.ze, Act.put, Jo.za, Jo.zb, Jo.zc] at hK ⊢; clear hd; go_simp; exact hK.out _ _ rfl (Jo.Off.refl _ _ _ _)
    refine Jo.ld 11 (some 38) [(some 37, 10)] (Jo.LFact.eq (.bool t)) rfl rfl rfl rfl (fun vs wj hJ hd K hK => ?_) ?_
    · simp only [Jo.putl, Jo.zd, Jo.ze, Act.put, Jo.za, Jo.zb, Jo.zc] at hK ⊢
      rw [show vs 10 = _ from hd 10 (by decide)] at hK ⊢
      clear hd; have htt := HTT.out; go_simp
      exact hK.out _ _ (by first | rfl | (show Value.bool _ = Value.bool _; rw [htt])) (Jo.Off.refl _ _ _ _)
    refine Jo.ld 12 (none) [(some 36, 9)] (Jo.LFact.done) rfl rfl rfl rfl (fun vs wj hJ hd K hK => ?_) ?_
    · simp only [Jo.putl, Jo.zd, Jo.ze, Act.put, Jo.za, Jo.zb, Jo.zc] at hK ⊢
      rw [show vs 9 = _ from hd 9 (by decide)] at hK ⊢
      clear hd
      obtain ⟨v0, v1, v2, v3, XO⟩ : ∃ v0 v1 v2 v3, Bo wj (w.heap.size + 1) #[v0, v1, v2, v3] 24 := by
        rcases hJ.own with e | e
        · exact ⟨_, _, _, _, XR.keep e⟩
        · exact ⟨_, _, _, _, e⟩
      have y0 := XO.a 0 (v0) rfl; have u0 := XO.frozen 0; have y1 := XO.a 1 (v1) rfl; have u1 := XO.frozen 1; have y2 := XO.a 2 (v2) rfl; have u2 := XO.frozen 2; have y3 := XO.a 3 (v3) rfl; have u3 := XO.frozen 3; go_simp; have SX := StN.mk4 XO (.int .i64 1) (.bool s) (.int .u64 T) (.int .i64 x); exact hK.out undef _ SX.box (Jo.Off.of_stn SX)
    exact Jo.Steps.nil
  have d12 : (Jo.LFact.done).P (vs 12) w3 := hd 12 (by decide)
  simp only [Jo.putl, Jo.zd, Jo.ze, Act.put, Jo.za, Jo.zb, Jo.zc]
  rw [show vs 2 = _ from hd 2 (by decide), show vs 5 = _ from hd 5 (by decide), show vs 6 = _ from hd 6 (by decide), show vs 7 = _ from hd 7 (by decide), show vs 8 = _ from hd 8 (by decide), show vs 9 = _ from hd 9 (by decide), show vs 10 = _ from hd 10 (by decide), show vs 11 = _ from hd 11 (by decide)]
  clear hd; generalize vs 12 = u12 at d12 ⊢; replace h := h.off XR (by simp [no32]) hJ; replace HB := Lib.hid (hJ.below HB.out (by omega) XR.lt); replace X1 := X1.off (by omega) hJ
  replace XR : Bo w3 (w.heap.size + 1) #[.int .i64 1, .bool s, .int .u64 T, .int .i64 x] 24 := d12
  refine Jo.jnext (i := 13) (o := ⟨some 3, _, _, _, _, _⟩) (by kernel_rfl) rfl (fun K hK => ?_)
  go_simp; refine hK.out _ _ ?_; clear hK K; refine Jo.jdone (by kernel_rfl) ?_; go_wp2; exact bodyPost_ret (v := .tuple #[.agg #[.int .i64 1, .bool s, .int .u64 T, .int .i64 x], .bool t]) (by simp [results, Tryz.results180, go_sem, XR.cell]) rfl ⟨_, _, _, _, rfl, hF, HB.out⟩
theorem nCut {w : World} {A : Option Addr} {n c a : Nat} {s : Bool} {E r : Int} {t : Bool} (h : Rd w A n c a) (hn : n ≤ 100000) (b1 : -4194304 ≤ E) (b2 : E ≤ 4194304) (hr : sgi s (lo a E) = r) (ht : ext a E = t) :
    Calls Tryz.prog 180 #[.agg #[.bool s, .slice A n c, .int .i64 E]] w (PNB w r t) := by
  unfold lo at hr
  unfold ext at ht
  by_cases h0 : a = 0
  · rw [if_pos h0] at hr
    have e0 : (a == 0) = true := by simpa using h0
    rw [e0] at ht
    exact ncut_zero (L := 0) (x := 0) h hn b1 b2 h0 (by rw [← hr]; cases s <;> rfl) ht
  · rw [if_neg h0] at hr
    have e0 : (a == 0) = false := by simpa using h0
    rw [e0, Bool.false_or] at ht
    have hx : E + ((blen a : Nat) : Int) - 64 = xp a E := rfl
    by_cases c1 : 1048576 < xp a E
    · rw [if_pos c1] at hr
      rw [show decide (xp a E ≤ 1048576) = false from decide_eq_false (by omega), Bool.false_and] at ht
      subst ht; exact ncut_big h hn b1 b2 h0 rfl hx c1 hr
    · rw [if_neg c1] at hr
      rw [show decide (xp a E ≤ 1048576) = true from decide_eq_true (by omega), Bool.true_and] at ht
      by_cases c2 : xp a E < -1048576
      · rw [if_pos c2] at hr
        rw [show decide (-1048576 ≤ xp a E) = false from decide_eq_false (by omega), Bool.false_and] at ht
        subst ht
        obtain rfl : 0 = r := by rw [← hr]; cases s <;> rfl
        exact ncut_low h hn b1 b2 h0 rfl hx c2
      · rw [if_neg c2] at hr
        rw [show decide (-1048576 ≤ xp a E) = true from decide_eq_true (by omega), Bool.true_and] at ht
        refine ncut_mid h hn b1 b2 h0 rfl hx (by omega) (by omega) hr ?_; rw [← ht, Bool.eq_iff_iff]
        simp
        omega
end Go.Proofs.YteejbcimmmcnlaaGreatDoor

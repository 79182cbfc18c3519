/-
  The walk of WholeBack: for all arguments, the call answers true, and nothing that was there has turned.
-/
import Derived.Test.YtbendmhcimadpaaLw
import Derived.Test.YtbendmhcimadpaaRow
import Derived.IntWalk
import Derived.Deep.RegionHeld3
namespace Go.Proofs.Ytbendmhcimadpaa
open Go.RowKit
set_option linter.unusedVariables false

set_option maxRecDepth 100000 in
set_option maxHeartbeats 8000000 in
theorem wholeBack_zero (s0 : Bool) (a0 : Option Addr) (len0 cap0 : Nat) (s1 : Bool) (a1 : Option Addr) (len1 cap1 : Nat) (w : World) (x : Int) (h0 : Wr w s0 a0 len0 cap0 x) (h1 : Wr w s1 a1 len1 cap1 0) (k0 : len0 ≤ 40) (k1 : len1 ≤ 40) :
    Calls Try.prog 6 #[.agg #[.bool s0, .slice a0 len0 cap0], .agg #[.bool s1, .slice a1 len1 cap1]] w (PB w true) := by
  go_enter Try.func6, Try.ntmps6
  go_wp2_with fail
  obtain ⟨X1, X2, B0⟩ := box2 w s0 s1 a0 a1 len0 cap0 len1 cap1 rfl
  have HB := Lib.hid B0
  replace h0 := h0.below B0
  replace h1 := h1.below B0
  clear B0
  refine (awake_any _).mono ?_
  rintro e w1 ⟨rfl, B⟩
  replace X1 := X1.below B
  replace X2 := X2.below B
  replace h0 := h0.below B
  replace h1 := h1.below B
  replace HB := Lib.hid (bt HB.out B)
  clear B
  have xX10 := X1.cell0
  have xX11 := X1.cell1
  have xX20 := X2.cell0
  have xX21 := X2.cell1
  go_wp2_with fail
  refine (few_yes _ _ _ _ _ k0).mono ?_
  rintro e w2 ⟨rfl, B⟩
  clear xX10 xX11 xX20 xX21
  replace X1 := X1.below B
  replace X2 := X2.below B
  replace h0 := h0.below B
  replace h1 := h1.below B
  replace HB := Lib.hid (bt HB.out B)
  clear B
  have xX10 := X1.cell0
  have xX11 := X1.cell1
  have xX20 := X2.cell0
  have xX21 := X2.cell1
  go_wp2_with fail
  refine (few_yes _ _ _ _ _ k1).mono ?_
  rintro e w3 ⟨rfl, B⟩
  clear xX10 xX11 xX20 xX21
  replace X1 := X1.below B
  replace X2 := X2.below B
  replace h0 := h0.below B
  replace h1 := h1.below B
  replace HB := Lib.hid (bt HB.out B)
  clear B
  have xX10 := X1.cell0
  have xX11 := X1.cell1
  have xX20 := X2.cell0
  have xX21 := X2.cell1
  go_wp2_with fail
  refine (wDiv0 h0 h1).mono ?_
  rintro e w4 ⟨rfl, B⟩
  clear xX10 xX11 xX20 xX21
  have X3a := Bx.new w4 false none 0 0
  have X3 := X3a.below (bel1 _ (.cells #[.bool false, .slice none 0 0] 24))
  clear X3a
  have X4a := Bx.newAt (w4.alloc (.cells #[.bool false, .slice none 0 0] 24)) (g := w4.heap.size + 1) (by simp) false none 0 0
  have X4 := X4a
  clear X4a
  replace B := bt B (bel2 _ (.cells #[.bool false, .slice none 0 0] 24) (.cells #[.bool false, .slice none 0 0] 24))
  replace X1 := X1.below B
  replace X2 := X2.below B
  replace h0 := h0.below B
  replace h1 := h1.below B
  replace HB := Lib.hid (bt HB.out B)
  clear B
  have xX10 := X1.cell0
  have xX11 := X1.cell1
  have xX20 := X2.cell0
  have xX21 := X2.cell1
  have xX30 := X3.cell0
  have xX31 := X3.cell1
  have xX40 := X4.cell0
  have xX41 := X4.cell1
  go_wp2_with fail
  refine (wSign h1 (cmpI_eq rfl)).mono ?_
  rintro e w5 ⟨rfl, B⟩
  clear xX10 xX11 xX20 xX21 xX30 xX31 xX40 xX41
  replace X1 := X1.below B
  replace X2 := X2.below B
  replace X3 := X3.below B
  replace X4 := X4.below B
  replace h0 := h0.below B
  replace h1 := h1.below B
  replace HB := Lib.hid (bt HB.out B)
  clear B
  have xX10 := X1.cell0
  have xX11 := X1.cell1
  have xX20 := X2.cell0
  have xX21 := X2.cell1
  have xX30 := X3.cell0
  have xX31 := X3.cell1
  have xX40 := X4.cell0
  have xX41 := X4.cell1
  go_wp2_with fail
  refine (wSign Wn.zero.wr (cmpI_eq rfl)).mono ?_
  rintro e w6 ⟨rfl, B⟩
  clear xX10 xX11 xX20 xX21 xX30 xX31 xX40 xX41
  replace X1 := X1.below B
  replace X2 := X2.below B
  replace X3 := X3.below B
  replace X4 := X4.below B
  replace h0 := h0.below B
  replace h1 := h1.below B
  replace HB := Lib.hid (bt HB.out B)
  clear B
  have xX10 := X1.cell0
  have xX11 := X1.cell1
  have xX20 := X2.cell0
  have xX21 := X2.cell1
  have xX30 := X3.cell0
  have xX31 := X3.cell1
  have xX40 := X4.cell0
  have xX41 := X4.cell1
  go_wp2_with fail
  refine (wSign Wn.zero.wr (cmpI_eq rfl)).mono ?_
  rintro e w7 ⟨rfl, B⟩
  clear xX10 xX11 xX20 xX21 xX30 xX31 xX40 xX41
  replace X1 := X1.below B
  replace X2 := X2.below B
  replace X3 := X3.below B
  replace X4 := X4.below B
  replace h0 := h0.below B
  replace h1 := h1.below B
  replace HB := Lib.hid (bt HB.out B)
  clear B
  have xX10 := X1.cell0
  have xX11 := X1.cell1
  have xX20 := X2.cell0
  have xX21 := X2.cell1
  have xX30 := X3.cell0
  have xX31 := X3.cell1
  have xX40 := X4.cell0
  have xX41 := X4.cell1
  go_wp2
  go_ret
  exact ⟨rfl, HB.out⟩

set_option maxRecDepth 100000 in
set_option maxHeartbeats 8000000 in
theorem wholeBack_none (s0 : Bool) (a0 : Option Addr) (len0 cap0 : Nat) (s1 : Bool) (a1 : Option Addr) (len1 cap1 : Nat) (w : World) (x y q r κ σ : Int) (h0 : Wr w s0 a0 len0 cap0 x) (h1 : Wr w s1 a1 len1 cap1 y) (k0 : len0 ≤ 40) (k1 : len1 ≤ 40) (hy : y ≠ 0) (HQ : Hid (x.fdiv y = q)) (HR : Hid (x.fmod y = r))
    (HM : Hid (decide (1 * q * y + r = x) = true)) (HK : Hid (cmpI r y = κ)) (HS : Hid (cmpI r 0 = σ)) (hσ : (σ == 0) = true) :
    Calls Try.prog 6 #[.agg #[.bool s0, .slice a0 len0 cap0], .agg #[.bool s1, .slice a1 len1 cap1]] w (PB w true) := by
  have HP : Hid (prd [q, y] = 1 * q * y) := Lib.hid rfl
  go_enter Try.func6, Try.ntmps6
  go_wp2_with fail
  obtain ⟨X1, X2, B0⟩ := box2 w s0 s1 a0 a1 len0 cap0 len1 cap1 rfl
  have HB := Lib.hid B0
  replace h0 := h0.below B0
  replace h1 := h1.below B0
  clear B0
  refine (awake_any _).mono ?_
  rintro e w1 ⟨rfl, B⟩
  replace X1 := X1.below B
  replace X2 := X2.below B
  replace h0 := h0.below B
  replace h1 := h1.below B
  replace HB := Lib.hid (bt HB.out B)
  clear B
  have xX10 := X1.cell0
  have xX11 := X1.cell1
  have xX20 := X2.cell0
  have xX21 := X2.cell1
  go_wp2_with fail
  refine (few_yes _ _ _ _ _ k0).mono ?_
  rintro e w2 ⟨rfl, B⟩
  clear xX10 xX11 xX20 xX21
  replace X1 := X1.below B
  replace X2 := X2.below B
  replace h0 := h0.below B
  replace h1 := h1.below B
  replace HB := Lib.hid (bt HB.out B)
  clear B
  have xX10 := X1.cell0
  have xX11 := X1.cell1
  have xX20 := X2.cell0
  have xX21 := X2.cell1
  go_wp2_with fail
  refine (few_yes _ _ _ _ _ k1).mono ?_
  rintro e w3 ⟨rfl, B⟩
  clear xX10 xX11 xX20 xX21
  replace X1 := X1.below B
  replace X2 := X2.below B
  replace h0 := h0.below B
  replace h1 := h1.below B
  replace HB := Lib.hid (bt HB.out B)
  clear B
  have xX10 := X1.cell0
  have xX11 := X1.cell1
  have xX20 := X2.cell0
  have xX21 := X2.cell1
  go_wp2_with fail
  refine (wDiv h0 h1 (by omega) (by omega) hy HQ.out HR.out).mono ?_
  rintro e w4 ⟨s3, A3, n3, c3, s4, A4, n4, c4, rfl, p3, p4, j3, j4, B⟩
  clear xX10 xX11 xX20 xX21
  have X3a := Bx.new w4 s3 A3 n3 c3
  have X3 := X3a.below (bel1 _ (.cells #[.bool s4, .slice A4 n4 c4] 24))
  clear X3a
  have X4a := Bx.newAt (w4.alloc (.cells #[.bool s3, .slice A3 n3 c3] 24)) (g := w4.heap.size + 1) (by simp) s4 A4 n4 c4
  have X4 := X4a
  clear X4a
  replace p3 := p3.below (bel2 _ (.cells #[.bool s3, .slice A3 n3 c3] 24) (.cells #[.bool s4, .slice A4 n4 c4] 24))
  replace p4 := p4.below (bel2 _ (.cells #[.bool s3, .slice A3 n3 c3] 24) (.cells #[.bool s4, .slice A4 n4 c4] 24))
  replace B := bt B (bel2 _ (.cells #[.bool s3, .slice A3 n3 c3] 24) (.cells #[.bool s4, .slice A4 n4 c4] 24))
  replace X1 := X1.below B
  replace X2 := X2.below B
  replace h0 := h0.below B
  replace h1 := h1.below B
  replace HB := Lib.hid (bt HB.out B)
  clear B
  have xX10 := X1.cell0
  have xX11 := X1.cell1
  have xX20 := X2.cell0
  have xX21 := X2.cell1
  have xX30 := X3.cell0
  have xX31 := X3.cell1
  have xX40 := X4.cell0
  have xX41 := X4.cell1
  go_wp2_with fail
  refine (wSign p4.wr HS.out).mono ?_
  rintro e w5 ⟨rfl, B⟩
  clear xX10 xX11 xX20 xX21 xX30 xX31 xX40 xX41
  replace X1 := X1.below B
  replace X2 := X2.below B
  replace X3 := X3.below B
  replace X4 := X4.below B
  replace h0 := h0.below B
  replace h1 := h1.below B
  replace p3 := p3.below B
  replace p4 := p4.below B
  replace HB := Lib.hid (bt HB.out B)
  clear B
  have xX10 := X1.cell0
  have xX11 := X1.cell1
  have xX20 := X2.cell0
  have xX21 := X2.cell1
  have xX30 := X3.cell0
  have xX31 := X3.cell1
  have xX40 := X4.cell0
  have xX41 := X4.cell1
  go_wp2_with fail
  refine (wCmp p4.wr h1 HK.out).mono ?_
  rintro e w6 ⟨rfl, B⟩
  clear xX10 xX11 xX20 xX21 xX30 xX31 xX40 xX41
  replace X1 := X1.below B
  replace X2 := X2.below B
  replace X3 := X3.below B
  replace X4 := X4.below B
  replace h0 := h0.below B
  replace h1 := h1.below B
  replace p3 := p3.below B
  replace p4 := p4.below B
  replace HB := Lib.hid (bt HB.out B)
  clear B
  have xX10 := X1.cell0
  have xX11 := X1.cell1
  have xX20 := X2.cell0
  have xX21 := X2.cell1
  have xX30 := X3.cell0
  have xX31 := X3.cell1
  have xX40 := X4.cell0
  have xX41 := X4.cell1
  clear xX10 xX11 xX20 xX21 xX30 xX31 xX40 xX41
  go_wp2
  refine wp_region_noPanic ?_
  refine wp_region_held_drew (S := (fun w' => w'.cell? ⟨w.heap.size, 0, none⟩ = some (.bool s0) ∧ w'.cell? ⟨w.heap.size, 1, none⟩ = some (.slice a0 len0 cap0) ∧ w'.cell? ⟨w.heap.size + 1, 0, none⟩ = some (.bool s1) ∧ w'.cell? ⟨w.heap.size + 1, 1, none⟩ = some (.slice a1 len1 cap1) ∧ w'.cell? ⟨w4.heap.size, 0, none⟩ = some (.bool s3) ∧ w'.cell? ⟨w4.heap.size, 1, none⟩ = some (.slice A3 n3 c3) ∧ w'.cell? ⟨w4.heap.size + 1, 0, none⟩ = some (.bool s4) ∧ w'.cell? ⟨w4.heap.size + 1, 1, none⟩ = some (.slice A4 n4 c4))) (by kernel_rfl) ?_ (fun hHeld => ?_)
  · first | with_reducible exact ⟨(X1).cell0, (X1).cell1, (X2).cell0, (X2).cell1, (X3).cell0, (X3).cell1, (X4).cell0, (X4).cell1⟩ | with_reducible exact ⟨(X1).drew.cell0, (X1).drew.cell1, (X2).drew.cell0, (X2).drew.cell1, (X3).drew.cell0, (X3).drew.cell1, (X4).drew.cell0, (X4).drew.cell1⟩ | with_reducible exact ⟨(X1.below (bel1 _ _)).cell0, (X1.below (bel1 _ _)).cell1, (X2.below (bel1 _ _)).cell0, (X2.below (bel1 _ _)).cell1, (X3.below (bel1 _ _)).cell0, (X3.below (bel1 _ _)).cell1, (X4.below (bel1 _ _)).cell0, (X4.below (bel1 _ _)).cell1⟩ | with_reducible exact ⟨(X1.below (bel1 _ _)).drew.cell0, (X1.below (bel1 _ _)).drew.cell1, (X2.below (bel1 _ _)).drew.cell0, (X2.below (bel1 _ _)).drew.cell1, (X3.below (bel1 _ _)).drew.cell0, (X3.below (bel1 _ _)).drew.cell1, (X4.below (bel1 _ _)).drew.cell0, (X4.below (bel1 _ _)).drew.cell1⟩
  refine wpAnyH_take (i := 0) (oi := ⟨some 56, _, _, _, _, _⟩) (v := ?v0) rfl (by kernel_rfl) (by kernel_rfl) (by kernel_rfl) (fun _ _ _ h => h) (Or.inl ⟨by rfl, ?hy0⟩) (by assumption) ?_
  case hy0 => (intro w hSw; (try dsimp only at hSw); go_simp; try with_reducible rfl)
  try simp only [Act.put, List.setIfInBounds_toArray, List.set_cons_zero, List.set_cons_succ]
  refine wpAnyH_take (i := 1) (oi := ⟨some 57, _, _, _, _, _⟩) (v := ?v1) rfl (by kernel_rfl) (by kernel_rfl) (by kernel_rfl) (fun _ _ _ h => h) (Or.inl ⟨by rfl, ?hy1⟩) (by assumption) ?_
  case hy1 => (intro w hSw; (try dsimp only at hSw); go_simp; try with_reducible rfl)
  try simp only [Act.put, List.setIfInBounds_toArray, List.set_cons_zero, List.set_cons_succ]
  refine wpAnyH_take (i := 4) (oi := ⟨some 60, _, _, _, _, _⟩) (v := ?v4) rfl (by kernel_rfl) (by kernel_rfl) (by kernel_rfl) (fun _ _ _ h => h) (Or.inl ⟨by rfl, ?hy4⟩) (by assumption) ?_
  case hy4 => (intro w hSw; (try dsimp only at hSw); go_simp; try with_reducible rfl)
  try simp only [Act.put, List.setIfInBounds_toArray, List.set_cons_zero, List.set_cons_succ]
  refine wpAnyH_take (i := 6) (oi := ⟨some 62, _, _, _, _, _⟩) (v := ?v6) rfl (by kernel_rfl) (by kernel_rfl) (by kernel_rfl) (fun _ _ _ h => h) (Or.inl ⟨by rfl, ?hy6⟩) (by assumption) ?_
  case hy6 => (intro w hSw; (try dsimp only at hSw); go_simp; try with_reducible rfl)
  try simp only [Act.put, List.setIfInBounds_toArray, List.set_cons_zero, List.set_cons_succ]
  refine wpAnyH_ready (rs := [2]) (by kernel_rfl) (by simp) ?_
  refine AllReadyH.cons (o := ⟨some 58, _, _, _, _, _⟩) rfl (fun K hK => ?_) AllReadyH.nil
  go_simp
  refine hK.out _ _ ?_ (fun hHeld => ?_)
  · first | with_reducible exact ⟨(X1).cell0, (X1).cell1, (X2).cell0, (X2).cell1, (X3).cell0, (X3).cell1, (X4).cell0, (X4).cell1⟩ | with_reducible exact ⟨(X1).drew.cell0, (X1).drew.cell1, (X2).drew.cell0, (X2).drew.cell1, (X3).drew.cell0, (X3).drew.cell1, (X4).drew.cell0, (X4).drew.cell1⟩ | with_reducible exact ⟨(X1.below (bel1 _ _)).cell0, (X1.below (bel1 _ _)).cell1, (X2.below (bel1 _ _)).cell0, (X2.below (bel1 _ _)).cell1, (X3.below (bel1 _ _)).cell0, (X3.below (bel1 _ _)).cell1, (X4.below (bel1 _ _)).cell0, (X4.below (bel1 _ _)).cell1⟩ | with_reducible exact ⟨(X1.below (bel1 _ _)).drew.cell0, (X1.below (bel1 _ _)).drew.cell1, (X2.below (bel1 _ _)).drew.cell0, (X2.below (bel1 _ _)).drew.cell1, (X3.below (bel1 _ _)).drew.cell0, (X3.below (bel1 _ _)).drew.cell1, (X4.below (bel1 _ _)).drew.cell0, (X4.below (bel1 _ _)).drew.cell1⟩
  clear hK K
  try simp only [Act.put, List.setIfInBounds_toArray, List.set_cons_zero, List.set_cons_succ]
  refine wpAnyH_ready (rs := [3]) (by kernel_rfl) (by simp) ?_
  refine AllReadyH.cons (o := ⟨some 59, _, _, _, _, _⟩) rfl (fun K hK => ?_) AllReadyH.nil
  go_simp
  (go_at_call 25; ((with_reducible refine (wMul (K := 100) (Wl.lit2 rfl p3.wr h1 (by omega) (by omega)).drew (by omega) HP.out).mono ?_); rintro e w7 ⟨s7, A7, n7, c7, rfl, p7, j7, B⟩; replace B := bt ((bel1 _ _).drew) B; replace X1 := X1.below B; replace X2 := X2.below B; replace X3 := X3.below B; replace X4 := X4.below B; replace h0 := h0.below B; replace h1 := h1.below B; replace p3 := p3.below B; replace p4 := p4.below B; replace HB := Lib.hid (bt HB.out B); clear B))
  refine hK.out _ _ ?_ (fun hHeld => ?_)
  · first | with_reducible exact ⟨(X1).cell0, (X1).cell1, (X2).cell0, (X2).cell1, (X3).cell0, (X3).cell1, (X4).cell0, (X4).cell1⟩ | with_reducible exact ⟨(X1).drew.cell0, (X1).drew.cell1, (X2).drew.cell0, (X2).drew.cell1, (X3).drew.cell0, (X3).drew.cell1, (X4).drew.cell0, (X4).drew.cell1⟩ | with_reducible exact ⟨(X1.below (bel1 _ _)).cell0, (X1.below (bel1 _ _)).cell1, (X2.below (bel1 _ _)).cell0, (X2.below (bel1 _ _)).cell1, (X3.below (bel1 _ _)).cell0, (X3.below (bel1 _ _)).cell1, (X4.below (bel1 _ _)).cell0, (X4.below (bel1 _ _)).cell1⟩ | with_reducible exact ⟨(X1.below (bel1 _ _)).drew.cell0, (X1.below (bel1 _ _)).drew.cell1, (X2.below (bel1 _ _)).drew.cell0, (X2.below (bel1 _ _)).drew.cell1, (X3.below (bel1 _ _)).drew.cell0, (X3.below (bel1 _ _)).drew.cell1, (X4.below (bel1 _ _)).drew.cell0, (X4.below (bel1 _ _)).drew.cell1⟩
  clear hK K
  try simp only [Act.put, List.setIfInBounds_toArray, List.set_cons_zero, List.set_cons_succ]
  refine wpAnyH_ready (rs := [5]) (by kernel_rfl) (by simp) ?_
  refine AllReadyH.cons (o := ⟨some 61, _, _, _, _, _⟩) rfl (fun K hK => ?_) AllReadyH.nil
  go_simp
  (go_at_call 12; ((with_reducible refine (wAdd p7.wr p4.wr (by omega) (by omega) rfl).mono ?_); rintro e w8 ⟨s8, A8, n8, c8, rfl, p8, j8, B⟩; replace X1 := X1.below B; replace X2 := X2.below B; replace X3 := X3.below B; replace X4 := X4.below B; replace h0 := h0.below B; replace h1 := h1.below B; replace p3 := p3.below B; replace p4 := p4.below B; replace HB := Lib.hid (bt HB.out B); clear B))
  refine hK.out _ _ ?_ (fun hHeld => ?_)
  · first | with_reducible exact ⟨(X1).cell0, (X1).cell1, (X2).cell0, (X2).cell1, (X3).cell0, (X3).cell1, (X4).cell0, (X4).cell1⟩ | with_reducible exact ⟨(X1).drew.cell0, (X1).drew.cell1, (X2).drew.cell0, (X2).drew.cell1, (X3).drew.cell0, (X3).drew.cell1, (X4).drew.cell0, (X4).drew.cell1⟩ | with_reducible exact ⟨(X1.below (bel1 _ _)).cell0, (X1.below (bel1 _ _)).cell1, (X2.below (bel1 _ _)).cell0, (X2.below (bel1 _ _)).cell1, (X3.below (bel1 _ _)).cell0, (X3.below (bel1 _ _)).cell1, (X4.below (bel1 _ _)).cell0, (X4.below (bel1 _ _)).cell1⟩ | with_reducible exact ⟨(X1.below (bel1 _ _)).drew.cell0, (X1.below (bel1 _ _)).drew.cell1, (X2.below (bel1 _ _)).drew.cell0, (X2.below (bel1 _ _)).drew.cell1, (X3.below (bel1 _ _)).drew.cell0, (X3.below (bel1 _ _)).drew.cell1, (X4.below (bel1 _ _)).drew.cell0, (X4.below (bel1 _ _)).drew.cell1⟩
  clear hK K
  try simp only [Act.put, List.setIfInBounds_toArray, List.set_cons_zero, List.set_cons_succ]
  refine wpAnyH_ready (rs := [7]) (by kernel_rfl) (by simp) ?_
  refine AllReadyH.cons (o := ⟨some 63, _, _, _, _, _⟩) rfl (fun K hK => ?_) AllReadyH.nil
  go_simp
  (go_at_call 20; ((with_reducible refine (wSame p8.wr h0 HM.out).mono ?_); rintro e w9 ⟨rfl, B⟩; replace X1 := X1.below B; replace X2 := X2.below B; replace X3 := X3.below B; replace X4 := X4.below B; replace h0 := h0.below B; replace h1 := h1.below B; replace p3 := p3.below B; replace p4 := p4.below B; replace HB := Lib.hid (bt HB.out B); clear B))
  refine hK.out _ _ ?_ (fun hHeld => ?_)
  · first | with_reducible exact ⟨(X1).cell0, (X1).cell1, (X2).cell0, (X2).cell1, (X3).cell0, (X3).cell1, (X4).cell0, (X4).cell1⟩ | with_reducible exact ⟨(X1).drew.cell0, (X1).drew.cell1, (X2).drew.cell0, (X2).drew.cell1, (X3).drew.cell0, (X3).drew.cell1, (X4).drew.cell0, (X4).drew.cell1⟩ | with_reducible exact ⟨(X1.below (bel1 _ _)).cell0, (X1.below (bel1 _ _)).cell1, (X2.below (bel1 _ _)).cell0, (X2.below (bel1 _ _)).cell1, (X3.below (bel1 _ _)).cell0, (X3.below (bel1 _ _)).cell1, (X4.below (bel1 _ _)).cell0, (X4.below (bel1 _ _)).cell1⟩ | with_reducible exact ⟨(X1.below (bel1 _ _)).drew.cell0, (X1.below (bel1 _ _)).drew.cell1, (X2.below (bel1 _ _)).drew.cell0, (X2.below (bel1 _ _)).drew.cell1, (X3.below (bel1 _ _)).drew.cell0, (X3.below (bel1 _ _)).drew.cell1, (X4.below (bel1 _ _)).drew.cell0, (X4.below (bel1 _ _)).drew.cell1⟩
  clear hK K
  try simp only [Act.put, List.setIfInBounds_toArray, List.set_cons_zero, List.set_cons_succ]
  refine wpAnyH_take (i := 8) (oi := ⟨some 64, _, _, _, _, _⟩) (v := ?v8) rfl (by kernel_rfl) (by kernel_rfl) (by kernel_rfl) (fun _ _ _ h => h) (Or.inl ⟨by rfl, ?hy8⟩) (by assumption) ?_
  case hy8 => (intro w hSw; (try dsimp only at hSw); go_simp; try with_reducible rfl)
  try simp only [Act.put, List.setIfInBounds_toArray, List.set_cons_zero, List.set_cons_succ]
  refine wpAnyH_take (i := 9) (oi := ⟨some 65, _, _, _, _, _⟩) (v := ?v9) rfl (by kernel_rfl) (by kernel_rfl) (by kernel_rfl) (fun _ _ _ h => h) (Or.inl ⟨by rfl, ?hy9⟩) (by assumption) ?_
  case hy9 => (intro w hSw; (try dsimp only at hSw); go_simp; try with_reducible rfl)
  try simp only [Act.put, List.setIfInBounds_toArray, List.set_cons_zero, List.set_cons_succ]
  refine wpAnyH_take (i := 10) (oi := ⟨some 66, _, _, _, _, _⟩) (v := ?v10) rfl (by kernel_rfl) (by kernel_rfl) (by kernel_rfl) (fun _ _ _ h => h) (Or.inl ⟨by rfl, ?hy10⟩) (by assumption) ?_
  case hy10 => (intro w hSw; (try dsimp only at hSw); go_simp; try with_reducible rfl)
  try simp only [Act.put, List.setIfInBounds_toArray, List.set_cons_zero, List.set_cons_succ]
  refine wpAnyH_take (i := 11) (oi := ⟨some 67, _, _, _, _, _⟩) (v := ?v11) rfl (by kernel_rfl) (by kernel_rfl) (by kernel_rfl) (fun _ _ _ h => h) (Or.inl ⟨by rfl, ?hy11⟩) (by assumption) ?_
  case hy11 => (intro w hSw; (try dsimp only at hSw); go_simp; try with_reducible rfl)
  try simp only [Act.put, List.setIfInBounds_toArray, List.set_cons_zero, List.set_cons_succ]
  refine wpAnyH_take (i := 12) (oi := ⟨some 68, _, _, _, _, _⟩) (v := undef) rfl (by kernel_rfl) (by kernel_rfl) (by kernel_rfl) (fun _ _ _ h => h) (Or.inr ⟨by rfl, rfl⟩) (by assumption) ?_
  try simp only [Act.put, List.setIfInBounds_toArray, List.set_cons_zero, List.set_cons_succ]
  refine wpAnyH_take (i := 13) (oi := ⟨some 69, _, _, _, _, _⟩) (v := undef) rfl (by kernel_rfl) (by kernel_rfl) (by kernel_rfl) (fun _ _ _ h => h) (Or.inr ⟨by rfl, rfl⟩) (by assumption) ?_
  try simp only [Act.put, List.setIfInBounds_toArray, List.set_cons_zero, List.set_cons_succ]
  refine wpAnyH_take (i := 14) (oi := ⟨some 70, _, _, _, _, _⟩) (v := undef) rfl (by kernel_rfl) (by kernel_rfl) (by kernel_rfl) (fun _ _ _ h => h) (Or.inr ⟨by rfl, rfl⟩) (by assumption) ?_
  try simp only [Act.put, List.setIfInBounds_toArray, List.set_cons_zero, List.set_cons_succ]
  refine wpAnyH_take (i := 15) (oi := ⟨some 71, _, _, _, _, _⟩) (v := undef) rfl (by kernel_rfl) (by kernel_rfl) (by kernel_rfl) (fun _ _ _ h => h) (Or.inr ⟨by rfl, rfl⟩) (by assumption) ?_
  try simp only [Act.put, List.setIfInBounds_toArray, List.set_cons_zero, List.set_cons_succ]
  refine wpAnyH_take (i := 16) (oi := ⟨some 72, _, _, _, _, _⟩) (v := ?v16) rfl (by kernel_rfl) (by kernel_rfl) (by kernel_rfl) (fun _ _ _ h => h) (Or.inl ⟨by rfl, ?hy16⟩) (by assumption) ?_
  case hy16 => (intro w hSw; (try dsimp only at hSw); go_simp; try with_reducible rfl)
  try simp only [Act.put, List.setIfInBounds_toArray, List.set_cons_zero, List.set_cons_succ]
  refine wpAnyH_take (i := 17) (oi := ⟨some 73, _, _, _, _, _⟩) (v := ?v17) rfl (by kernel_rfl) (by kernel_rfl) (by kernel_rfl) (fun _ _ _ h => h) (Or.inl ⟨by rfl, ?hy17⟩) (by assumption) ?_
  case hy17 => (intro w hSw; (try dsimp only at hSw); go_simp; try with_reducible rfl)
  try simp only [Act.put, List.setIfInBounds_toArray, List.set_cons_zero, List.set_cons_succ]
  refine wpAnyH_take (i := 18) (oi := ⟨some 74, _, _, _, _, _⟩) (v := ?v18) rfl (by kernel_rfl) (by kernel_rfl) (by kernel_rfl) (fun _ _ _ h => h) (Or.inl ⟨by rfl, ?hy18⟩) (by assumption) ?_
  case hy18 => (intro w hSw; (try dsimp only at hSw); go_simp; try with_reducible rfl)
  try simp only [Act.put, List.setIfInBounds_toArray, List.set_cons_zero, List.set_cons_succ]
  refine wpAnyH_take (i := 19) (oi := ⟨some 75, _, _, _, _, _⟩) (v := ?v19) rfl (by kernel_rfl) (by kernel_rfl) (by kernel_rfl) (fun _ _ _ h => h) (Or.inl ⟨by rfl, ?hy19⟩) (by assumption) ?_
  case hy19 => (intro w hSw; (try dsimp only at hSw); go_simp; try with_reducible rfl)
  try simp only [Act.put, List.setIfInBounds_toArray, List.set_cons_zero, List.set_cons_succ]
  refine wpAnyH_take (i := 20) (oi := ⟨some 76, _, _, _, _, _⟩) (v := ?v20) rfl (by kernel_rfl) (by kernel_rfl) (by kernel_rfl) (fun _ _ _ h => h) (Or.inl ⟨by rfl, ?hy20⟩) (by assumption) ?_
  case hy20 => (intro w hSw; (try dsimp only at hSw); go_simp; try with_reducible rfl)
  try simp only [Act.put, List.setIfInBounds_toArray, List.set_cons_zero, List.set_cons_succ]
  refine wpAnyH_take (i := 21) (oi := ⟨some 77, _, _, _, _, _⟩) (v := ?v21) rfl (by kernel_rfl) (by kernel_rfl) (by kernel_rfl) (fun _ _ _ h => h) (Or.inl ⟨by rfl, ?hy21⟩) (by assumption) ?_
  case hy21 => (intro w hSw; (try dsimp only at hSw); go_simp; try with_reducible rfl)
  try simp only [Act.put, List.setIfInBounds_toArray, List.set_cons_zero, List.set_cons_succ]
  refine wpAnyH_take (i := 22) (oi := ⟨some 78, _, _, _, _, _⟩) (v := undef) rfl (by kernel_rfl) (by kernel_rfl) (by kernel_rfl) (fun _ _ _ h => h) (Or.inr ⟨by rfl, rfl⟩) (by assumption) ?_
  try simp only [Act.put, List.setIfInBounds_toArray, List.set_cons_zero, List.set_cons_succ]
  refine wpAnyH_take (i := 23) (oi := ⟨some 79, _, _, _, _, _⟩) (v := undef) rfl (by kernel_rfl) (by kernel_rfl) (by kernel_rfl) (fun _ _ _ h => h) (Or.inr ⟨by rfl, rfl⟩) (by assumption) ?_
  try simp only [Act.put, List.setIfInBounds_toArray, List.set_cons_zero, List.set_cons_succ]
  refine wpAnyH_take (i := 24) (oi := ⟨some 80, _, _, _, _, _⟩) (v := undef) rfl (by kernel_rfl) (by kernel_rfl) (by kernel_rfl) (fun _ _ _ h => h) (Or.inr ⟨by rfl, rfl⟩) (by assumption) ?_
  try simp only [Act.put, List.setIfInBounds_toArray, List.set_cons_zero, List.set_cons_succ]
  refine wpAnyH_take (i := 25) (oi := ⟨some 81, _, _, _, _, _⟩) (v := undef) rfl (by kernel_rfl) (by kernel_rfl) (by kernel_rfl) (fun _ _ _ h => h) (Or.inr ⟨by rfl, rfl⟩) (by assumption) ?_
  try simp only [Act.put, List.setIfInBounds_toArray, List.set_cons_zero, List.set_cons_succ]
  refine wpAnyH_take (i := 26) (oi := ⟨some 82, _, _, _, _, _⟩) (v := ?v26) rfl (by kernel_rfl) (by kernel_rfl) (by kernel_rfl) (fun _ _ _ h => h) (Or.inl ⟨by rfl, ?hy26⟩) (by assumption) ?_
  case hy26 => (intro w hSw; (try dsimp only at hSw); go_simp; try with_reducible rfl)
  try simp only [Act.put, List.setIfInBounds_toArray, List.set_cons_zero, List.set_cons_succ]
  refine wpAnyH_take (i := 27) (oi := ⟨some 83, _, _, _, _, _⟩) (v := ?v27) rfl (by kernel_rfl) (by kernel_rfl) (by kernel_rfl) (fun _ _ _ h => h) (Or.inl ⟨by rfl, ?hy27⟩) (by assumption) ?_
  case hy27 => (intro w hSw; (try dsimp only at hSw); go_simp; try with_reducible rfl)
  try simp only [Act.put, List.setIfInBounds_toArray, List.set_cons_zero, List.set_cons_succ]
  refine wpAnyH_take (i := 28) (oi := ⟨some 4, _, _, _, _, _⟩) (v := ?v28) rfl (by kernel_rfl) (by kernel_rfl) (by kernel_rfl) (fun _ _ _ h => h) (Or.inl ⟨by rfl, ?hy28⟩) (by assumption) ?_
  case hy28 => (intro w hSw; (try dsimp only at hSw); go_simp; try with_reducible rfl)
  try simp only [Act.put, List.setIfInBounds_toArray, List.set_cons_zero, List.set_cons_succ]
  refine wpAnyH_done (by kernel_rfl) ?_ _
  refine NoPanic.normal ?_
  all_goals
    go_wp2
    go_ret
    exact ⟨rfl, HB.out⟩

set_option maxRecDepth 100000 in
set_option maxHeartbeats 8000000 in
theorem wholeBack_left (s0 : Bool) (a0 : Option Addr) (len0 cap0 : Nat) (s1 : Bool) (a1 : Option Addr) (len1 cap1 : Nat) (w : World) (x y q r κ σ : Int) (h0 : Wr w s0 a0 len0 cap0 x) (h1 : Wr w s1 a1 len1 cap1 y) (k0 : len0 ≤ 40) (k1 : len1 ≤ 40) (hy : y ≠ 0) (HQ : Hid (x.fdiv y = q)) (HR : Hid (x.fmod y = r))
    (HM : Hid (decide (1 * q * y + r = x) = true)) (HK : Hid (cmpI r y = κ)) (HS : Hid (cmpI r 0 = σ)) (HT : Hid (cmpI y 0 = σ)) (hσ : (σ == 0) = false) (b1 : -1 ≤ σ) (b2 : σ ≤ 1) (hκ : (κ == -σ) = true) :
    Calls Try.prog 6 #[.agg #[.bool s0, .slice a0 len0 cap0], .agg #[.bool s1, .slice a1 len1 cap1]] w (PB w true) := by
  have hσσ : (σ == σ) = true := by simp
  have hκw : (κ == IntKind.i64.wrap (-σ)) = true := by rw [IntWalk.i64_in _ (by omega)]; exact hκ
  have HP : Hid (prd [q, y] = 1 * q * y) := Lib.hid rfl
  go_enter Try.func6, Try.ntmps6
  go_wp2_with fail
  obtain ⟨X1, X2, B0⟩ := box2 w s0 s1 a0 a1 len0 cap0 len1 cap1 rfl
  have HB := Lib.hid B0
  replace h0 := h0.below B0
  replace h1 := h1.below B0
  clear B0
  refine (awake_any _).mono ?_
  rintro e w1 ⟨rfl, B⟩
  replace X1 := X1.below B
  replace X2 := X2.below B
  replace h0 := h0.below B
  replace h1 := h1.below B
  replace HB := Lib.hid (bt HB.out B)
  clear B
  have xX10 := X1.cell0
  have xX11 := X1.cell1
  have xX20 := X2.cell0
  have xX21 := X2.cell1
  go_wp2_with fail
  refine (few_yes _ _ _ _ _ k0).mono ?_
  rintro e w2 ⟨rfl, B⟩
  clear xX10 xX11 xX20 xX21
  replace X1 := X1.below B
  replace X2 := X2.below B
  replace h0 := h0.below B
  replace h1 := h1.below B
  replace HB := Lib.hid (bt HB.out B)
  clear B
  have xX10 := X1.cell0
  have xX11 := X1.cell1
  have xX20 := X2.cell0
  have xX21 := X2.cell1
  go_wp2_with fail
  refine (few_yes _ _ _ _ _ k1).mono ?_
  rintro e w3 ⟨rfl, B⟩
  clear xX10 xX11 xX20 xX21
  replace X1 := X1.below B
  replace X2 := X2.below B
  replace h0 := h0.below B
  replace h1 := h1.below B
  replace HB := Lib.hid (bt HB.out B)
  clear B
  have xX10 := X1.cell0
  have xX11 := X1.cell1
  have xX20 := X2.cell0
  have xX21 := X2.cell1
  go_wp2_with fail
  refine (wDiv h0 h1 (by omega) (by omega) hy HQ.out HR.out).mono ?_
  rintro e w4 ⟨s3, A3, n3, c3, s4, A4, n4, c4, rfl, p3, p4, j3, j4, B⟩
  clear xX10 xX11 xX20 xX21
  have X3a := Bx.new w4 s3 A3 n3 c3
  have X3 := X3a.below (bel1 _ (.cells #[.bool s4, .slice A4 n4 c4] 24))
  clear X3a
  have X4a := Bx.newAt (w4.alloc (.cells #[.bool s3, .slice A3 n3 c3] 24)) (g := w4.heap.size + 1) (by simp) s4 A4 n4 c4
  have X4 := X4a
  clear X4a
  replace p3 := p3.below (bel2 _ (.cells #[.bool s3, .slice A3 n3 c3] 24) (.cells #[.bool s4, .slice A4 n4 c4] 24))
  replace p4 := p4.below (bel2 _ (.cells #[.bool s3, .slice A3 n3 c3] 24) (.cells #[.bool s4, .slice A4 n4 c4] 24))
  replace B := bt B (bel2 _ (.cells #[.bool s3, .slice A3 n3 c3] 24) (.cells #[.bool s4, .slice A4 n4 c4] 24))
  replace X1 := X1.below B
  replace X2 := X2.below B
  replace h0 := h0.below B
  replace h1 := h1.below B
  replace HB := Lib.hid (bt HB.out B)
  clear B
  have xX10 := X1.cell0
  have xX11 := X1.cell1
  have xX20 := X2.cell0
  have xX21 := X2.cell1
  have xX30 := X3.cell0
  have xX31 := X3.cell1
  have xX40 := X4.cell0
  have xX41 := X4.cell1
  go_wp2_with fail
  refine (wSign p4.wr HS.out).mono ?_
  rintro e w5 ⟨rfl, B⟩
  clear xX10 xX11 xX20 xX21 xX30 xX31 xX40 xX41
  replace X1 := X1.below B
  replace X2 := X2.below B
  replace X3 := X3.below B
  replace X4 := X4.below B
  replace h0 := h0.below B
  replace h1 := h1.below B
  replace p3 := p3.below B
  replace p4 := p4.below B
  replace HB := Lib.hid (bt HB.out B)
  clear B
  have xX10 := X1.cell0
  have xX11 := X1.cell1
  have xX20 := X2.cell0
  have xX21 := X2.cell1
  have xX30 := X3.cell0
  have xX31 := X3.cell1
  have xX40 := X4.cell0
  have xX41 := X4.cell1
  go_wp2_with fail
  refine (wCmp p4.wr h1 HK.out).mono ?_
  rintro e w6 ⟨rfl, B⟩
  clear xX10 xX11 xX20 xX21 xX30 xX31 xX40 xX41
  replace X1 := X1.below B
  replace X2 := X2.below B
  replace X3 := X3.below B
  replace X4 := X4.below B
  replace h0 := h0.below B
  replace h1 := h1.below B
  replace p3 := p3.below B
  replace p4 := p4.below B
  replace HB := Lib.hid (bt HB.out B)
  clear B
  have xX10 := X1.cell0
  have xX11 := X1.cell1
  have xX20 := X2.cell0
  have xX21 := X2.cell1
  have xX30 := X3.cell0
  have xX31 := X3.cell1
  have xX40 := X4.cell0
  have xX41 := X4.cell1
  clear xX10 xX11 xX20 xX21 xX30 xX31 xX40 xX41
  go_wp2
  go_region_held3 (fun w' => w'.cell? ⟨w.heap.size, 0, none⟩ = some (.bool s0) ∧ w'.cell? ⟨w.heap.size, 1, none⟩ = some (.slice a0 len0 cap0) ∧ w'.cell? ⟨w.heap.size + 1, 0, none⟩ = some (.bool s1) ∧ w'.cell? ⟨w.heap.size + 1, 1, none⟩ = some (.slice a1 len1 cap1) ∧ w'.cell? ⟨w4.heap.size, 0, none⟩ = some (.bool s3) ∧ w'.cell? ⟨w4.heap.size, 1, none⟩ = some (.slice A3 n3 c3) ∧ w'.cell? ⟨w4.heap.size + 1, 0, none⟩ = some (.bool s4) ∧ w'.cell? ⟨w4.heap.size + 1, 1, none⟩ = some (.slice A4 n4 c4)) (first | with_reducible exact ⟨(X1).cell0, (X1).cell1, (X2).cell0, (X2).cell1, (X3).cell0, (X3).cell1, (X4).cell0, (X4).cell1⟩ | with_reducible exact ⟨(X1).drew.cell0, (X1).drew.cell1, (X2).drew.cell0, (X2).drew.cell1, (X3).drew.cell0, (X3).drew.cell1, (X4).drew.cell0, (X4).drew.cell1⟩ | with_reducible exact ⟨(X1.below (bel1 _ _)).cell0, (X1.below (bel1 _ _)).cell1, (X2.below (bel1 _ _)).cell0, (X2.below (bel1 _ _)).cell1, (X3.below (bel1 _ _)).cell0, (X3.below (bel1 _ _)).cell1, (X4.below (bel1 _ _)).cell0, (X4.below (bel1 _ _)).cell1⟩ | with_reducible exact ⟨(X1.below (bel1 _ _)).drew.cell0, (X1.below (bel1 _ _)).drew.cell1, (X2.below (bel1 _ _)).drew.cell0, (X2.below (bel1 _ _)).drew.cell1, (X3.below (bel1 _ _)).drew.cell0, (X3.below (bel1 _ _)).drew.cell1, (X4.below (bel1 _ _)).drew.cell0, (X4.below (bel1 _ _)).drew.cell1⟩)
    (first
      | (go_at_call 25; ((with_reducible refine (wMul (K := 100) (Wl.lit2 rfl p3.wr h1 (by omega) (by omega)).drew (by omega) HP.out).mono ?_); rintro e w7 ⟨s7, A7, n7, c7, rfl, p7, j7, B⟩; replace B := bt ((bel1 _ _).drew) B; replace X1 := X1.below B; replace X2 := X2.below B; replace X3 := X3.below B; replace X4 := X4.below B; replace h0 := h0.below B; replace h1 := h1.below B; replace p3 := p3.below B; replace p4 := p4.below B; replace HB := Lib.hid (bt HB.out B); clear B))
      | (go_at_call 12; ((with_reducible refine (wAdd p7.wr p4.wr (by omega) (by omega) rfl).mono ?_); rintro e w8 ⟨s8, A8, n8, c8, rfl, p8, j8, B⟩; replace X1 := X1.below B; replace X2 := X2.below B; replace X3 := X3.below B; replace X4 := X4.below B; replace h0 := h0.below B; replace h1 := h1.below B; replace p3 := p3.below B; replace p4 := p4.below B; replace HB := Lib.hid (bt HB.out B); clear B))
      | (go_at_call 20; ((with_reducible refine (wSame p8.wr h0 HM.out).mono ?_); rintro e w9 ⟨rfl, B⟩; replace X1 := X1.below B; replace X2 := X2.below B; replace X3 := X3.below B; replace X4 := X4.below B; replace h0 := h0.below B; replace h1 := h1.below B; replace p3 := p3.below B; replace p4 := p4.below B; replace HB := Lib.hid (bt HB.out B); clear B))
      | (go_at_call 21; ((with_reducible refine (wSign h1 HT.out).mono ?_); rintro e w10 ⟨rfl, B⟩; replace X1 := X1.below B; replace X2 := X2.below B; replace X3 := X3.below B; replace X4 := X4.below B; replace h0 := h0.below B; replace h1 := h1.below B; replace p3 := p3.below B; replace p4 := p4.below B; replace HB := Lib.hid (bt HB.out B); clear B)))
  go_wp2
  go_ret
  exact ⟨rfl, HB.out⟩

set_option maxHeartbeats 2000000 in
theorem wholeBack_far (s0 : Bool) (a0 : Option Addr) (len0 cap0 : Nat) (s1 : Bool) (a1 : Option Addr) (len1 cap1 : Nat) (w : World) (hf : ¬ (len0 ≤ 40 ∧ len1 ≤ 40)) :
    Calls Try.prog 6 #[.agg #[.bool s0, .slice a0 len0 cap0], .agg #[.bool s1, .slice a1 len1 cap1]] w (PB w true) := by
  by_cases k0 : len0 ≤ 40
  · have k1 : ¬ len1 ≤ 40 := fun h => hf ⟨k0, h⟩
    clear hf
    go_enter Try.func6, Try.ntmps6
    go_wp2_with fail
    obtain ⟨X1, X2, B0⟩ := box2 w s0 s1 a0 a1 len0 cap0 len1 cap1 rfl
    have HB := Lib.hid B0
    clear B0
    refine (awake_any _).mono ?_
    rintro e w1 ⟨rfl, B⟩
    replace X1 := X1.below B
    replace X2 := X2.below B
    replace HB := Lib.hid (bt HB.out B)
    clear B
    have xX10 := X1.cell0
    have xX11 := X1.cell1
    have xX20 := X2.cell0
    have xX21 := X2.cell1
    go_wp2_with fail
    refine (few_yes _ _ _ _ _ k0).mono ?_
    rintro e w2 ⟨rfl, B⟩
    clear xX10 xX11 xX20 xX21
    replace X1 := X1.below B
    replace X2 := X2.below B
    replace HB := Lib.hid (bt HB.out B)
    clear B
    have xX10 := X1.cell0
    have xX11 := X1.cell1
    have xX20 := X2.cell0
    have xX21 := X2.cell1
    go_wp2_with fail
    refine (few_no _ _ _ _ _ k1).mono ?_
    rintro e w3 ⟨rfl, B⟩
    clear xX10 xX11 xX20 xX21
    replace X1 := X1.below B
    replace X2 := X2.below B
    replace HB := Lib.hid (bt HB.out B)
    clear B
    have xX10 := X1.cell0
    have xX11 := X1.cell1
    have xX20 := X2.cell0
    have xX21 := X2.cell1
    go_wp2
    go_ret
    exact ⟨rfl, HB.out⟩
  · clear hf
    go_enter Try.func6, Try.ntmps6
    go_wp2_with fail
    obtain ⟨X1, X2, B0⟩ := box2 w s0 s1 a0 a1 len0 cap0 len1 cap1 rfl
    have HB := Lib.hid B0
    clear B0
    refine (awake_any _).mono ?_
    rintro e w1 ⟨rfl, B⟩
    replace X1 := X1.below B
    replace X2 := X2.below B
    replace HB := Lib.hid (bt HB.out B)
    clear B
    have xX10 := X1.cell0
    have xX11 := X1.cell1
    have xX20 := X2.cell0
    have xX21 := X2.cell1
    go_wp2_with fail
    refine (few_no _ _ _ _ _ k0).mono ?_
    rintro e w2 ⟨rfl, B⟩
    clear xX10 xX11 xX20 xX21
    replace X1 := X1.below B
    replace X2 := X2.below B
    replace HB := Lib.hid (bt HB.out B)
    clear B
    have xX10 := X1.cell0
    have xX11 := X1.cell1
    have xX20 := X2.cell0
    have xX21 := X2.cell1
    by_cases k1 : len1 ≤ 40
    · go_wp2_with fail
      refine (few_yes _ _ _ _ _ k1).mono ?_
      rintro e w3 ⟨rfl, B⟩
      clear xX10 xX11 xX20 xX21
      replace X1 := X1.below B
      replace X2 := X2.below B
      replace HB := Lib.hid (bt HB.out B)
      clear B
      have xX10 := X1.cell0
      have xX11 := X1.cell1
      have xX20 := X2.cell0
      have xX21 := X2.cell1
      go_wp2
      go_ret
      exact ⟨rfl, HB.out⟩
    · go_wp2_with fail
      refine (few_no _ _ _ _ _ k1).mono ?_
      rintro e w3 ⟨rfl, B⟩
      clear xX10 xX11 xX20 xX21
      replace X1 := X1.below B
      replace X2 := X2.below B
      replace HB := Lib.hid (bt HB.out B)
      clear B
      have xX10 := X1.cell0
      have xX11 := X1.cell1
      have xX20 := X2.cell0
      have xX21 := X2.cell1
      go_wp2
      go_ret
      exact ⟨rfl, HB.out⟩

theorem wholeBack_walk (s0 : Bool) (a0 : Option Addr) (len0 cap0 : Nat) (z0 : List Int) (s1 : Bool) (a1 : Option Addr) (len1 cap1 : Nat) (z1 : List Int) (w : World) (w0 : RowIn w a0 len0 cap0 z0) (w1 : RowIn w a1 len1 cap1 z1) :
    Calls Try.prog 6 #[.agg #[.bool s0, .slice a0 len0 cap0], .agg #[.bool s1, .slice a1 len1 cap1]] w fun e w' => e = .returned (.bool true) ∧ Below w.heap.size w w' := by
  by_cases hf : len0 ≤ 40 ∧ len1 ≤ 40
  · obtain ⟨u, r0⟩ := w0.rd (by omega)
    obtain ⟨v, r1⟩ := w1.rd (by omega)
    have h0 := r0.wr s0
    have h1 := r1.wr s1
    revert h0 h1
    generalize sg s0 u = x
    generalize sg s1 v = y
    intro h0 h1
    by_cases hy : y = 0
    · subst hy
      exact wholeBack_zero s0 a0 len0 cap0 s1 a1 len1 cap1 w x h0 h1 hf.1 hf.2
    · have hM : 1 * x.fdiv y * y + x.fmod y = x := by rw [Int.one_mul]; exact Int.fdiv_mul_add_fmod x y
      by_cases hz : x.fmod y = 0
      · exact wholeBack_none s0 a0 len0 cap0 s1 a1 len1 cap1 w x y _ _ _ 0 h0 h1 hf.1 hf.2 hy (Lib.hid rfl) (Lib.hid rfl) (Lib.hid (decide_eq_true hM)) (Lib.hid rfl) (Lib.hid (cmpI_eq hz)) rfl
      · rcases Int.lt_or_gt_of_ne hy with hn | hp
        · obtain ⟨_, hb1, hb2⟩ := (Int.fdiv_fmod_unique' (a := x) (q := x.fdiv y) (r := x.fmod y) hn).1 ⟨rfl, rfl⟩
          exact wholeBack_left s0 a0 len0 cap0 s1 a1 len1 cap1 w x y _ _ 1 (-1) h0 h1 hf.1 hf.2 hy (Lib.hid rfl) (Lib.hid rfl) (Lib.hid (decide_eq_true hM)) (Lib.hid (cmpI_gt hb1)) (Lib.hid (cmpI_lt (by omega))) (Lib.hid (cmpI_lt hn)) rfl (by omega) (by omega) rfl
        · obtain ⟨_, hb1, hb2⟩ := (Int.fdiv_fmod_unique (a := x) (q := x.fdiv y) (r := x.fmod y) hp).1 ⟨rfl, rfl⟩
          exact wholeBack_left s0 a0 len0 cap0 s1 a1 len1 cap1 w x y _ _ (-1) 1 h0 h1 hf.1 hf.2 hy (Lib.hid rfl) (Lib.hid rfl) (Lib.hid (decide_eq_true hM)) (Lib.hid (cmpI_lt hb2)) (Lib.hid (cmpI_gt (by omega))) (Lib.hid (cmpI_gt hp)) rfl (by omega) (by omega) rfl
  · exact wholeBack_far s0 a0 len0 cap0 s1 a1 len1 cap1 w hf
end Go.Proofs.Ytbendmhcimadpaa

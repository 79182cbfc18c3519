/-
 Contracts that the proof rests on.
-/
import Derived.IntWalk
import Derived.Test.YtnbliijpjcmbjaaGreatDoorYPai
namespace Go.Proofs.YtnbliijpjcmbjaaGreatDoor
open Go.RowKit
set_option linter.unusedVariables false
theorem sg_cases (s : Bool) (a : Nat) : (a = 0 ∧ cmpI (sg s a) 0 = 0) ∨ (0 < a ∧ s = true ∧ cmpI (sg s a) 0 = -1) ∨ (0 < a ∧ s = false ∧ cmpI (sg s a) 0 = 1) := by
 rcases Nat.eq_zero_or_pos a with e | e
 · subst e; exact .inl ⟨rfl, by rw [sg_zero]; exact cmpI_eq rfl⟩
 · cases s
   · exact .inr (.inr ⟨e, rfl, cmpI_gt (by simp [sg]; omega)⟩)
   · exact .inr (.inl ⟨e, rfl, cmpI_lt (by simp [sg]; omega)⟩)
set_option maxHeartbeats 400000 in
theorem wSign {w : World} {A : Option Addr} {n c : Nat} {s : Bool} {x r : Int} (h : Wr w s A n c x) (hr : cmpI x 0 = r) : Calls Tryz.prog 185 #[.agg #[.bool s, .slice A n c]] w (PI w r) := by
 obtain ⟨a, h, e1⟩ := h; subst e1
 have hb : blen a ≤ 35184372088832 := by have := h.blen_le; have := h.big; omega
 rcases sg_cases s a with ⟨rfl, e⟩ | ⟨ha, rfl, e⟩ | ⟨ha, rfl, e⟩
 · rw [e] at hr; subst hr; clear e hb
   go_enter Tryz.func185, Tryz.ntmps185
   go_wp2_with (first
     | (go_at_call 159; ((with_reducible refine (vLenE (z := 0) (h.below (bel1 _ _)) rfl).mono ?_); rintro e w1 ⟨rfl, B1⟩)))
   go_ret
   exact ⟨rfl, bt (bel1 _ _) B1⟩
 all_goals
   rw [e] at hr; subst hr
   have hz : ((blen a : Nat) : Int) ≠ 0 := by have := blen_eq_zero (a := a); omega
   have hq : (((blen a : Nat) : Int) == 0) = false := by simpa using hz
   clear e hz
   go_enter Tryz.func185, Tryz.ntmps185
   go_wp2_with (first
     | (go_at_call 159; ((with_reducible refine (vLen (h.below (bel1 _ _))).mono ?_); rintro e w1 ⟨rfl, B1⟩; obtain ⟨hc, hf⟩ := bcell B1)))
   go_ret
   exact ⟨rfl, bt (bel1 _ _) B1⟩
theorem cmpI_zero {x y : Int} : cmpI x y = 0 ↔ x = y := by unfold cmpI; split <;> (try split) <;> omega
theorem two_rd (W : World) {g k : Nat} {X Y : Int} (hg : W.heap.size = g) (hX : X = ((k % 4294967296 : Nat) : Int)) (hY : Y = ((k / 4294967296 : Nat) : Int)) (hk : k < 18446744073709551616) :
   Rd (W.alloc (.cells #[.int .u32 X, .int .u32 Y] 104)) (some ⟨g, 0, none⟩) 2 2 k := by
 subst hg; subst hX; subst hY; exact ⟨_, _, lit2 W _ _ (Nat.mod_lt _ (by decide)) (by omega), by simp [val]; omega⟩
theorem sg_mul (s t : Bool) (a b : Nat) : sg (s != t) (a * b) = sg s a * sg t b := by
 cases s <;> cases t <;> simp [sg, Int.neg_mul, Int.mul_neg]
theorem val_int {k : IntKind} {a b : Int} (h : a = b) : Value.int k a = .int k b := by rw [h]
end Go.Proofs.YtnbliijpjcmbjaaGreatDoor

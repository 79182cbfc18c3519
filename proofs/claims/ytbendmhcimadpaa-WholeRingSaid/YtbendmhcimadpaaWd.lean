/-
  What whole.From does, for every number of 64 bits.
-/
import Derived.Test.YtbendmhcimadpaaWa
import Derived.IntWalk
namespace Go.Proofs.Ytbendmhcimadpaa
open Go.RowKit
set_option linter.unusedVariables false

theorem two_rd (W : World) {g k : Nat} {X Y : Int} (hg : W.heap.size = g) (hX : X = ((k % 4294967296 : Nat) : Int)) (hY : Y = ((k / 4294967296 : Nat) : Int)) (hk : k < 18446744073709551616) :
    Rd (W.alloc (.cells #[.int .u32 X, .int .u32 Y] 54)) (some ⟨g, 0, none⟩) 2 2 k := by
  subst hg; subst hX; subst hY
  exact ⟨_, _, lit2 W _ _ (Nat.mod_lt _ (by decide)) (by omega), by simp [val]; omega⟩
theorem u64_negneg (k : Nat) (h : k ≤ 9223372036854775808) : IntKind.u64.wrap (-IntKind.u64.wrap (-(k : Int))) = k := by
  simp [IntKind.wrap, IntKind.signed, IntKind.bits]
  omega

set_option maxHeartbeats 400000 in
theorem from_pos (k : Nat) (w : World) (h : k < 9223372036854775808) : Calls Try.prog 30 #[.int .i64 (k : Int)] w (W1 w 2 (k : Int)) := by
  have hd : decide ((k : Int) < 0) = false := by simp
  go_enter Try.func30, Try.ntmps30
  go_wp2_with (first
    | (go_at_call 27; ((with_reducible refine (wMake false (two_rd _ (by simp) (k := k) (by omega) (by omega) (by omega))).mono ?_); rintro e w2 ⟨s2, A2, n2, c2, rfl, h2, k2, B2⟩; obtain ⟨hc, hf⟩ := bcell B2)))
  have X : Bx w2 w.heap.size false none 0 0 := ((Bx.new w false none 0 0).below (bel1 _ _)).below B2
  exact bodyPost_ret (v := .agg #[.bool s2, .slice A2 n2 c2]) (by simp [results, Try.results30, go_sem, X.cell0, X.cell1]) rfl ⟨s2, A2, n2, c2, rfl, h2.st X _ _, by omega, st2 (bt (bel2 _ _ _) B2) (Nat.le_refl _) _ _⟩
set_option maxHeartbeats 400000 in
theorem from_neg (k : Nat) (w : World) (h : k ≤ 9223372036854775808) (h0 : 0 < k) : Calls Try.prog 30 #[.int .i64 (-(k : Int))] w (W1 w 2 (-(k : Int))) := by
  have hlt : -(k : Int) < 0 := by omega
  have hw := u64_negneg k h
  go_enter Try.func30, Try.ntmps30
  go_wp2_with (first
    | (go_at_call 27; ((with_reducible refine (wMake true (two_rd _ (by simp) (k := k) (by clear hw; omega) (by clear hw; omega) (by clear hw; omega))).mono ?_); rintro e w2 ⟨s2, A2, n2, c2, rfl, h2, k2, B2⟩; obtain ⟨hc, hf⟩ := bcell B2)))
  have X : Bx w2 w.heap.size false none 0 0 := ((Bx.new w false none 0 0).below (bel1 _ _)).below B2
  exact bodyPost_ret (v := .agg #[.bool s2, .slice A2 n2 c2]) (by simp [results, Try.results30, go_sem, X.cell0, X.cell1]) rfl ⟨s2, A2, n2, c2, rfl, h2.st X _ _, by omega, st2 (bt (bel2 _ _ _) B2) (Nat.le_refl _) _ _⟩
theorem wFrom (z : Int) (w : World) (h1 : -9223372036854775808 ≤ z) (h2 : z ≤ 9223372036854775807) : Calls Try.prog 30 #[.int .i64 z] w (W1 w 2 z) := by
  rcases Int.lt_or_le z 0 with h | h
  · have := from_neg z.natAbs w (by omega) (by omega)
    rwa [show -((z.natAbs : Nat) : Int) = z by omega] at this
  · have := from_pos z.natAbs w (by omega)
    rwa [show ((z.natAbs : Nat) : Int) = z by omega] at this
end Go.Proofs.Ytbendmhcimadpaa

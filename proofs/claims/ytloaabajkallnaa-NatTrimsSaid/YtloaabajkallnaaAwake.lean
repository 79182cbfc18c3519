/-
  The chapter's examples, and the test of lengths, that every statement of layer 1 begins with.
-/
import Derived.Test.YtloaabajkallnaaRoot
namespace Go.Proofs.Ytloaabajkallnaa
open Go.RowKit
set_option linter.unusedVariables false

theorem limbs_small {n : Nat} (h0 : n ≠ 0) (h : n < 4294967296) : limbs n = [n] := by
  rw [limbs_pos h0, show n / 4294967296 = 0 by omega, limbs_zero, Nat.mod_eq_of_lt h]
theorem limbs_b : limbs 4294967296 = [0, 1] := by
  rw [limbs_pos (by decide), show 4294967296 / 4294967296 = 1 by decide, limbs_small (by decide) (by decide)]
theorem rt_ten : rt 10 = 3 := by decide

/-- The first example. -/
theorem awake_add (w : World) : Calls Try.prog 17 #[.slice (some ⟨w.heap.size, 0, none⟩) 1 1, .slice (some ⟨w.heap.size + 1, 0, none⟩) 1 1] ((w.alloc (.cells #[.int .u32 4294967295] 36)).alloc (.cells #[.int .u32 1] 36)) fun e w' =>
    ∃ b A c, e = .returned (.slice A 2 c) ∧ Sl w' b A 2 c [0, 1] ∧ Below w.heap.size w w' := by
  have s1 := (lit1 w 4294967295 (by decide)).below (alloc_below _ (.cells #[.int .u32 1] 36))
  have s2 := lit1 (w.alloc (.cells #[.int .u32 4294967295] 36)) 1 (by decide)
  have hb := (alloc_below w (.cells #[.int .u32 4294967295] 36)).alloc (by simp) (.cells #[.int .u32 1] 36)
  rw [show (w.alloc (.cells #[.int .u32 4294967295] 36)).heap.size = w.heap.size + 1 by simp] at s2
  refine (add_any _ _ _ _ _ 1 1 1 1 [4294967295] [1] s1 s2 (by decide) (by decide)).mono ?_
  rintro e w' ⟨g, A, c, rfl, hm, hb2⟩
  have e1 : limbs (val [4294967295] + val [1]) = [0, 1] := limbs_b
  rw [e1] at hm ⊢
  exact ⟨g, A, c, rfl, hm.1, hb.trans (hb2.mono hb.size)⟩

theorem awake_div (w : World) : Calls Try.prog 27 #[.slice (some ⟨w.heap.size, 0, none⟩) 2 2, .slice (some ⟨w.heap.size + 1, 0, none⟩) 1 1] ((w.alloc (.cells #[.int .u32 0, .int .u32 1] 36)).alloc (.cells #[.int .u32 3] 36)) fun e w' =>
    ∃ b1 A1 c1 b2 A2 c2, e = .returned (.tuple #[.slice A1 1 c1, .slice A2 1 c2, .bool true]) ∧ Sl w' b1 A1 1 c1 [1431655765] ∧ Sl w' b2 A2 1 c2 [1] ∧ Below w.heap.size w w' := by
  have s1 := (lit2 w 0 1 (by decide) (by decide)).below (alloc_below _ (.cells #[.int .u32 3] 36))
  have s2 := lit1 (w.alloc (.cells #[.int .u32 0, .int .u32 1] 36)) 3 (by decide)
  have hb := (alloc_below w (.cells #[.int .u32 0, .int .u32 1] 36)).alloc (by simp) (.cells #[.int .u32 3] 36)
  rw [show (w.alloc (.cells #[.int .u32 0, .int .u32 1] 36)).heap.size = w.heap.size + 1 by simp] at s2
  refine (div_any _ _ _ _ _ 2 1 2 1 [0, 1] [3] s1 s2 (by decide) (by decide)).mono ?_
  rintro e w' ⟨A1, c1, A2, c2, rfl, ⟨b1, o1⟩, ⟨b2, o2⟩, hb2⟩
  have e1 : limbs (val [0, 1] / val [3]) = [1431655765] := limbs_small (by decide) (by decide)
  have e2 : limbs (val [0, 1] % val [3]) = [1] := limbs_small (by decide) (by decide)
  rw [e1] at o1 ⊢
  rw [e2] at o2 ⊢
  exact ⟨b1, A1, c1, b2, A2, c2, rfl, o1, o2, hb.trans (hb2.mono hb.size)⟩

theorem awake_root (w : World) : Calls Try.prog 33 #[.slice (some ⟨w.heap.size, 0, none⟩) 1 1] (w.alloc (.cells #[.int .u32 10] 36)) fun e w' =>
    ∃ b A c, e = .returned (.tuple #[.slice A 1 c, .bool false]) ∧ Sl w' b A 1 c [3] ∧ Below w.heap.size w w' := by
  have s1 := lit1 w 10 (by decide)
  have hb := alloc_below w (.cells #[.int .u32 10] 36)
  refine (root_any _ _ _ 1 1 [10] s1 (by decide)).mono ?_
  rintro e w' ⟨A, c, rfl, ⟨b, o⟩, hb2⟩
  have e0 : rt (val [10]) = 3 := rt_ten
  have e1 : limbs (rt (val [10])) = [3] := by rw [e0]; exact limbs_small (by decide) (by decide)
  rw [e1] at o ⊢
  rw [e0]
  exact ⟨b, A, c, rfl, o, hb.trans (hb2.mono hb.size)⟩

set_option maxHeartbeats 2000000 in
theorem awake_any (w : World) : Calls Try.prog 12 #[] w fun e w' => e = .returned (.bool true) ∧ Below w.heap.size w w' := by
  go_enter Try.func12, Try.ntmps12
  go_wp2_with (first
    | (go_at_call 17; ((with_reducible refine (awake_add w).mono ?_); rintro e w1 ⟨b1, A1, c1, rfl, s1, B1⟩))
    | (go_at_call 27; ((with_reducible refine (awake_div w1).mono ?_); rintro e w2 ⟨b2, A2, c2, b3, A3, c3, rfl, s2, s3, B2⟩))
    | (go_at_call 33; ((with_reducible refine (awake_root w2).mono ?_); rintro e w3 ⟨b4, A4, c4, rfl, s4, B3⟩; have s1' := (s1.below B2).below B3; have s2' := s2.below B3; have s3' := s3.below B3; have HB : Hid (Below w.heap.size w w3) := (B1.trans (B2.mono B1.size)).trans (B3.mono (Nat.le_trans B1.size B2.size)); obtain ⟨o1, rfl, k1⟩ := s1'.at (by decide); obtain ⟨o2, rfl, k2⟩ := s2'.at (by decide); obtain ⟨o3, rfl, k3⟩ := s3'.at (by decide); obtain ⟨o4, rfl, k4⟩ := s4.at (by decide); have h10 : w3.cell? ⟨b1, o1, none⟩ = some (.int .u32 0) := k1 0 (by decide); have h11 : w3.cell? ⟨b1, o1 + 1, none⟩ = some (.int .u32 1) := k1 1 (by decide); have h20 : w3.cell? ⟨b2, o2, none⟩ = some (.int .u32 1431655765) := k2 0 (by decide); have h30 : w3.cell? ⟨b3, o3, none⟩ = some (.int .u32 1) := k3 0 (by decide); have h40 : w3.cell? ⟨b4, o4, none⟩ = some (.int .u32 3) := k4 0 (by decide); clear k1 k2 k3 k4 s1' s2' s3' s1 s2 s3 s4 B1 B2 B3)))
  go_ret
  exact ⟨rfl, HB.out⟩
end Go.Proofs.Ytloaabajkallnaa

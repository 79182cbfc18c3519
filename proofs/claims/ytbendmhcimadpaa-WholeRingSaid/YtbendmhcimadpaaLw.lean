/-
  What every statement of layer 2 begins with: the chapter's examples, and the test of lengths.
-/
import Derived.Test.YtbendmhcimadpaaWb
import Derived.Test.YtbendmhcimadpaaWc
import Derived.Test.YtbendmhcimadpaaWd
import Derived.Test.YtbendmhcimadpaaWf
import Derived.Test.YtbendmhcimadpaaWg
import Derived.Test.YtbendmhcimadpaaWh
namespace Go.Proofs.Ytbendmhcimadpaa
open Go.RowKit
set_option linter.unusedVariables false

theorem Wl.lit3 {W : World} {g K : Nat} {s1 s2 s3 : Bool} {A1 A2 A3 : Option Addr} {n1 c1 n2 c2 n3 c3 : Nat} {z1 z2 z3 : Int} (hg : W.heap.size = g)
    (h1 : Wr W s1 A1 n1 c1 z1) (h2 : Wr W s2 A2 n2 c2 z2) (h3 : Wr W s3 A3 n3 c3 z3) (k1 : n1 ≤ K) (k2 : n2 ≤ K) (k3 : n3 ≤ K) :
    Wl (W.alloc (.cells #[.bool s1, .slice A1 n1 c1, .bool s2, .slice A2 n2 c2, .bool s3, .slice A3 n3 c3] 24)) (some ⟨g, 0, none⟩) 3 3 K [z1, z2, z3] := by
  subst hg
  have hh := heap_alloc_new W (.cells #[.bool s1, .slice A1 n1 c1, .bool s2, .slice A2 n2 c2, .bool s3, .slice A3 n3 c3] 24)
  refine ⟨rfl, Nat.le_refl _, by decide, fun _ => ⟨_, 0, rfl, fun k hk => ?_⟩⟩
  rcases (by omega : k = 0 ∨ k = 1 ∨ k = 2) with rfl | rfl | rfl
  · exact ⟨s1, A1, n1, c1, by rw [cell_of_row _ _ _ _ _ _ hh]; rfl, by rw [cell_of_row _ _ _ _ _ _ hh]; rfl, h1.below (bel1 _ _), k1⟩
  · exact ⟨s2, A2, n2, c2, by rw [cell_of_row _ _ _ _ _ _ hh]; rfl, by rw [cell_of_row _ _ _ _ _ _ hh]; rfl, h2.below (bel1 _ _), k2⟩
  · exact ⟨s3, A3, n3, c3, by rw [cell_of_row _ _ _ _ _ _ hh]; rfl, by rw [cell_of_row _ _ _ _ _ _ hh]; rfl, h3.below (bel1 _ _), k3⟩
theorem Wl.lit2 {W : World} {g K : Nat} {s1 s2 : Bool} {A1 A2 : Option Addr} {n1 c1 n2 c2 : Nat} {z1 z2 : Int} (hg : W.heap.size = g)
    (h1 : Wr W s1 A1 n1 c1 z1) (h2 : Wr W s2 A2 n2 c2 z2) (k1 : n1 ≤ K) (k2 : n2 ≤ K) :
    Wl (W.alloc (.cells #[.bool s1, .slice A1 n1 c1, .bool s2, .slice A2 n2 c2] 24)) (some ⟨g, 0, none⟩) 2 2 K [z1, z2] := by
  subst hg
  have hh := heap_alloc_new W (.cells #[.bool s1, .slice A1 n1 c1, .bool s2, .slice A2 n2 c2] 24)
  refine ⟨rfl, Nat.le_refl _, by decide, fun _ => ⟨_, 0, rfl, fun k hk => ?_⟩⟩
  rcases (by omega : k = 0 ∨ k = 1) with rfl | rfl
  · exact ⟨s1, A1, n1, c1, by rw [cell_of_row _ _ _ _ _ _ hh]; rfl, by rw [cell_of_row _ _ _ _ _ _ hh]; rfl, h1.below (bel1 _ _), k1⟩
  · exact ⟨s2, A2, n2, c2, by rw [cell_of_row _ _ _ _ _ _ hh]; rfl, by rw [cell_of_row _ _ _ _ _ _ hh]; rfl, h2.below (bel1 _ _), k2⟩

theorem Wl.drew {w : World} {A : Option Addr} {n c K : Nat} {zs : List Int} (h : Wl w A n c K zs) : Wl w.drew A n c K zs := h
/-- The two boxes that a function of two whole numbers begins with. -/
theorem box2 (w : World) (s t : Bool) (A B : Option Addr) (n c m d : Nat) {W : World} (hW : W = (w.alloc (.cells #[.bool s, .slice A n c] 24)).alloc (.cells #[.bool t, .slice B m d] 24)) :
    Bx W w.heap.size s A n c ∧ Bx W (w.heap.size + 1) t B m d ∧ Below w.heap.size w W := by
  subst hW
  exact ⟨(Bx.new w s A n c).below (bel1 _ _), Bx.newAt _ (by simp) t B m d, bel2 _ _ _⟩

set_option maxHeartbeats 400000 in
theorem few_yes (A : Option Addr) (s : Bool) (n c : Nat) (w : World) (hn : n ≤ 40) : Calls Try.prog 10 #[.agg #[.bool s, .slice A n c]] w (PB w true) := by
  have e1 : decide ((n : Int) ≤ 40) = true := by simp; omega
  go_enter Try.func10, Try.ntmps10
  go_wp2
  go_ret
  exact ⟨by first | rfl | simp [e1], bel1 _ _⟩
set_option maxHeartbeats 400000 in
theorem few_no (A : Option Addr) (s : Bool) (n c : Nat) (w : World) (hn : ¬ n ≤ 40) : Calls Try.prog 10 #[.agg #[.bool s, .slice A n c]] w (PB w false) := by
  have e1 : decide ((n : Int) ≤ 40) = false := by simp; omega
  go_enter Try.func10, Try.ntmps10
  go_wp2
  go_ret
  exact ⟨by first | rfl | simp [e1], bel1 _ _⟩

set_option maxHeartbeats 4000000 in
theorem awake_any (w : World) : Calls Try.prog 9 #[] w (PB w true) := by
  go_enter Try.func9, Try.ntmps9
  go_wp2_with fail
  refine (wFrom (-7) _ (by omega) (by omega)).mono ?_
  rintro e w1 ⟨s1, A1, n1, c1, rfl, h1, k1, B1⟩
  go_wp2_with fail
  refine (wFrom 2 _ (by omega) (by omega)).mono ?_
  rintro e w2 ⟨s2, A2, n2, c2, rfl, h2, k2, B2⟩
  replace h1 := h1.below B2
  have HB := Lib.hid (bt B1 B2)
  clear B1 B2
  go_wp2_with fail
  refine (wDiv (q := -4) (r := 1) h1.wr h2.wr (by omega) (by omega) (by decide) (by decide) (by decide)).mono ?_
  rintro e w3 ⟨s3, A3, n3, c3, s4, A4, n4, c4, rfl, h3, h4, k3, k4, B3⟩
  replace HB := Lib.hid (bt HB.out B3)
  clear B3 h1 h2
  go_wp2_with fail
  refine (wInt (z := -4) (r := -4) (t := true) (h3.below (bel2 _ _ _)).wr rfl rfl).mono ?_
  rintro e w4 ⟨rfl, B4⟩
  have X4 : Bx w4 (w3.heap.size + 1) s4 A4 n4 c4 := (Bx.newAt _ (by simp) s4 A4 n4 c4).below B4
  replace h4 := h4.below (bt (bel2 _ _ _) B4)
  replace HB := Lib.hid (bt HB.out (bt (bel2 _ _ _) B4))
  have x40 := X4.cell0
  have x41 := X4.cell1
  clear B4 h3
  go_wp2_with fail
  refine (wInt (z := 1) (r := 1) (t := true) h4.wr rfl rfl).mono ?_
  rintro e w5 ⟨rfl, B5⟩
  replace HB := Lib.hid (bt HB.out B5)
  clear x40 x41 X4 B5 h4
  go_wp2_with fail
  refine (wFrom 2 _ (by omega) (by omega)).mono ?_
  rintro e w6 ⟨s6, A6, n6, c6, rfl, h6, k6, B6⟩
  replace HB := Lib.hid (bt HB.out B6)
  clear B6
  go_wp2_with fail
  refine (wFrom (-3) _ (by omega) (by omega)).mono ?_
  rintro e w7 ⟨s7, A7, n7, c7, rfl, h7, k7, B7⟩
  replace h6 := h6.below B7
  replace HB := Lib.hid (bt HB.out B7)
  clear B7
  go_wp2_with fail
  refine (wFrom 4 _ (by omega) (by omega)).mono ?_
  rintro e w8 ⟨s8, A8, n8, c8, rfl, h8, k8, B8⟩
  replace h6 := h6.below B8
  replace h7 := h7.below B8
  replace HB := Lib.hid (bt HB.out B8)
  clear B8
  go_wp2_with fail
  refine (wMul (r := -24) (K := 2) (Wl.lit3 rfl h6.wr h7.wr h8.wr k6 k7 k8) (by decide) (by decide)).mono ?_
  rintro e w9 ⟨s9, A9, n9, c9, rfl, h9, k9, B9⟩
  replace HB := Lib.hid (bt HB.out (bt (bel1 _ _) B9))
  clear B9
  go_wp2_with fail
  refine (wInt (z := -24) (r := -24) (t := true) h9.wr rfl rfl).mono ?_
  rintro e w10 ⟨rfl, B10⟩
  replace HB := Lib.hid (bt HB.out B10)
  go_wp2
  go_ret
  exact ⟨rfl, HB.out⟩
end Go.Proofs.Ytbendmhcimadpaa

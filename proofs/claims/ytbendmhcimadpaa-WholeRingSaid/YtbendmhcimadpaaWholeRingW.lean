/-
  The walk of WholeRing: for all arguments, the call answers true, and nothing that was there has turned.
-/
import Derived.Test.YtbendmhcimadpaaLw
import Derived.Test.YtbendmhcimadpaaWe
import Derived.Test.YtbendmhcimadpaaRow
import Derived.Deep.RegionHeld3
import Derived.Deep.DeepCutAuto
namespace Go.Proofs.Ytbendmhcimadpaa
open Go.RowKit
set_option linter.unusedVariables false

/-- The three boxes that a function of three whole numbers begins with. -/
theorem boxes3 (w : World) (s t u : Bool) (A B C : Option Addr) (n c m d k e : Nat) {W : World} (hW : W = ((w.alloc (.cells #[.bool s, .slice A n c] 24)).alloc (.cells #[.bool t, .slice B m d] 24)).alloc (.cells #[.bool u, .slice C k e] 24)) :
    Bx W w.heap.size s A n c ∧ Bx W (w.heap.size + 1) t B m d ∧ Bx W (w.heap.size + 1 + 1) u C k e ∧ Below w.heap.size w W := by
  subst hW
  exact ⟨((Bx.new w s A n c).below (bel1 _ _)).below (bel1 _ _), (Bx.newAt _ (by simp) t B m d).below (bel1 _ _), Bx.newAt _ (by simp) u C k e, bel3 _ _ _ _⟩

/-- What stays through the walk: the three boxes, their numbers, and what lay below. -/
def REnv (w : World) (s0 : Bool) (a0 : Option Addr) (len0 cap0 : Nat) (s1 : Bool) (a1 : Option Addr) (len1 cap1 : Nat) (s2 : Bool) (a2 : Option Addr) (len2 cap2 : Nat) (x y z : Int) (wx : World) : Prop :=
  Bx wx w.heap.size s0 a0 len0 cap0 ∧ Bx wx (w.heap.size + 1) s1 a1 len1 cap1 ∧ Bx wx (w.heap.size + 1 + 1) s2 a2 len2 cap2 ∧ Wr wx s0 a0 len0 cap0 x ∧ Wr wx s1 a1 len1 cap1 y ∧ Wr wx s2 a2 len2 cap2 z ∧ Below w.heap.size w wx
/-- A variable that is a whole number. -/
def RVar (wx : World) (v : Value) (K : Nat) (z : Int) : Prop := ∃ g s A n c, v = .pointer (some ⟨g, 0, none⟩) ∧ Bx wx g s A n c ∧ Wn wx s A n c z ∧ n ≤ K
/-- A box that holds a number. -/
def RHas (wx : World) (g : Nat) (s : Bool) (A : Option Addr) (n c : Nat) (z : Int) : Prop := Bx wx g s A n c ∧ Wn wx s A n c z

set_option maxRecDepth 100000 in
set_option maxHeartbeats 8000000 in
theorem wholeRing_main (s0 : Bool) (a0 : Option Addr) (len0 cap0 : Nat) (s1 : Bool) (a1 : Option Addr) (len1 cap1 : Nat) (s2 : Bool) (a2 : Option Addr) (len2 cap2 : Nat) (w : World) (x y z : Int) (h0 : Wr w s0 a0 len0 cap0 x) (h1 : Wr w s1 a1 len1 cap1 y) (h2 : Wr w s2 a2 len2 cap2 z) (k0 : len0 ≤ 15) (k1 : len1 ≤ 15) (k2 : len2 ≤ 15) :
    Calls Try.prog 7 #[.agg #[.bool s0, .slice a0 len0 cap0], .agg #[.bool s1, .slice a1 len1 cap1], .agg #[.bool s2, .slice a2 len2 cap2]] w (PB w true) := by
  have t0 : decide ((15 : Int) < len0) = false := by simp; omega
  have t1 : decide ((15 : Int) < len1) = false := by simp; omega
  have t2 : decide ((15 : Int) < len2) = false := by simp; omega
  have HE1 : Hid (x + y + z = x + (z + y)) := Lib.hid (by omega)
  have HE2 : Hid (1 * x * (y + z) = 1 * x * y + 1 * z * x) := Lib.hid (by rw [Int.one_mul, Int.one_mul, Int.mul_add, Int.mul_comm z x])
  have HE3 : Hid (1 * x * y * z = 1 * z * (1 * y * x)) := Lib.hid (by rw [Int.one_mul, Int.one_mul, Int.one_mul, Int.mul_comm y x, Int.mul_comm z (x * y)])
  go_enter Try.func7, Try.ntmps7
  go_wp2_with fail
  obtain ⟨X1, X2, X3, B0⟩ := boxes3 w s0 s1 s2 a0 a1 a2 len0 cap0 len1 cap1 len2 cap2 rfl
  have HB := Lib.hid B0
  replace h0 := h0.below B0
  replace h1 := h1.below B0
  replace h2 := h2.below B0
  clear B0
  refine (awake_any _).mono ?_
  rintro e w1 ⟨rfl, B⟩
  replace X1 := X1.below B
  replace X2 := X2.below B
  replace X3 := X3.below B
  replace h0 := h0.below B
  replace h1 := h1.below B
  replace h2 := h2.below B
  replace HB := Lib.hid (bt HB.out B)
  clear B
  have xX10 := X1.cell0
  have xX11 := X1.cell1
  have xX20 := X2.cell0
  have xX21 := X2.cell1
  have xX30 := X3.cell0
  have xX31 := X3.cell1
  go_upto_region 4 with (fail)
  clear xX10 xX11 xX20 xX21 xX30 xX31
  go_cut [8] (fun v wx => REnv w s0 a0 len0 cap0 s1 a1 len1 cap1 s2 a2 len2 cap2 x y z wx ∧ RVar wx v 47 (x + y + z))
  case first =>
    refine wp_region_noPanic ?_
    refine wp_region_held_drew (S := (fun w' => w'.cell? ⟨w.heap.size, 0, none⟩ = some (.bool s0) ∧ w'.cell? ⟨w.heap.size, 1, none⟩ = some (.slice a0 len0 cap0) ∧ w'.cell? ⟨w.heap.size + 1, 0, none⟩ = some (.bool s1) ∧ w'.cell? ⟨w.heap.size + 1, 1, none⟩ = some (.slice a1 len1 cap1) ∧ w'.cell? ⟨w.heap.size + 1 + 1, 0, none⟩ = some (.bool s2) ∧ w'.cell? ⟨w.heap.size + 1 + 1, 1, none⟩ = some (.slice a2 len2 cap2))) (by kernel_rfl) ?_ (fun hHeld => ?_)
    · exact ⟨X1.drew.cell0, X1.drew.cell1, X2.drew.cell0, X2.drew.cell1, X3.drew.cell0, X3.drew.cell1⟩
    refine wpAnyH_take (i := 0) (oi := ⟨some 34, _, _, _, _, _⟩) (v := ?v1) rfl (by kernel_rfl) (by kernel_rfl) (by kernel_rfl) (fun _ _ _ h => h) (Or.inl ⟨by rfl, ?hy1⟩) (by assumption) ?_
    case hy1 => (intro w hSw; (try dsimp only at hSw); go_simp; try with_reducible rfl)
    try simp only [Act.put, List.setIfInBounds_toArray, List.set_cons_zero, List.set_cons_succ]
    refine wpAnyH_take (i := 1) (oi := ⟨some 35, _, _, _, _, _⟩) (v := ?v2) rfl (by kernel_rfl) (by kernel_rfl) (by kernel_rfl) (fun _ _ _ h => h) (Or.inl ⟨by rfl, ?hy2⟩) (by assumption) ?_
    case hy2 => (intro w hSw; (try dsimp only at hSw); go_simp; try with_reducible rfl)
    try simp only [Act.put, List.setIfInBounds_toArray, List.set_cons_zero, List.set_cons_succ]
    refine wpAnyH_take (i := 3) (oi := ⟨some 37, _, _, _, _, _⟩) (v := ?v3) rfl (by kernel_rfl) (by kernel_rfl) (by kernel_rfl) (fun _ _ _ h => h) (Or.inl ⟨by rfl, ?hy3⟩) (by assumption) ?_
    case hy3 => (intro w hSw; (try dsimp only at hSw); go_simp; try with_reducible rfl)
    try simp only [Act.put, List.setIfInBounds_toArray, List.set_cons_zero, List.set_cons_succ]
    refine wpAnyH_ready (rs := [2, 5]) (by kernel_rfl) (by simp) ?_
    refine AllReadyH.cons (o := ⟨some 36, _, _, _, _, _⟩) rfl (fun K hK => ?_) (AllReadyH.cons (o := ⟨some 8, _, _, _, _, _⟩) rfl (fun K hK => ?_) AllReadyH.nil)
    · go_simp
      refine (wAdd h0.drew h1.drew (by omega) (by omega) rfl).mono ?_
      rintro e w36 ⟨s36, A36, n36, c36, rfl, p36, j36, B0⟩
      have B := bt ((Below.refl _ w1).drew) B0
      replace X1 := X1.below B
      replace X2 := X2.below B
      replace X3 := X3.below B
      replace h0 := h0.below B
      replace h1 := h1.below B
      replace h2 := h2.below B
      replace HB := Lib.hid (bt HB.out B)
      clear B B0
      refine hK.out _ _ ?_ (fun hHeld => ?_)
      · exact ⟨X1.cell0, X1.cell1, X2.cell0, X2.cell1, X3.cell0, X3.cell1⟩
      clear hK K
      try simp only [Act.put, List.setIfInBounds_toArray, List.set_cons_zero, List.set_cons_succ]
      refine wpAnyH_ready (rs := [4, 5]) (by kernel_rfl) (by simp) ?_
      refine AllReadyH.cons (o := ⟨some 38, _, _, _, _, _⟩) rfl (fun K hK => ?_) (AllReadyH.cons (o := ⟨some 8, _, _, _, _, _⟩) rfl (fun K hK => ?_) AllReadyH.nil)
      · go_simp
        refine (wAdd p36.wr h2 (by omega) (by omega) rfl).mono ?_
        rintro e w38 ⟨s38, A38, n38, c38, rfl, p38, j38, B⟩
        replace X1 := X1.below B
        replace X2 := X2.below B
        replace X3 := X3.below B
        replace h0 := h0.below B
        replace h1 := h1.below B
        replace h2 := h2.below B
        replace p36 := p36.below B
        replace HB := Lib.hid (bt HB.out B)
        clear B
        refine hK.out _ _ ?_ (fun hHeld => ?_)
        · exact ⟨X1.cell0, X1.cell1, X2.cell0, X2.cell1, X3.cell0, X3.cell1⟩
        clear hK K
        try simp only [Act.put, List.setIfInBounds_toArray, List.set_cons_zero, List.set_cons_succ]
        refine wpAnyH_ready (rs := [5]) (by kernel_rfl) (by simp) ?_
        refine AllReadyH.cons (o := ⟨some 8, _, _, _, _, _⟩) rfl (fun K hK => ?_) AllReadyH.nil
        go_simp
        refine hK.out _ _ ?_ (fun hHeld => ?_)
        · exact ⟨(X1.below (bel1 _ _)).cell0, (X1.below (bel1 _ _)).cell1, (X2.below (bel1 _ _)).cell0, (X2.below (bel1 _ _)).cell1, (X3.below (bel1 _ _)).cell0, (X3.below (bel1 _ _)).cell1⟩
        clear hK K
        try simp only [Act.put, List.setIfInBounds_toArray, List.set_cons_zero, List.set_cons_succ]
        refine wpAnyH_ready (rs := [6]) (by kernel_rfl) (by simp) ?_
        refine AllReadyH.cons (o := ⟨none, _, _, _, _, _⟩) rfl (fun K hK => ?_) AllReadyH.nil
        go_simp
        refine hK.out _ _ ?_ (fun hHeld => ?_)
        · exact ⟨(X1.below (bel1 _ _)).cell0, (X1.below (bel1 _ _)).cell1, (X2.below (bel1 _ _)).cell0, (X2.below (bel1 _ _)).cell1, (X3.below (bel1 _ _)).cell0, (X3.below (bel1 _ _)).cell1⟩
        clear hK K
        try simp only [Act.put, List.setIfInBounds_toArray, List.set_cons_zero, List.set_cons_succ]
        refine wpAnyH_done (by kernel_rfl) ?_ _
        refine NoPanic.normal ?_
        go_wp2_with fail
        go_meet
        exact ⟨⟨X1.below (bel1 _ _), X2.below (bel1 _ _), X3.below (bel1 _ _), h0.below (bel1 _ _), h1.below (bel1 _ _), h2.below (bel1 _ _), bt HB.out (bel1 _ _)⟩, ⟨_, s38, A38, n38, c38, rfl, Bx.new _ _ _ _ _, p38.below (bel1 _ _), by omega⟩⟩
      · go_simp
        refine hK.out _ _ ?_ (fun hHeld => ?_)
        · exact ⟨(X1.below (bel1 _ _)).cell0, (X1.below (bel1 _ _)).cell1, (X2.below (bel1 _ _)).cell0, (X2.below (bel1 _ _)).cell1, (X3.below (bel1 _ _)).cell0, (X3.below (bel1 _ _)).cell1⟩
        clear hK K
        try simp only [Act.put, List.setIfInBounds_toArray, List.set_cons_zero, List.set_cons_succ]
        refine wpAnyH_ready (rs := [4]) (by kernel_rfl) (by simp) ?_
        refine AllReadyH.cons (o := ⟨some 38, _, _, _, _, _⟩) rfl (fun K hK => ?_) AllReadyH.nil
        go_simp
        refine (wAdd (p36.below (bel1 _ _)).wr (h2.below (bel1 _ _)) (by omega) (by omega) rfl).mono ?_
        rintro e w38 ⟨s38, A38, n38, c38, rfl, p38, j38, B0⟩
        have B := bt (bel1 w36 (.cells #[.bool false, .slice none 0 0] 24)) B0
        have Y8 := ((Bx.newAt w36 (g := w36.heap.size) (by simp) false none 0 0)).below B0
        have dY8X1 : w.heap.size ≠ w36.heap.size := by have := X1.lt; omega
        have dY8X2 : w.heap.size + 1 ≠ w36.heap.size := by have := X2.lt; omega
        have dY8X3 : w.heap.size + 1 + 1 ≠ w36.heap.size := by have := X3.lt; omega
        have lY8 : w.heap.size ≤ w36.heap.size := by have := X1.lt; omega
        replace X1 := X1.below B
        replace X2 := X2.below B
        replace X3 := X3.below B
        replace h0 := h0.below B
        replace h1 := h1.below B
        replace h2 := h2.below B
        replace p36 := p36.below B
        replace HB := Lib.hid (bt HB.out B)
        clear B B0
        have cY80 := Y8.cell0
        have fY80 := Y8.frozen 0
        have cY81 := Y8.cell1
        have fY81 := Y8.frozen 1
        refine hK.out _ _ ?_ (fun hHeld => ?_)
        · exact ⟨X1.cell0, X1.cell1, X2.cell0, X2.cell1, X3.cell0, X3.cell1⟩
        clear hK K
        try simp only [Act.put, List.setIfInBounds_toArray, List.set_cons_zero, List.set_cons_succ]
        refine wpAnyH_ready (rs := [6]) (by kernel_rfl) (by simp) ?_
        refine AllReadyH.cons (o := ⟨none, _, _, _, _, _⟩) rfl (fun K hK => ?_) AllReadyH.nil
        go_simp
        refine hK.out _ _ ?_ (fun hHeld => ?_)
        · exact ⟨(X1.far dY8X1 _ _).cell0, (X1.far dY8X1 _ _).cell1, (X2.far dY8X2 _ _).cell0, (X2.far dY8X2 _ _).cell1, (X3.far dY8X3 _ _).cell0, (X3.far dY8X3 _ _).cell1⟩
        clear hK K
        try simp only [Act.put, List.setIfInBounds_toArray, List.set_cons_zero, List.set_cons_succ]
        refine wpAnyH_done (by kernel_rfl) ?_ _
        refine NoPanic.normal ?_
        go_wp2_with fail
        go_meet
        exact ⟨⟨X1.far dY8X1 _ _, X2.far dY8X2 _ _, X3.far dY8X3 _ _, h0.st Y8 _ _, h1.st Y8 _ _, h2.st Y8 _ _, st2 HB.out lY8 _ _⟩, ⟨_, s38, A38, n38, c38, rfl, Y8.set _ _ _ _, p38.st Y8 _ _, by omega⟩⟩
    · go_simp
      refine hK.out _ _ ?_ (fun hHeld => ?_)
      · exact ⟨(X1.below (bel1 _ _)).drew.cell0, (X1.below (bel1 _ _)).drew.cell1, (X2.below (bel1 _ _)).drew.cell0, (X2.below (bel1 _ _)).drew.cell1, (X3.below (bel1 _ _)).drew.cell0, (X3.below (bel1 _ _)).drew.cell1⟩
      clear hK K
      try simp only [Act.put, List.setIfInBounds_toArray, List.set_cons_zero, List.set_cons_succ]
      refine wpAnyH_ready (rs := [2]) (by kernel_rfl) (by simp) ?_
      refine AllReadyH.cons (o := ⟨some 36, _, _, _, _, _⟩) rfl (fun K hK => ?_) AllReadyH.nil
      go_simp
      refine (wAdd (h0.below (bel1 _ _)).drew (h1.below (bel1 _ _)).drew (by omega) (by omega) rfl).mono ?_
      rintro e w36 ⟨s36, A36, n36, c36, rfl, p36, j36, B0⟩
      have B := bt ((bel1 w1 (.cells #[.bool false, .slice none 0 0] 24)).drew) B0
      have Y8 := ((Bx.newAt w1 (g := w1.heap.size) (by simp) false none 0 0)).drew.below B0
      have dY8X1 : w.heap.size ≠ w1.heap.size := by have := X1.lt; omega
      have dY8X2 : w.heap.size + 1 ≠ w1.heap.size := by have := X2.lt; omega
      have dY8X3 : w.heap.size + 1 + 1 ≠ w1.heap.size := by have := X3.lt; omega
      have lY8 : w.heap.size ≤ w1.heap.size := by have := X1.lt; omega
      replace X1 := X1.below B
      replace X2 := X2.below B
      replace X3 := X3.below B
      replace h0 := h0.below B
      replace h1 := h1.below B
      replace h2 := h2.below B
      replace HB := Lib.hid (bt HB.out B)
      clear B B0
      have cY80 := Y8.cell0
      have fY80 := Y8.frozen 0
      have cY81 := Y8.cell1
      have fY81 := Y8.frozen 1
      refine hK.out _ _ ?_ (fun hHeld => ?_)
      · exact ⟨X1.cell0, X1.cell1, X2.cell0, X2.cell1, X3.cell0, X3.cell1⟩
      clear hK K
      try simp only [Act.put, List.setIfInBounds_toArray, List.set_cons_zero, List.set_cons_succ]
      refine wpAnyH_ready (rs := [4]) (by kernel_rfl) (by simp) ?_
      refine AllReadyH.cons (o := ⟨some 38, _, _, _, _, _⟩) rfl (fun K hK => ?_) AllReadyH.nil
      go_simp
      refine (wAdd p36.wr h2 (by omega) (by omega) rfl).mono ?_
      rintro e w38 ⟨s38, A38, n38, c38, rfl, p38, j38, B⟩
      replace X1 := X1.below B
      replace X2 := X2.below B
      replace X3 := X3.below B
      replace h0 := h0.below B
      replace h1 := h1.below B
      replace h2 := h2.below B
      replace Y8 := Y8.below B
      replace p36 := p36.below B
      replace HB := Lib.hid (bt HB.out B)
      clear B
      have cY80 := Y8.cell0
      have fY80 := Y8.frozen 0
      have cY81 := Y8.cell1
      have fY81 := Y8.frozen 1
      refine hK.out _ _ ?_ (fun hHeld => ?_)
      · exact ⟨X1.cell0, X1.cell1, X2.cell0, X2.cell1, X3.cell0, X3.cell1⟩
      clear hK K
      try simp only [Act.put, List.setIfInBounds_toArray, List.set_cons_zero, List.set_cons_succ]
      refine wpAnyH_ready (rs := [6]) (by kernel_rfl) (by simp) ?_
      refine AllReadyH.cons (o := ⟨none, _, _, _, _, _⟩) rfl (fun K hK => ?_) AllReadyH.nil
      go_simp
      refine hK.out _ _ ?_ (fun hHeld => ?_)
      · exact ⟨(X1.far dY8X1 _ _).cell0, (X1.far dY8X1 _ _).cell1, (X2.far dY8X2 _ _).cell0, (X2.far dY8X2 _ _).cell1, (X3.far dY8X3 _ _).cell0, (X3.far dY8X3 _ _).cell1⟩
      clear hK K
      try simp only [Act.put, List.setIfInBounds_toArray, List.set_cons_zero, List.set_cons_succ]
      refine wpAnyH_done (by kernel_rfl) ?_ _
      refine NoPanic.normal ?_
      go_wp2_with fail
      go_meet
      exact ⟨⟨X1.far dY8X1 _ _, X2.far dY8X2 _ _, X3.far dY8X3 _ _, h0.st Y8 _ _, h1.st Y8 _ _, h2.st Y8 _ _, st2 HB.out lY8 _ _⟩, ⟨_, s38, A38, n38, c38, rfl, Y8.set _ _ _ _, p38.st Y8 _ _, by omega⟩⟩
  case rest =>
    clear X1 X2 X3 h0 h1 h2 HB
    obtain ⟨⟨X1, X2, X3, h0, h1, h2, HB0⟩, g8, s8, A8, n8, c8, rfl, X8, p8, j8⟩ := hcut
    have HB := Lib.hid HB0
    clear HB0
    go_upto_region 5 with (fail)
    go_cut [9] (fun v wx => REnv w s0 a0 len0 cap0 s1 a1 len1 cap1 s2 a2 len2 cap2 x y z wx ∧ RHas wx g8 s8 A8 n8 c8 (x + y + z) ∧ RVar wx v 47 (x + (z + y)))
    case first =>
      refine wp_region_noPanic ?_
      refine wp_region_held_drew (S := (fun w' => w'.cell? ⟨w.heap.size, 0, none⟩ = some (.bool s0) ∧ w'.cell? ⟨w.heap.size, 1, none⟩ = some (.slice a0 len0 cap0) ∧ w'.cell? ⟨w.heap.size + 1, 0, none⟩ = some (.bool s1) ∧ w'.cell? ⟨w.heap.size + 1, 1, none⟩ = some (.slice a1 len1 cap1) ∧ w'.cell? ⟨w.heap.size + 1 + 1, 0, none⟩ = some (.bool s2) ∧ w'.cell? ⟨w.heap.size + 1 + 1, 1, none⟩ = some (.slice a2 len2 cap2) ∧ w'.cell? ⟨g8, 0, none⟩ = some (.bool s8) ∧ w'.cell? ⟨g8, 1, none⟩ = some (.slice A8 n8 c8))) (by kernel_rfl) ?_ (fun hHeld => ?_)
      · exact ⟨X1.drew.cell0, X1.drew.cell1, X2.drew.cell0, X2.drew.cell1, X3.drew.cell0, X3.drew.cell1, X8.drew.cell0, X8.drew.cell1⟩
      refine wpAnyH_take (i := 0) (oi := ⟨some 39, _, _, _, _, _⟩) (v := ?v4) rfl (by kernel_rfl) (by kernel_rfl) (by kernel_rfl) (fun _ _ _ h => h) (Or.inl ⟨by rfl, ?hy4⟩) (by assumption) ?_
      case hy4 => (intro w hSw; (try dsimp only at hSw); go_simp; try with_reducible rfl)
      try simp only [Act.put, List.setIfInBounds_toArray, List.set_cons_zero, List.set_cons_succ]
      refine wpAnyH_take (i := 1) (oi := ⟨some 40, _, _, _, _, _⟩) (v := ?v5) rfl (by kernel_rfl) (by kernel_rfl) (by kernel_rfl) (fun _ _ _ h => h) (Or.inl ⟨by rfl, ?hy5⟩) (by assumption) ?_
      case hy5 => (intro w hSw; (try dsimp only at hSw); go_simp; try with_reducible rfl)
      try simp only [Act.put, List.setIfInBounds_toArray, List.set_cons_zero, List.set_cons_succ]
      refine wpAnyH_take (i := 2) (oi := ⟨some 41, _, _, _, _, _⟩) (v := ?v6) rfl (by kernel_rfl) (by kernel_rfl) (by kernel_rfl) (fun _ _ _ h => h) (Or.inl ⟨by rfl, ?hy6⟩) (by assumption) ?_
      case hy6 => (intro w hSw; (try dsimp only at hSw); go_simp; try with_reducible rfl)
      try simp only [Act.put, List.setIfInBounds_toArray, List.set_cons_zero, List.set_cons_succ]
      refine wpAnyH_ready (rs := [3, 5]) (by kernel_rfl) (by simp) ?_
      refine AllReadyH.cons (o := ⟨some 42, _, _, _, _, _⟩) rfl (fun K hK => ?_) (AllReadyH.cons (o := ⟨some 9, _, _, _, _, _⟩) rfl (fun K hK => ?_) AllReadyH.nil)
      · go_simp
        refine (wAdd h2.drew h1.drew (by omega) (by omega) rfl).mono ?_
        rintro e w42 ⟨s42, A42, n42, c42, rfl, p42, j42, B0⟩
        have B := bt ((Below.refl _ wc).drew) B0
        replace X1 := X1.below B
        replace X2 := X2.below B
        replace X3 := X3.below B
        replace X8 := X8.below B
        replace h0 := h0.below B
        replace h1 := h1.below B
        replace h2 := h2.below B
        replace p8 := p8.below B
        replace HB := Lib.hid (bt HB.out B)
        clear B B0
        refine hK.out _ _ ?_ (fun hHeld => ?_)
        · exact ⟨X1.cell0, X1.cell1, X2.cell0, X2.cell1, X3.cell0, X3.cell1, X8.cell0, X8.cell1⟩
        clear hK K
        try simp only [Act.put, List.setIfInBounds_toArray, List.set_cons_zero, List.set_cons_succ]
        refine wpAnyH_ready (rs := [4, 5]) (by kernel_rfl) (by simp) ?_
        refine AllReadyH.cons (o := ⟨some 43, _, _, _, _, _⟩) rfl (fun K hK => ?_) (AllReadyH.cons (o := ⟨some 9, _, _, _, _, _⟩) rfl (fun K hK => ?_) AllReadyH.nil)
        · go_simp
          refine (wAdd h0 p42.wr (by omega) (by omega) rfl).mono ?_
          rintro e w43 ⟨s43, A43, n43, c43, rfl, p43, j43, B⟩
          replace X1 := X1.below B
          replace X2 := X2.below B
          replace X3 := X3.below B
          replace X8 := X8.below B
          replace h0 := h0.below B
          replace h1 := h1.below B
          replace h2 := h2.below B
          replace p8 := p8.below B
          replace p42 := p42.below B
          replace HB := Lib.hid (bt HB.out B)
          clear B
          refine hK.out _ _ ?_ (fun hHeld => ?_)
          · exact ⟨X1.cell0, X1.cell1, X2.cell0, X2.cell1, X3.cell0, X3.cell1, X8.cell0, X8.cell1⟩
          clear hK K
          try simp only [Act.put, List.setIfInBounds_toArray, List.set_cons_zero, List.set_cons_succ]
          refine wpAnyH_ready (rs := [5]) (by kernel_rfl) (by simp) ?_
          refine AllReadyH.cons (o := ⟨some 9, _, _, _, _, _⟩) rfl (fun K hK => ?_) AllReadyH.nil
          go_simp
          refine hK.out _ _ ?_ (fun hHeld => ?_)
          · exact ⟨(X1.below (bel1 _ _)).cell0, (X1.below (bel1 _ _)).cell1, (X2.below (bel1 _ _)).cell0, (X2.below (bel1 _ _)).cell1, (X3.below (bel1 _ _)).cell0, (X3.below (bel1 _ _)).cell1, (X8.below (bel1 _ _)).cell0, (X8.below (bel1 _ _)).cell1⟩
          clear hK K
          try simp only [Act.put, List.setIfInBounds_toArray, List.set_cons_zero, List.set_cons_succ]
          refine wpAnyH_ready (rs := [6]) (by kernel_rfl) (by simp) ?_
          refine AllReadyH.cons (o := ⟨none, _, _, _, _, _⟩) rfl (fun K hK => ?_) AllReadyH.nil
          go_simp
          refine hK.out _ _ ?_ (fun hHeld => ?_)
          · exact ⟨(X1.below (bel1 _ _)).cell0, (X1.below (bel1 _ _)).cell1, (X2.below (bel1 _ _)).cell0, (X2.below (bel1 _ _)).cell1, (X3.below (bel1 _ _)).cell0, (X3.below (bel1 _ _)).cell1, (X8.below (bel1 _ _)).cell0, (X8.below (bel1 _ _)).cell1⟩
          clear hK K
          try simp only [Act.put, List.setIfInBounds_toArray, List.set_cons_zero, List.set_cons_succ]
          refine wpAnyH_done (by kernel_rfl) ?_ _
          refine NoPanic.normal ?_
          go_wp2_with fail
          go_meet
          exact ⟨⟨X1.below (bel1 _ _), X2.below (bel1 _ _), X3.below (bel1 _ _), h0.below (bel1 _ _), h1.below (bel1 _ _), h2.below (bel1 _ _), bt HB.out (bel1 _ _)⟩, ⟨X8.below (bel1 _ _), p8.below (bel1 _ _)⟩, ⟨_, s43, A43, n43, c43, rfl, Bx.new _ _ _ _ _, p43.below (bel1 _ _), by omega⟩⟩
        · go_simp
          refine hK.out _ _ ?_ (fun hHeld => ?_)
          · exact ⟨(X1.below (bel1 _ _)).cell0, (X1.below (bel1 _ _)).cell1, (X2.below (bel1 _ _)).cell0, (X2.below (bel1 _ _)).cell1, (X3.below (bel1 _ _)).cell0, (X3.below (bel1 _ _)).cell1, (X8.below (bel1 _ _)).cell0, (X8.below (bel1 _ _)).cell1⟩
          clear hK K
          try simp only [Act.put, List.setIfInBounds_toArray, List.set_cons_zero, List.set_cons_succ]
          refine wpAnyH_ready (rs := [4]) (by kernel_rfl) (by simp) ?_
          refine AllReadyH.cons (o := ⟨some 43, _, _, _, _, _⟩) rfl (fun K hK => ?_) AllReadyH.nil
          go_simp
          refine (wAdd (h0.below (bel1 _ _)) (p42.below (bel1 _ _)).wr (by omega) (by omega) rfl).mono ?_
          rintro e w43 ⟨s43, A43, n43, c43, rfl, p43, j43, B0⟩
          have B := bt (bel1 w42 (.cells #[.bool false, .slice none 0 0] 24)) B0
          have Y9 := ((Bx.newAt w42 (g := w42.heap.size) (by simp) false none 0 0)).below B0
          have dY9X1 : w.heap.size ≠ w42.heap.size := by have := X1.lt; omega
          have dY9X2 : w.heap.size + 1 ≠ w42.heap.size := by have := X2.lt; omega
          have dY9X3 : w.heap.size + 1 + 1 ≠ w42.heap.size := by have := X3.lt; omega
          have dY9X8 : g8 ≠ w42.heap.size := by have := X8.lt; omega
          have lY9 : w.heap.size ≤ w42.heap.size := by have := X1.lt; omega
          replace X1 := X1.below B
          replace X2 := X2.below B
          replace X3 := X3.below B
          replace X8 := X8.below B
          replace h0 := h0.below B
          replace h1 := h1.below B
          replace h2 := h2.below B
          replace p8 := p8.below B
          replace p42 := p42.below B
          replace HB := Lib.hid (bt HB.out B)
          clear B B0
          have cY90 := Y9.cell0
          have fY90 := Y9.frozen 0
          have cY91 := Y9.cell1
          have fY91 := Y9.frozen 1
          refine hK.out _ _ ?_ (fun hHeld => ?_)
          · exact ⟨X1.cell0, X1.cell1, X2.cell0, X2.cell1, X3.cell0, X3.cell1, X8.cell0, X8.cell1⟩
          clear hK K
          try simp only [Act.put, List.setIfInBounds_toArray, List.set_cons_zero, List.set_cons_succ]
          refine wpAnyH_ready (rs := [6]) (by kernel_rfl) (by simp) ?_
          refine AllReadyH.cons (o := ⟨none, _, _, _, _, _⟩) rfl (fun K hK => ?_) AllReadyH.nil
          go_simp
          refine hK.out _ _ ?_ (fun hHeld => ?_)
          · exact ⟨(X1.far dY9X1 _ _).cell0, (X1.far dY9X1 _ _).cell1, (X2.far dY9X2 _ _).cell0, (X2.far dY9X2 _ _).cell1, (X3.far dY9X3 _ _).cell0, (X3.far dY9X3 _ _).cell1, (X8.far dY9X8 _ _).cell0, (X8.far dY9X8 _ _).cell1⟩
          clear hK K
          try simp only [Act.put, List.setIfInBounds_toArray, List.set_cons_zero, List.set_cons_succ]
          refine wpAnyH_done (by kernel_rfl) ?_ _
          refine NoPanic.normal ?_
          go_wp2_with fail
          go_meet
          exact ⟨⟨X1.far dY9X1 _ _, X2.far dY9X2 _ _, X3.far dY9X3 _ _, h0.st Y9 _ _, h1.st Y9 _ _, h2.st Y9 _ _, st2 HB.out lY9 _ _⟩, ⟨X8.far dY9X8 _ _, p8.st Y9 _ _⟩, ⟨_, s43, A43, n43, c43, rfl, Y9.set _ _ _ _, p43.st Y9 _ _, by omega⟩⟩
      · go_simp
        refine hK.out _ _ ?_ (fun hHeld => ?_)
        · exact ⟨(X1.below (bel1 _ _)).drew.cell0, (X1.below (bel1 _ _)).drew.cell1, (X2.below (bel1 _ _)).drew.cell0, (X2.below (bel1 _ _)).drew.cell1, (X3.below (bel1 _ _)).drew.cell0, (X3.below (bel1 _ _)).drew.cell1, (X8.below (bel1 _ _)).drew.cell0, (X8.below (bel1 _ _)).drew.cell1⟩
        clear hK K
        try simp only [Act.put, List.setIfInBounds_toArray, List.set_cons_zero, List.set_cons_succ]
        refine wpAnyH_ready (rs := [3]) (by kernel_rfl) (by simp) ?_
        refine AllReadyH.cons (o := ⟨some 42, _, _, _, _, _⟩) rfl (fun K hK => ?_) AllReadyH.nil
        go_simp
        refine (wAdd (h2.below (bel1 _ _)).drew (h1.below (bel1 _ _)).drew (by omega) (by omega) rfl).mono ?_
        rintro e w42 ⟨s42, A42, n42, c42, rfl, p42, j42, B0⟩
        have B := bt ((bel1 wc (.cells #[.bool false, .slice none 0 0] 24)).drew) B0
        have Y9 := ((Bx.newAt wc (g := wc.heap.size) (by simp) false none 0 0)).drew.below B0
        have dY9X1 : w.heap.size ≠ wc.heap.size := by have := X1.lt; omega
        have dY9X2 : w.heap.size + 1 ≠ wc.heap.size := by have := X2.lt; omega
        have dY9X3 : w.heap.size + 1 + 1 ≠ wc.heap.size := by have := X3.lt; omega
        have dY9X8 : g8 ≠ wc.heap.size := by have := X8.lt; omega
        have lY9 : w.heap.size ≤ wc.heap.size := by have := X1.lt; omega
        replace X1 := X1.below B
        replace X2 := X2.below B
        replace X3 := X3.below B
        replace X8 := X8.below B
        replace h0 := h0.below B
        replace h1 := h1.below B
        replace h2 := h2.below B
        replace p8 := p8.below B
        replace HB := Lib.hid (bt HB.out B)
        clear B B0
        have cY90 := Y9.cell0
        have fY90 := Y9.frozen 0
        have cY91 := Y9.cell1
        have fY91 := Y9.frozen 1
        refine hK.out _ _ ?_ (fun hHeld => ?_)
        · exact ⟨X1.cell0, X1.cell1, X2.cell0, X2.cell1, X3.cell0, X3.cell1, X8.cell0, X8.cell1⟩
        clear hK K
        try simp only [Act.put, List.setIfInBounds_toArray, List.set_cons_zero, List.set_cons_succ]
        refine wpAnyH_ready (rs := [4]) (by kernel_rfl) (by simp) ?_
        refine AllReadyH.cons (o := ⟨some 43, _, _, _, _, _⟩) rfl (fun K hK => ?_) AllReadyH.nil
        go_simp
        refine (wAdd h0 p42.wr (by omega) (by omega) rfl).mono ?_
        rintro e w43 ⟨s43, A43, n43, c43, rfl, p43, j43, B⟩
        replace X1 := X1.below B
        replace X2 := X2.below B
        replace X3 := X3.below B
        replace X8 := X8.below B
        replace h0 := h0.below B
        replace h1 := h1.below B
        replace h2 := h2.below B
        replace p8 := p8.below B
        replace Y9 := Y9.below B
        replace p42 := p42.below B
        replace HB := Lib.hid (bt HB.out B)
        clear B
        have cY90 := Y9.cell0
        have fY90 := Y9.frozen 0
        have cY91 := Y9.cell1
        have fY91 := Y9.frozen 1
        refine hK.out _ _ ?_ (fun hHeld => ?_)
        · exact ⟨X1.cell0, X1.cell1, X2.cell0, X2.cell1, X3.cell0, X3.cell1, X8.cell0, X8.cell1⟩
        clear hK K
        try simp only [Act.put, List.setIfInBounds_toArray, List.set_cons_zero, List.set_cons_succ]
        refine wpAnyH_ready (rs := [6]) (by kernel_rfl) (by simp) ?_
        refine AllReadyH.cons (o := ⟨none, _, _, _, _, _⟩) rfl (fun K hK => ?_) AllReadyH.nil
        go_simp
        refine hK.out _ _ ?_ (fun hHeld => ?_)
        · exact ⟨(X1.far dY9X1 _ _).cell0, (X1.far dY9X1 _ _).cell1, (X2.far dY9X2 _ _).cell0, (X2.far dY9X2 _ _).cell1, (X3.far dY9X3 _ _).cell0, (X3.far dY9X3 _ _).cell1, (X8.far dY9X8 _ _).cell0, (X8.far dY9X8 _ _).cell1⟩
        clear hK K
        try simp only [Act.put, List.setIfInBounds_toArray, List.set_cons_zero, List.set_cons_succ]
        refine wpAnyH_done (by kernel_rfl) ?_ _
        refine NoPanic.normal ?_
        go_wp2_with fail
        go_meet
        exact ⟨⟨X1.far dY9X1 _ _, X2.far dY9X2 _ _, X3.far dY9X3 _ _, h0.st Y9 _ _, h1.st Y9 _ _, h2.st Y9 _ _, st2 HB.out lY9 _ _⟩, ⟨X8.far dY9X8 _ _, p8.st Y9 _ _⟩, ⟨_, s43, A43, n43, c43, rfl, Y9.set _ _ _ _, p43.st Y9 _ _, by omega⟩⟩
    case rest =>
      clear X1 X2 X3 h0 h1 h2 HB X8 p8
      obtain ⟨⟨X1, X2, X3, h0, h1, h2, HB0⟩, ⟨X8, p8⟩, g9, s9, A9, n9, c9, rfl, X9, p9, j9⟩ := hcut
      have HB := Lib.hid HB0
      clear HB0
      go_upto_region 6 with (fail)
      go_cut [10] (fun v wx => REnv w s0 a0 len0 cap0 s1 a1 len1 cap1 s2 a2 len2 cap2 x y z wx ∧ RHas wx g8 s8 A8 n8 c8 (x + y + z) ∧ RHas wx g9 s9 A9 n9 c9 (x + (z + y)) ∧ RVar wx v 100 (1 * x * (y + z)))
      case first =>
        refine wp_region_noPanic ?_
        refine wp_region_held_drew (S := (fun w' => w'.cell? ⟨w.heap.size, 0, none⟩ = some (.bool s0) ∧ w'.cell? ⟨w.heap.size, 1, none⟩ = some (.slice a0 len0 cap0) ∧ w'.cell? ⟨w.heap.size + 1, 0, none⟩ = some (.bool s1) ∧ w'.cell? ⟨w.heap.size + 1, 1, none⟩ = some (.slice a1 len1 cap1) ∧ w'.cell? ⟨w.heap.size + 1 + 1, 0, none⟩ = some (.bool s2) ∧ w'.cell? ⟨w.heap.size + 1 + 1, 1, none⟩ = some (.slice a2 len2 cap2) ∧ w'.cell? ⟨g8, 0, none⟩ = some (.bool s8) ∧ w'.cell? ⟨g8, 1, none⟩ = some (.slice A8 n8 c8) ∧ w'.cell? ⟨g9, 0, none⟩ = some (.bool s9) ∧ w'.cell? ⟨g9, 1, none⟩ = some (.slice A9 n9 c9))) (by kernel_rfl) ?_ (fun hHeld => ?_)
        · exact ⟨X1.drew.cell0, X1.drew.cell1, X2.drew.cell0, X2.drew.cell1, X3.drew.cell0, X3.drew.cell1, X8.drew.cell0, X8.drew.cell1, X9.drew.cell0, X9.drew.cell1⟩
        refine wpAnyH_take (i := 0) (oi := ⟨some 44, _, _, _, _, _⟩) (v := ?v7) rfl (by kernel_rfl) (by kernel_rfl) (by kernel_rfl) (fun _ _ _ h => h) (Or.inl ⟨by rfl, ?hy7⟩) (by assumption) ?_
        case hy7 => (intro w hSw; (try dsimp only at hSw); go_simp; try with_reducible rfl)
        try simp only [Act.put, List.setIfInBounds_toArray, List.set_cons_zero, List.set_cons_succ]
        refine wpAnyH_take (i := 1) (oi := ⟨some 45, _, _, _, _, _⟩) (v := ?v8) rfl (by kernel_rfl) (by kernel_rfl) (by kernel_rfl) (fun _ _ _ h => h) (Or.inl ⟨by rfl, ?hy8⟩) (by assumption) ?_
        case hy8 => (intro w hSw; (try dsimp only at hSw); go_simp; try with_reducible rfl)
        try simp only [Act.put, List.setIfInBounds_toArray, List.set_cons_zero, List.set_cons_succ]
        refine wpAnyH_take (i := 2) (oi := ⟨some 46, _, _, _, _, _⟩) (v := ?v9) rfl (by kernel_rfl) (by kernel_rfl) (by kernel_rfl) (fun _ _ _ h => h) (Or.inl ⟨by rfl, ?hy9⟩) (by assumption) ?_
        case hy9 => (intro w hSw; (try dsimp only at hSw); go_simp; try with_reducible rfl)
        try simp only [Act.put, List.setIfInBounds_toArray, List.set_cons_zero, List.set_cons_succ]
        refine wpAnyH_ready (rs := [3, 6]) (by kernel_rfl) (by simp) ?_
        refine AllReadyH.cons (o := ⟨some 47, _, _, _, _, _⟩) rfl (fun K hK => ?_) (AllReadyH.cons (o := ⟨some 10, _, _, _, _, _⟩) rfl (fun K hK => ?_) AllReadyH.nil)
        · go_simp
          refine (wAdd h1.drew h2.drew (by omega) (by omega) rfl).mono ?_
          rintro e w47 ⟨s47, A47, n47, c47, rfl, p47, j47, B0⟩
          have B := bt ((Below.refl _ wc).drew) B0
          replace X1 := X1.below B
          replace X2 := X2.below B
          replace X3 := X3.below B
          replace X8 := X8.below B
          replace X9 := X9.below B
          replace h0 := h0.below B
          replace h1 := h1.below B
          replace h2 := h2.below B
          replace p8 := p8.below B
          replace p9 := p9.below B
          replace HB := Lib.hid (bt HB.out B)
          clear B B0
          refine hK.out _ _ ?_ (fun hHeld => ?_)
          · exact ⟨X1.cell0, X1.cell1, X2.cell0, X2.cell1, X3.cell0, X3.cell1, X8.cell0, X8.cell1, X9.cell0, X9.cell1⟩
          clear hK K
          try simp only [Act.put, List.setIfInBounds_toArray, List.set_cons_zero, List.set_cons_succ]
          refine wpAnyH_ready (rs := [4, 6]) (by kernel_rfl) (by simp) ?_
          refine AllReadyH.cons (o := ⟨some 48, _, _, _, _, _⟩) rfl (fun K hK => ?_) (AllReadyH.cons (o := ⟨some 10, _, _, _, _, _⟩) rfl (fun K hK => ?_) AllReadyH.nil)
          · go_simp
            refine hK.out _ _ ?_ (fun hHeld => ?_)
            · exact ⟨(X1.below (bel1 _ _)).cell0, (X1.below (bel1 _ _)).cell1, (X2.below (bel1 _ _)).cell0, (X2.below (bel1 _ _)).cell1, (X3.below (bel1 _ _)).cell0, (X3.below (bel1 _ _)).cell1, (X8.below (bel1 _ _)).cell0, (X8.below (bel1 _ _)).cell1, (X9.below (bel1 _ _)).cell0, (X9.below (bel1 _ _)).cell1⟩
            clear hK K
            try simp only [Act.put, List.setIfInBounds_toArray, List.set_cons_zero, List.set_cons_succ]
            refine wpAnyH_ready (rs := [5, 6]) (by kernel_rfl) (by simp) ?_
            refine AllReadyH.cons (o := ⟨some 49, _, _, _, _, _⟩) rfl (fun K hK => ?_) (AllReadyH.cons (o := ⟨some 10, _, _, _, _, _⟩) rfl (fun K hK => ?_) AllReadyH.nil)
            · go_simp
              refine (wMul (r := 1 * x * (y + z)) (Wl.lit2 (K := 31) (W := w47) (g := w47.heap.size) (by simp) h0 p47.wr (by omega) (by omega)) (by omega) rfl).mono ?_
              rintro e w49 ⟨s49, A49, n49, c49, rfl, p49, j49, B0⟩
              have B := bt (bel1 w47 (.cells #[.bool s0, .slice a0 len0 cap0, .bool s47, .slice A47 n47 c47] 24)) B0
              have hl48 := ((Wl.lit2 (K := 31) (W := w47) (g := w47.heap.size) (by simp) h0 p47.wr (by omega) (by omega))).below B0
              replace X1 := X1.below B
              replace X2 := X2.below B
              replace X3 := X3.below B
              replace X8 := X8.below B
              replace X9 := X9.below B
              replace h0 := h0.below B
              replace h1 := h1.below B
              replace h2 := h2.below B
              replace p8 := p8.below B
              replace p9 := p9.below B
              replace p47 := p47.below B
              replace HB := Lib.hid (bt HB.out B)
              clear B B0
              refine hK.out _ _ ?_ (fun hHeld => ?_)
              · exact ⟨X1.cell0, X1.cell1, X2.cell0, X2.cell1, X3.cell0, X3.cell1, X8.cell0, X8.cell1, X9.cell0, X9.cell1⟩
              clear hK K
              try simp only [Act.put, List.setIfInBounds_toArray, List.set_cons_zero, List.set_cons_succ]
              refine wpAnyH_ready (rs := [6]) (by kernel_rfl) (by simp) ?_
              refine AllReadyH.cons (o := ⟨some 10, _, _, _, _, _⟩) rfl (fun K hK => ?_) AllReadyH.nil
              go_simp
              refine hK.out _ _ ?_ (fun hHeld => ?_)
              · exact ⟨(X1.below (bel1 _ _)).cell0, (X1.below (bel1 _ _)).cell1, (X2.below (bel1 _ _)).cell0, (X2.below (bel1 _ _)).cell1, (X3.below (bel1 _ _)).cell0, (X3.below (bel1 _ _)).cell1, (X8.below (bel1 _ _)).cell0, (X8.below (bel1 _ _)).cell1, (X9.below (bel1 _ _)).cell0, (X9.below (bel1 _ _)).cell1⟩
              clear hK K
              try simp only [Act.put, List.setIfInBounds_toArray, List.set_cons_zero, List.set_cons_succ]
              refine wpAnyH_ready (rs := [7]) (by kernel_rfl) (by simp) ?_
              refine AllReadyH.cons (o := ⟨none, _, _, _, _, _⟩) rfl (fun K hK => ?_) AllReadyH.nil
              go_simp
              refine hK.out _ _ ?_ (fun hHeld => ?_)
              · exact ⟨(X1.below (bel1 _ _)).cell0, (X1.below (bel1 _ _)).cell1, (X2.below (bel1 _ _)).cell0, (X2.below (bel1 _ _)).cell1, (X3.below (bel1 _ _)).cell0, (X3.below (bel1 _ _)).cell1, (X8.below (bel1 _ _)).cell0, (X8.below (bel1 _ _)).cell1, (X9.below (bel1 _ _)).cell0, (X9.below (bel1 _ _)).cell1⟩
              clear hK K
              try simp only [Act.put, List.setIfInBounds_toArray, List.set_cons_zero, List.set_cons_succ]
              refine wpAnyH_done (by kernel_rfl) ?_ _
              refine NoPanic.normal ?_
              go_wp2_with fail
              go_meet
              exact ⟨⟨X1.below (bel1 _ _), X2.below (bel1 _ _), X3.below (bel1 _ _), h0.below (bel1 _ _), h1.below (bel1 _ _), h2.below (bel1 _ _), bt HB.out (bel1 _ _)⟩, ⟨X8.below (bel1 _ _), p8.below (bel1 _ _)⟩, ⟨X9.below (bel1 _ _), p9.below (bel1 _ _)⟩, ⟨_, s49, A49, n49, c49, rfl, Bx.new _ _ _ _ _, p49.below (bel1 _ _), by omega⟩⟩
            · go_simp
              refine hK.out _ _ ?_ (fun hHeld => ?_)
              · exact ⟨(X1.below (bel2 _ _ _)).cell0, (X1.below (bel2 _ _ _)).cell1, (X2.below (bel2 _ _ _)).cell0, (X2.below (bel2 _ _ _)).cell1, (X3.below (bel2 _ _ _)).cell0, (X3.below (bel2 _ _ _)).cell1, (X8.below (bel2 _ _ _)).cell0, (X8.below (bel2 _ _ _)).cell1, (X9.below (bel2 _ _ _)).cell0, (X9.below (bel2 _ _ _)).cell1⟩
              clear hK K
              try simp only [Act.put, List.setIfInBounds_toArray, List.set_cons_zero, List.set_cons_succ]
              refine wpAnyH_ready (rs := [5]) (by kernel_rfl) (by simp) ?_
              refine AllReadyH.cons (o := ⟨some 49, _, _, _, _, _⟩) rfl (fun K hK => ?_) AllReadyH.nil
              go_simp
              refine (wMul (r := 1 * x * (y + z)) ((Wl.lit2 (K := 31) (W := w47) (g := w47.heap.size) (by simp) h0 p47.wr (by omega) (by omega)).below (bel1 _ _)) (by omega) rfl).mono ?_
              rintro e w49 ⟨s49, A49, n49, c49, rfl, p49, j49, B0⟩
              have B := bt (bel2 w47 (.cells #[.bool s0, .slice a0 len0 cap0, .bool s47, .slice A47 n47 c47] 24) (.cells #[.bool false, .slice none 0 0] 24)) B0
              have hl48 := ((Wl.lit2 (K := 31) (W := w47) (g := w47.heap.size) (by simp) h0 p47.wr (by omega) (by omega)).below (bel1 _ _)).below B0
              have Y10 := ((Bx.newAt (w47.alloc (.cells #[.bool s0, .slice a0 len0 cap0, .bool s47, .slice A47 n47 c47] 24)) (g := w47.heap.size + 1) (by simp) false none 0 0)).below B0
              have dY10X1 : w.heap.size ≠ w47.heap.size + 1 := by have := X1.lt; omega
              have dY10X2 : w.heap.size + 1 ≠ w47.heap.size + 1 := by have := X2.lt; omega
              have dY10X3 : w.heap.size + 1 + 1 ≠ w47.heap.size + 1 := by have := X3.lt; omega
              have dY10X8 : g8 ≠ w47.heap.size + 1 := by have := X8.lt; omega
              have dY10X9 : g9 ≠ w47.heap.size + 1 := by have := X9.lt; omega
              have lY10 : w.heap.size ≤ w47.heap.size + 1 := by have := X1.lt; omega
              replace X1 := X1.below B
              replace X2 := X2.below B
              replace X3 := X3.below B
              replace X8 := X8.below B
              replace X9 := X9.below B
              replace h0 := h0.below B
              replace h1 := h1.below B
              replace h2 := h2.below B
              replace p8 := p8.below B
              replace p9 := p9.below B
              replace p47 := p47.below B
              replace HB := Lib.hid (bt HB.out B)
              clear B B0
              have cY100 := Y10.cell0
              have fY100 := Y10.frozen 0
              have cY101 := Y10.cell1
              have fY101 := Y10.frozen 1
              refine hK.out _ _ ?_ (fun hHeld => ?_)
              · exact ⟨X1.cell0, X1.cell1, X2.cell0, X2.cell1, X3.cell0, X3.cell1, X8.cell0, X8.cell1, X9.cell0, X9.cell1⟩
              clear hK K
              try simp only [Act.put, List.setIfInBounds_toArray, List.set_cons_zero, List.set_cons_succ]
              refine wpAnyH_ready (rs := [7]) (by kernel_rfl) (by simp) ?_
              refine AllReadyH.cons (o := ⟨none, _, _, _, _, _⟩) rfl (fun K hK => ?_) AllReadyH.nil
              go_simp
              refine hK.out _ _ ?_ (fun hHeld => ?_)
              · exact ⟨(X1.far dY10X1 _ _).cell0, (X1.far dY10X1 _ _).cell1, (X2.far dY10X2 _ _).cell0, (X2.far dY10X2 _ _).cell1, (X3.far dY10X3 _ _).cell0, (X3.far dY10X3 _ _).cell1, (X8.far dY10X8 _ _).cell0, (X8.far dY10X8 _ _).cell1, (X9.far dY10X9 _ _).cell0, (X9.far dY10X9 _ _).cell1⟩
              clear hK K
              try simp only [Act.put, List.setIfInBounds_toArray, List.set_cons_zero, List.set_cons_succ]
              refine wpAnyH_done (by kernel_rfl) ?_ _
              refine NoPanic.normal ?_
              go_wp2_with fail
              go_meet
              exact ⟨⟨X1.far dY10X1 _ _, X2.far dY10X2 _ _, X3.far dY10X3 _ _, h0.st Y10 _ _, h1.st Y10 _ _, h2.st Y10 _ _, st2 HB.out lY10 _ _⟩, ⟨X8.far dY10X8 _ _, p8.st Y10 _ _⟩, ⟨X9.far dY10X9 _ _, p9.st Y10 _ _⟩, ⟨_, s49, A49, n49, c49, rfl, Y10.set _ _ _ _, p49.st Y10 _ _, by omega⟩⟩
          · go_simp
            refine hK.out _ _ ?_ (fun hHeld => ?_)
            · exact ⟨(X1.below (bel1 _ _)).cell0, (X1.below (bel1 _ _)).cell1, (X2.below (bel1 _ _)).cell0, (X2.below (bel1 _ _)).cell1, (X3.below (bel1 _ _)).cell0, (X3.below (bel1 _ _)).cell1, (X8.below (bel1 _ _)).cell0, (X8.below (bel1 _ _)).cell1, (X9.below (bel1 _ _)).cell0, (X9.below (bel1 _ _)).cell1⟩
            clear hK K
            try simp only [Act.put, List.setIfInBounds_toArray, List.set_cons_zero, List.set_cons_succ]
            refine wpAnyH_ready (rs := [4]) (by kernel_rfl) (by simp) ?_
            refine AllReadyH.cons (o := ⟨some 48, _, _, _, _, _⟩) rfl (fun K hK => ?_) AllReadyH.nil
            go_simp
            refine hK.out _ _ ?_ (fun hHeld => ?_)
            · exact ⟨(X1.below (bel2 _ _ _)).cell0, (X1.below (bel2 _ _ _)).cell1, (X2.below (bel2 _ _ _)).cell0, (X2.below (bel2 _ _ _)).cell1, (X3.below (bel2 _ _ _)).cell0, (X3.below (bel2 _ _ _)).cell1, (X8.below (bel2 _ _ _)).cell0, (X8.below (bel2 _ _ _)).cell1, (X9.below (bel2 _ _ _)).cell0, (X9.below (bel2 _ _ _)).cell1⟩
            clear hK K
            try simp only [Act.put, List.setIfInBounds_toArray, List.set_cons_zero, List.set_cons_succ]
            refine wpAnyH_ready (rs := [5]) (by kernel_rfl) (by simp) ?_
            refine AllReadyH.cons (o := ⟨some 49, _, _, _, _, _⟩) rfl (fun K hK => ?_) AllReadyH.nil
            go_simp
            refine (wMul (r := 1 * x * (y + z)) (Wl.lit2 (K := 31) (W := (w47.alloc (.cells #[.bool false, .slice none 0 0] 24))) (g := w47.heap.size + 1) (by simp) (h0.below (bel1 _ _)) (p47.below (bel1 _ _)).wr (by omega) (by omega)) (by omega) rfl).mono ?_
            rintro e w49 ⟨s49, A49, n49, c49, rfl, p49, j49, B0⟩
            have B := bt (bel2 w47 (.cells #[.bool false, .slice none 0 0] 24) (.cells #[.bool s0, .slice a0 len0 cap0, .bool s47, .slice A47 n47 c47] 24)) B0
            have Y10 := ((Bx.newAt w47 (g := w47.heap.size) (by simp) false none 0 0).below (bel1 _ _)).below B0
            have dY10X1 : w.heap.size ≠ w47.heap.size := by have := X1.lt; omega
            have dY10X2 : w.heap.size + 1 ≠ w47.heap.size := by have := X2.lt; omega
            have dY10X3 : w.heap.size + 1 + 1 ≠ w47.heap.size := by have := X3.lt; omega
            have dY10X8 : g8 ≠ w47.heap.size := by have := X8.lt; omega
            have dY10X9 : g9 ≠ w47.heap.size := by have := X9.lt; omega
            have lY10 : w.heap.size ≤ w47.heap.size := by have := X1.lt; omega
            have hl48 := ((Wl.lit2 (K := 31) (W := (w47.alloc (.cells #[.bool false, .slice none 0 0] 24))) (g := w47.heap.size + 1) (by simp) (h0.below (bel1 _ _)) (p47.below (bel1 _ _)).wr (by omega) (by omega))).below B0
            replace X1 := X1.below B
            replace X2 := X2.below B
            replace X3 := X3.below B
            replace X8 := X8.below B
            replace X9 := X9.below B
            replace h0 := h0.below B
            replace h1 := h1.below B
            replace h2 := h2.below B
            replace p8 := p8.below B
            replace p9 := p9.below B
            replace p47 := p47.below B
            replace HB := Lib.hid (bt HB.out B)
            clear B B0
            have cY100 := Y10.cell0
            have fY100 := Y10.frozen 0
            have cY101 := Y10.cell1
            have fY101 := Y10.frozen 1
            refine hK.out _ _ ?_ (fun hHeld => ?_)
            · exact ⟨X1.cell0, X1.cell1, X2.cell0, X2.cell1, X3.cell0, X3.cell1, X8.cell0, X8.cell1, X9.cell0, X9.cell1⟩
            clear hK K
            try simp only [Act.put, List.setIfInBounds_toArray, List.set_cons_zero, List.set_cons_succ]
            refine wpAnyH_ready (rs := [7]) (by kernel_rfl) (by simp) ?_
            refine AllReadyH.cons (o := ⟨none, _, _, _, _, _⟩) rfl (fun K hK => ?_) AllReadyH.nil
            go_simp
            refine hK.out _ _ ?_ (fun hHeld => ?_)
            · exact ⟨(X1.far dY10X1 _ _).cell0, (X1.far dY10X1 _ _).cell1, (X2.far dY10X2 _ _).cell0, (X2.far dY10X2 _ _).cell1, (X3.far dY10X3 _ _).cell0, (X3.far dY10X3 _ _).cell1, (X8.far dY10X8 _ _).cell0, (X8.far dY10X8 _ _).cell1, (X9.far dY10X9 _ _).cell0, (X9.far dY10X9 _ _).cell1⟩
            clear hK K
            try simp only [Act.put, List.setIfInBounds_toArray, List.set_cons_zero, List.set_cons_succ]
            refine wpAnyH_done (by kernel_rfl) ?_ _
            refine NoPanic.normal ?_
            go_wp2_with fail
            go_meet
            exact ⟨⟨X1.far dY10X1 _ _, X2.far dY10X2 _ _, X3.far dY10X3 _ _, h0.st Y10 _ _, h1.st Y10 _ _, h2.st Y10 _ _, st2 HB.out lY10 _ _⟩, ⟨X8.far dY10X8 _ _, p8.st Y10 _ _⟩, ⟨X9.far dY10X9 _ _, p9.st Y10 _ _⟩, ⟨_, s49, A49, n49, c49, rfl, Y10.set _ _ _ _, p49.st Y10 _ _, by omega⟩⟩
        · go_simp
          refine hK.out _ _ ?_ (fun hHeld => ?_)
          · exact ⟨(X1.below (bel1 _ _)).drew.cell0, (X1.below (bel1 _ _)).drew.cell1, (X2.below (bel1 _ _)).drew.cell0, (X2.below (bel1 _ _)).drew.cell1, (X3.below (bel1 _ _)).drew.cell0, (X3.below (bel1 _ _)).drew.cell1, (X8.below (bel1 _ _)).drew.cell0, (X8.below (bel1 _ _)).drew.cell1, (X9.below (bel1 _ _)).drew.cell0, (X9.below (bel1 _ _)).drew.cell1⟩
          clear hK K
          try simp only [Act.put, List.setIfInBounds_toArray, List.set_cons_zero, List.set_cons_succ]
          refine wpAnyH_ready (rs := [3]) (by kernel_rfl) (by simp) ?_
          refine AllReadyH.cons (o := ⟨some 47, _, _, _, _, _⟩) rfl (fun K hK => ?_) AllReadyH.nil
          go_simp
          refine (wAdd (h1.below (bel1 _ _)).drew (h2.below (bel1 _ _)).drew (by omega) (by omega) rfl).mono ?_
          rintro e w47 ⟨s47, A47, n47, c47, rfl, p47, j47, B0⟩
          have B := bt ((bel1 wc (.cells #[.bool false, .slice none 0 0] 24)).drew) B0
          have Y10 := ((Bx.newAt wc (g := wc.heap.size) (by simp) false none 0 0)).drew.below B0
          have dY10X1 : w.heap.size ≠ wc.heap.size := by have := X1.lt; omega
          have dY10X2 : w.heap.size + 1 ≠ wc.heap.size := by have := X2.lt; omega
          have dY10X3 : w.heap.size + 1 + 1 ≠ wc.heap.size := by have := X3.lt; omega
          have dY10X8 : g8 ≠ wc.heap.size := by have := X8.lt; omega
          have dY10X9 : g9 ≠ wc.heap.size := by have := X9.lt; omega
          have lY10 : w.heap.size ≤ wc.heap.size := by have := X1.lt; omega
          replace X1 := X1.below B
          replace X2 := X2.below B
          replace X3 := X3.below B
          replace X8 := X8.below B
          replace X9 := X9.below B
          replace h0 := h0.below B
          replace h1 := h1.below B
          replace h2 := h2.below B
          replace p8 := p8.below B
          replace p9 := p9.below B
          replace HB := Lib.hid (bt HB.out B)
          clear B B0
          have cY100 := Y10.cell0
          have fY100 := Y10.frozen 0
          have cY101 := Y10.cell1
          have fY101 := Y10.frozen 1
          refine hK.out _ _ ?_ (fun hHeld => ?_)
          · exact ⟨X1.cell0, X1.cell1, X2.cell0, X2.cell1, X3.cell0, X3.cell1, X8.cell0, X8.cell1, X9.cell0, X9.cell1⟩
          clear hK K
          try simp only [Act.put, List.setIfInBounds_toArray, List.set_cons_zero, List.set_cons_succ]
          refine wpAnyH_ready (rs := [4]) (by kernel_rfl) (by simp) ?_
          refine AllReadyH.cons (o := ⟨some 48, _, _, _, _, _⟩) rfl (fun K hK => ?_) AllReadyH.nil
          go_simp
          refine hK.out _ _ ?_ (fun hHeld => ?_)
          · exact ⟨(X1.below (bel1 _ _)).cell0, (X1.below (bel1 _ _)).cell1, (X2.below (bel1 _ _)).cell0, (X2.below (bel1 _ _)).cell1, (X3.below (bel1 _ _)).cell0, (X3.below (bel1 _ _)).cell1, (X8.below (bel1 _ _)).cell0, (X8.below (bel1 _ _)).cell1, (X9.below (bel1 _ _)).cell0, (X9.below (bel1 _ _)).cell1⟩
          clear hK K
          try simp only [Act.put, List.setIfInBounds_toArray, List.set_cons_zero, List.set_cons_succ]
          refine wpAnyH_ready (rs := [5]) (by kernel_rfl) (by simp) ?_
          refine AllReadyH.cons (o := ⟨some 49, _, _, _, _, _⟩) rfl (fun K hK => ?_) AllReadyH.nil
          go_simp
          refine (wMul (r := 1 * x * (y + z)) (Wl.lit2 (K := 31) (W := w47) (g := w47.heap.size) (by simp) h0 p47.wr (by omega) (by omega)) (by omega) rfl).mono ?_
          rintro e w49 ⟨s49, A49, n49, c49, rfl, p49, j49, B0⟩
          have B := bt (bel1 w47 (.cells #[.bool s0, .slice a0 len0 cap0, .bool s47, .slice A47 n47 c47] 24)) B0
          have hl48 := ((Wl.lit2 (K := 31) (W := w47) (g := w47.heap.size) (by simp) h0 p47.wr (by omega) (by omega))).below B0
          replace X1 := X1.below B
          replace X2 := X2.below B
          replace X3 := X3.below B
          replace X8 := X8.below B
          replace X9 := X9.below B
          replace h0 := h0.below B
          replace h1 := h1.below B
          replace h2 := h2.below B
          replace p8 := p8.below B
          replace p9 := p9.below B
          replace Y10 := Y10.below B
          replace p47 := p47.below B
          replace HB := Lib.hid (bt HB.out B)
          clear B B0
          have cY100 := Y10.cell0
          have fY100 := Y10.frozen 0
          have cY101 := Y10.cell1
          have fY101 := Y10.frozen 1
          refine hK.out _ _ ?_ (fun hHeld => ?_)
          · exact ⟨X1.cell0, X1.cell1, X2.cell0, X2.cell1, X3.cell0, X3.cell1, X8.cell0, X8.cell1, X9.cell0, X9.cell1⟩
          clear hK K
          try simp only [Act.put, List.setIfInBounds_toArray, List.set_cons_zero, List.set_cons_succ]
          refine wpAnyH_ready (rs := [7]) (by kernel_rfl) (by simp) ?_
          refine AllReadyH.cons (o := ⟨none, _, _, _, _, _⟩) rfl (fun K hK => ?_) AllReadyH.nil
          go_simp
          refine hK.out _ _ ?_ (fun hHeld => ?_)
          · exact ⟨(X1.far dY10X1 _ _).cell0, (X1.far dY10X1 _ _).cell1, (X2.far dY10X2 _ _).cell0, (X2.far dY10X2 _ _).cell1, (X3.far dY10X3 _ _).cell0, (X3.far dY10X3 _ _).cell1, (X8.far dY10X8 _ _).cell0, (X8.far dY10X8 _ _).cell1, (X9.far dY10X9 _ _).cell0, (X9.far dY10X9 _ _).cell1⟩
          clear hK K
          try simp only [Act.put, List.setIfInBounds_toArray, List.set_cons_zero, List.set_cons_succ]
          refine wpAnyH_done (by kernel_rfl) ?_ _
          refine NoPanic.normal ?_
          go_wp2_with fail
          go_meet
          exact ⟨⟨X1.far dY10X1 _ _, X2.far dY10X2 _ _, X3.far dY10X3 _ _, h0.st Y10 _ _, h1.st Y10 _ _, h2.st Y10 _ _, st2 HB.out lY10 _ _⟩, ⟨X8.far dY10X8 _ _, p8.st Y10 _ _⟩, ⟨X9.far dY10X9 _ _, p9.st Y10 _ _⟩, ⟨_, s49, A49, n49, c49, rfl, Y10.set _ _ _ _, p49.st Y10 _ _, by omega⟩⟩
      case rest =>
        clear X1 X2 X3 h0 h1 h2 HB X8 p8 X9 p9
        obtain ⟨⟨X1, X2, X3, h0, h1, h2, HB0⟩, ⟨X8, p8⟩, ⟨X9, p9⟩, g10, s10, A10, n10, c10, rfl, X10, p10, j10⟩ := hcut
        have HB := Lib.hid HB0
        clear HB0
        go_upto_region 7 with (fail)
        go_cut [11] (fun v wx => REnv w s0 a0 len0 cap0 s1 a1 len1 cap1 s2 a2 len2 cap2 x y z wx ∧ RHas wx g8 s8 A8 n8 c8 (x + y + z) ∧ RHas wx g9 s9 A9 n9 c9 (x + (z + y)) ∧ RHas wx g10 s10 A10 n10 c10 (1 * x * (y + z)) ∧ RVar wx v 100 (1 * x * y + 1 * z * x))
        case first =>
          refine wp_region_noPanic ?_
          refine wp_region_held_drew (S := (fun w' => w'.cell? ⟨w.heap.size, 0, none⟩ = some (.bool s0) ∧ w'.cell? ⟨w.heap.size, 1, none⟩ = some (.slice a0 len0 cap0) ∧ w'.cell? ⟨w.heap.size + 1, 0, none⟩ = some (.bool s1) ∧ w'.cell? ⟨w.heap.size + 1, 1, none⟩ = some (.slice a1 len1 cap1) ∧ w'.cell? ⟨w.heap.size + 1 + 1, 0, none⟩ = some (.bool s2) ∧ w'.cell? ⟨w.heap.size + 1 + 1, 1, none⟩ = some (.slice a2 len2 cap2) ∧ w'.cell? ⟨g8, 0, none⟩ = some (.bool s8) ∧ w'.cell? ⟨g8, 1, none⟩ = some (.slice A8 n8 c8) ∧ w'.cell? ⟨g9, 0, none⟩ = some (.bool s9) ∧ w'.cell? ⟨g9, 1, none⟩ = some (.slice A9 n9 c9) ∧ w'.cell? ⟨g10, 0, none⟩ = some (.bool s10) ∧ w'.cell? ⟨g10, 1, none⟩ = some (.slice A10 n10 c10))) (by kernel_rfl) ?_ (fun hHeld => ?_)
          · exact ⟨X1.drew.cell0, X1.drew.cell1, X2.drew.cell0, X2.drew.cell1, X3.drew.cell0, X3.drew.cell1, X8.drew.cell0, X8.drew.cell1, X9.drew.cell0, X9.drew.cell1, X10.drew.cell0, X10.drew.cell1⟩
          refine wpAnyH_take (i := 0) (oi := ⟨some 50, _, _, _, _, _⟩) (v := ?v10) rfl (by kernel_rfl) (by kernel_rfl) (by kernel_rfl) (fun _ _ _ h => h) (Or.inl ⟨by rfl, ?hy10⟩) (by assumption) ?_
          case hy10 => (intro w hSw; (try dsimp only at hSw); go_simp; try with_reducible rfl)
          try simp only [Act.put, List.setIfInBounds_toArray, List.set_cons_zero, List.set_cons_succ]
          refine wpAnyH_take (i := 1) (oi := ⟨some 51, _, _, _, _, _⟩) (v := ?v11) rfl (by kernel_rfl) (by kernel_rfl) (by kernel_rfl) (fun _ _ _ h => h) (Or.inl ⟨by rfl, ?hy11⟩) (by assumption) ?_
          case hy11 => (intro w hSw; (try dsimp only at hSw); go_simp; try with_reducible rfl)
          try simp only [Act.put, List.setIfInBounds_toArray, List.set_cons_zero, List.set_cons_succ]
          refine wpAnyH_take (i := 4) (oi := ⟨some 54, _, _, _, _, _⟩) (v := ?v12) rfl (by kernel_rfl) (by kernel_rfl) (by kernel_rfl) (fun _ _ _ h => h) (Or.inl ⟨by rfl, ?hy12⟩) (by assumption) ?_
          case hy12 => (intro w hSw; (try dsimp only at hSw); go_simp; try with_reducible rfl)
          try simp only [Act.put, List.setIfInBounds_toArray, List.set_cons_zero, List.set_cons_succ]
          refine wpAnyH_take (i := 5) (oi := ⟨some 55, _, _, _, _, _⟩) (v := ?v13) rfl (by kernel_rfl) (by kernel_rfl) (by kernel_rfl) (fun _ _ _ h => h) (Or.inl ⟨by rfl, ?hy13⟩) (by assumption) ?_
          case hy13 => (intro w hSw; (try dsimp only at hSw); go_simp; try with_reducible rfl)
          try simp only [Act.put, List.setIfInBounds_toArray, List.set_cons_zero, List.set_cons_succ]
          refine wpAnyH_ready (rs := [2, 6, 9]) (by kernel_rfl) (by simp) ?_
          refine AllReadyH.cons (o := ⟨some 52, _, _, _, _, _⟩) rfl (fun K hK => ?_) (AllReadyH.cons (o := ⟨some 56, _, _, _, _, _⟩) rfl (fun K hK => ?_) (AllReadyH.cons (o := ⟨some 11, _, _, _, _, _⟩) rfl (fun K hK => ?_) AllReadyH.nil))
          · go_simp
            refine hK.out _ _ ?_ (fun hHeld => ?_)
            · exact ⟨(X1.below (bel1 _ _)).drew.cell0, (X1.below (bel1 _ _)).drew.cell1, (X2.below (bel1 _ _)).drew.cell0, (X2.below (bel1 _ _)).drew.cell1, (X3.below (bel1 _ _)).drew.cell0, (X3.below (bel1 _ _)).drew.cell1, (X8.below (bel1 _ _)).drew.cell0, (X8.below (bel1 _ _)).drew.cell1, (X9.below (bel1 _ _)).drew.cell0, (X9.below (bel1 _ _)).drew.cell1, (X10.below (bel1 _ _)).drew.cell0, (X10.below (bel1 _ _)).drew.cell1⟩
            clear hK K
            try simp only [Act.put, List.setIfInBounds_toArray, List.set_cons_zero, List.set_cons_succ]
            refine wpAnyH_ready (rs := [3, 6, 9]) (by kernel_rfl) (by simp) ?_
            refine AllReadyH.cons (o := ⟨some 53, _, _, _, _, _⟩) rfl (fun K hK => ?_) (AllReadyH.cons (o := ⟨some 56, _, _, _, _, _⟩) rfl (fun K hK => ?_) (AllReadyH.cons (o := ⟨some 11, _, _, _, _, _⟩) rfl (fun K hK => ?_) AllReadyH.nil))
            · go_simp
              refine (wMul (r := 1 * x * y) (Wl.lit2 (K := 15) (W := wc) (g := wc.heap.size) (by simp) h0 h1 (by omega) (by omega)).drew (by omega) rfl).mono ?_
              rintro e w53 ⟨s53, A53, n53, c53, rfl, p53, j53, B0⟩
              have B := bt ((bel1 wc (.cells #[.bool s0, .slice a0 len0 cap0, .bool s1, .slice a1 len1 cap1] 24)).drew) B0
              have hl52 := ((Wl.lit2 (K := 15) (W := wc) (g := wc.heap.size) (by simp) h0 h1 (by omega) (by omega))).drew.below B0
              replace X1 := X1.below B
              replace X2 := X2.below B
              replace X3 := X3.below B
              replace X8 := X8.below B
              replace X9 := X9.below B
              replace X10 := X10.below B
              replace h0 := h0.below B
              replace h1 := h1.below B
              replace h2 := h2.below B
              replace p8 := p8.below B
              replace p9 := p9.below B
              replace p10 := p10.below B
              replace HB := Lib.hid (bt HB.out B)
              clear B B0
              refine hK.out _ _ ?_ (fun hHeld => ?_)
              · exact ⟨X1.cell0, X1.cell1, X2.cell0, X2.cell1, X3.cell0, X3.cell1, X8.cell0, X8.cell1, X9.cell0, X9.cell1, X10.cell0, X10.cell1⟩
              clear hK K
              try simp only [Act.put, List.setIfInBounds_toArray, List.set_cons_zero, List.set_cons_succ]
              refine wpAnyH_ready (rs := [6, 9]) (by kernel_rfl) (by simp) ?_
              refine AllReadyH.cons (o := ⟨some 56, _, _, _, _, _⟩) rfl (fun K hK => ?_) (AllReadyH.cons (o := ⟨some 11, _, _, _, _, _⟩) rfl (fun K hK => ?_) AllReadyH.nil)
              · go_simp
                refine hK.out _ _ ?_ (fun hHeld => ?_)
                · exact ⟨(X1.below (bel1 _ _)).cell0, (X1.below (bel1 _ _)).cell1, (X2.below (bel1 _ _)).cell0, (X2.below (bel1 _ _)).cell1, (X3.below (bel1 _ _)).cell0, (X3.below (bel1 _ _)).cell1, (X8.below (bel1 _ _)).cell0, (X8.below (bel1 _ _)).cell1, (X9.below (bel1 _ _)).cell0, (X9.below (bel1 _ _)).cell1, (X10.below (bel1 _ _)).cell0, (X10.below (bel1 _ _)).cell1⟩
                clear hK K
                try simp only [Act.put, List.setIfInBounds_toArray, List.set_cons_zero, List.set_cons_succ]
                refine wpAnyH_ready (rs := [7, 9]) (by kernel_rfl) (by simp) ?_
                refine AllReadyH.cons (o := ⟨some 57, _, _, _, _, _⟩) rfl (fun K hK => ?_) (AllReadyH.cons (o := ⟨some 11, _, _, _, _, _⟩) rfl (fun K hK => ?_) AllReadyH.nil)
                · go_simp
                  refine (wMul (r := 1 * z * x) (Wl.lit2 (K := 15) (W := w53) (g := w53.heap.size) (by simp) h2 h0 (by omega) (by omega)) (by omega) rfl).mono ?_
                  rintro e w57 ⟨s57, A57, n57, c57, rfl, p57, j57, B0⟩
                  have B := bt (bel1 w53 (.cells #[.bool s2, .slice a2 len2 cap2, .bool s0, .slice a0 len0 cap0] 24)) B0
                  have hl56 := ((Wl.lit2 (K := 15) (W := w53) (g := w53.heap.size) (by simp) h2 h0 (by omega) (by omega))).below B0
                  replace X1 := X1.below B
                  replace X2 := X2.below B
                  replace X3 := X3.below B
                  replace X8 := X8.below B
                  replace X9 := X9.below B
                  replace X10 := X10.below B
                  replace h0 := h0.below B
                  replace h1 := h1.below B
                  replace h2 := h2.below B
                  replace p8 := p8.below B
                  replace p9 := p9.below B
                  replace p10 := p10.below B
                  replace hl52 := hl52.below B
                  replace p53 := p53.below B
                  replace HB := Lib.hid (bt HB.out B)
                  clear B B0
                  refine hK.out _ _ ?_ (fun hHeld => ?_)
                  · exact ⟨X1.cell0, X1.cell1, X2.cell0, X2.cell1, X3.cell0, X3.cell1, X8.cell0, X8.cell1, X9.cell0, X9.cell1, X10.cell0, X10.cell1⟩
                  clear hK K
                  try simp only [Act.put, List.setIfInBounds_toArray, List.set_cons_zero, List.set_cons_succ]
                  refine wpAnyH_ready (rs := [8, 9]) (by kernel_rfl) (by simp) ?_
                  refine AllReadyH.cons (o := ⟨some 58, _, _, _, _, _⟩) rfl (fun K hK => ?_) (AllReadyH.cons (o := ⟨some 11, _, _, _, _, _⟩) rfl (fun K hK => ?_) AllReadyH.nil)
                  · go_simp
                    refine (wAdd p53.wr p57.wr (by omega) (by omega) rfl).mono ?_
                    rintro e w58 ⟨s58, A58, n58, c58, rfl, p58, j58, B⟩
                    replace X1 := X1.below B
                    replace X2 := X2.below B
                    replace X3 := X3.below B
                    replace X8 := X8.below B
                    replace X9 := X9.below B
                    replace X10 := X10.below B
                    replace h0 := h0.below B
                    replace h1 := h1.below B
                    replace h2 := h2.below B
                    replace p8 := p8.below B
                    replace p9 := p9.below B
                    replace p10 := p10.below B
                    replace hl52 := hl52.below B
                    replace p53 := p53.below B
                    replace hl56 := hl56.below B
                    replace p57 := p57.below B
                    replace HB := Lib.hid (bt HB.out B)
                    clear B
                    refine hK.out _ _ ?_ (fun hHeld => ?_)
                    · exact ⟨X1.cell0, X1.cell1, X2.cell0, X2.cell1, X3.cell0, X3.cell1, X8.cell0, X8.cell1, X9.cell0, X9.cell1, X10.cell0, X10.cell1⟩
                    clear hK K
                    try simp only [Act.put, List.setIfInBounds_toArray, List.set_cons_zero, List.set_cons_succ]
                    refine wpAnyH_ready (rs := [9]) (by kernel_rfl) (by simp) ?_
                    refine AllReadyH.cons (o := ⟨some 11, _, _, _, _, _⟩) rfl (fun K hK => ?_) AllReadyH.nil
                    go_simp
                    refine hK.out _ _ ?_ (fun hHeld => ?_)
                    · exact ⟨(X1.below (bel1 _ _)).cell0, (X1.below (bel1 _ _)).cell1, (X2.below (bel1 _ _)).cell0, (X2.below (bel1 _ _)).cell1, (X3.below (bel1 _ _)).cell0, (X3.below (bel1 _ _)).cell1, (X8.below (bel1 _ _)).cell0, (X8.below (bel1 _ _)).cell1, (X9.below (bel1 _ _)).cell0, (X9.below (bel1 _ _)).cell1, (X10.below (bel1 _ _)).cell0, (X10.below (bel1 _ _)).cell1⟩
                    clear hK K
                    try simp only [Act.put, List.setIfInBounds_toArray, List.set_cons_zero, List.set_cons_succ]
                    refine wpAnyH_ready (rs := [10]) (by kernel_rfl) (by simp) ?_
                    refine AllReadyH.cons (o := ⟨none, _, _, _, _, _⟩) rfl (fun K hK => ?_) AllReadyH.nil
                    go_simp
                    refine hK.out _ _ ?_ (fun hHeld => ?_)
                    · exact ⟨(X1.below (bel1 _ _)).cell0, (X1.below (bel1 _ _)).cell1, (X2.below (bel1 _ _)).cell0, (X2.below (bel1 _ _)).cell1, (X3.below (bel1 _ _)).cell0, (X3.below (bel1 _ _)).cell1, (X8.below (bel1 _ _)).cell0, (X8.below (bel1 _ _)).cell1, (X9.below (bel1 _ _)).cell0, (X9.below (bel1 _ _)).cell1, (X10.below (bel1 _ _)).cell0, (X10.below (bel1 _ _)).cell1⟩
                    clear hK K
                    try simp only [Act.put, List.setIfInBounds_toArray, List.set_cons_zero, List.set_cons_succ]
                    refine wpAnyH_done (by kernel_rfl) ?_ _
                    refine NoPanic.normal ?_
                    go_wp2_with fail
                    go_meet
                    exact ⟨⟨X1.below (bel1 _ _), X2.below (bel1 _ _), X3.below (bel1 _ _), h0.below (bel1 _ _), h1.below (bel1 _ _), h2.below (bel1 _ _), bt HB.out (bel1 _ _)⟩, ⟨X8.below (bel1 _ _), p8.below (bel1 _ _)⟩, ⟨X9.below (bel1 _ _), p9.below (bel1 _ _)⟩, ⟨X10.below (bel1 _ _), p10.below (bel1 _ _)⟩, ⟨_, s58, A58, n58, c58, rfl, Bx.new _ _ _ _ _, p58.below (bel1 _ _), by omega⟩⟩
                  · go_simp
                    refine hK.out _ _ ?_ (fun hHeld => ?_)
                    · exact ⟨(X1.below (bel1 _ _)).cell0, (X1.below (bel1 _ _)).cell1, (X2.below (bel1 _ _)).cell0, (X2.below (bel1 _ _)).cell1, (X3.below (bel1 _ _)).cell0, (X3.below (bel1 _ _)).cell1, (X8.below (bel1 _ _)).cell0, (X8.below (bel1 _ _)).cell1, (X9.below (bel1 _ _)).cell0, (X9.below (bel1 _ _)).cell1, (X10.below (bel1 _ _)).cell0, (X10.below (bel1 _ _)).cell1⟩
                    clear hK K
                    try simp only [Act.put, List.setIfInBounds_toArray, List.set_cons_zero, List.set_cons_succ]
                    refine wpAnyH_ready (rs := [8]) (by kernel_rfl) (by simp) ?_
                    refine AllReadyH.cons (o := ⟨some 58, _, _, _, _, _⟩) rfl (fun K hK => ?_) AllReadyH.nil
                    go_simp
                    refine (wAdd (p53.below (bel1 _ _)).wr (p57.below (bel1 _ _)).wr (by omega) (by omega) rfl).mono ?_
                    rintro e w58 ⟨s58, A58, n58, c58, rfl, p58, j58, B0⟩
                    have B := bt (bel1 w57 (.cells #[.bool false, .slice none 0 0] 24)) B0
                    have Y11 := ((Bx.newAt w57 (g := w57.heap.size) (by simp) false none 0 0)).below B0
                    have dY11X1 : w.heap.size ≠ w57.heap.size := by have := X1.lt; omega
                    have dY11X2 : w.heap.size + 1 ≠ w57.heap.size := by have := X2.lt; omega
                    have dY11X3 : w.heap.size + 1 + 1 ≠ w57.heap.size := by have := X3.lt; omega
                    have dY11X8 : g8 ≠ w57.heap.size := by have := X8.lt; omega
                    have dY11X9 : g9 ≠ w57.heap.size := by have := X9.lt; omega
                    have dY11X10 : g10 ≠ w57.heap.size := by have := X10.lt; omega
                    have lY11 : w.heap.size ≤ w57.heap.size := by have := X1.lt; omega
                    replace X1 := X1.below B
                    replace X2 := X2.below B
                    replace X3 := X3.below B
                    replace X8 := X8.below B
                    replace X9 := X9.below B
                    replace X10 := X10.below B
                    replace h0 := h0.below B
                    replace h1 := h1.below B
                    replace h2 := h2.below B
                    replace p8 := p8.below B
                    replace p9 := p9.below B
                    replace p10 := p10.below B
                    replace hl52 := hl52.below B
                    replace p53 := p53.below B
                    replace hl56 := hl56.below B
                    replace p57 := p57.below B
                    replace HB := Lib.hid (bt HB.out B)
                    clear B B0
                    have cY110 := Y11.cell0
                    have fY110 := Y11.frozen 0
                    have cY111 := Y11.cell1
                    have fY111 := Y11.frozen 1
                    refine hK.out _ _ ?_ (fun hHeld => ?_)
                    · exact ⟨X1.cell0, X1.cell1, X2.cell0, X2.cell1, X3.cell0, X3.cell1, X8.cell0, X8.cell1, X9.cell0, X9.cell1, X10.cell0, X10.cell1⟩
                    clear hK K
                    try simp only [Act.put, List.setIfInBounds_toArray, List.set_cons_zero, List.set_cons_succ]
                    refine wpAnyH_ready (rs := [10]) (by kernel_rfl) (by simp) ?_
                    refine AllReadyH.cons (o := ⟨none, _, _, _, _, _⟩) rfl (fun K hK => ?_) AllReadyH.nil
                    go_simp
                    refine hK.out _ _ ?_ (fun hHeld => ?_)
                    · exact ⟨(X1.far dY11X1 _ _).cell0, (X1.far dY11X1 _ _).cell1, (X2.far dY11X2 _ _).cell0, (X2.far dY11X2 _ _).cell1, (X3.far dY11X3 _ _).cell0, (X3.far dY11X3 _ _).cell1, (X8.far dY11X8 _ _).cell0, (X8.far dY11X8 _ _).cell1, (X9.far dY11X9 _ _).cell0, (X9.far dY11X9 _ _).cell1, (X10.far dY11X10 _ _).cell0, (X10.far dY11X10 _ _).cell1⟩
                    clear hK K
                    try simp only [Act.put, List.setIfInBounds_toArray, List.set_cons_zero, List.set_cons_succ]
                    refine wpAnyH_done (by kernel_rfl) ?_ _
                    refine NoPanic.normal ?_
                    go_wp2_with fail
                    go_meet
                    exact ⟨⟨X1.far dY11X1 _ _, X2.far dY11X2 _ _, X3.far dY11X3 _ _, h0.st Y11 _ _, h1.st Y11 _ _, h2.st Y11 _ _, st2 HB.out lY11 _ _⟩, ⟨X8.far dY11X8 _ _, p8.st Y11 _ _⟩, ⟨X9.far dY11X9 _ _, p9.st Y11 _ _⟩, ⟨X10.far dY11X10 _ _, p10.st Y11 _ _⟩, ⟨_, s58, A58, n58, c58, rfl, Y11.set _ _ _ _, p58.st Y11 _ _, by omega⟩⟩
                · go_simp
                  refine hK.out _ _ ?_ (fun hHeld => ?_)
                  · exact ⟨(X1.below (bel2 _ _ _)).cell0, (X1.below (bel2 _ _ _)).cell1, (X2.below (bel2 _ _ _)).cell0, (X2.below (bel2 _ _ _)).cell1, (X3.below (bel2 _ _ _)).cell0, (X3.below (bel2 _ _ _)).cell1, (X8.below (bel2 _ _ _)).cell0, (X8.below (bel2 _ _ _)).cell1, (X9.below (bel2 _ _ _)).cell0, (X9.below (bel2 _ _ _)).cell1, (X10.below (bel2 _ _ _)).cell0, (X10.below (bel2 _ _ _)).cell1⟩
                  clear hK K
                  try simp only [Act.put, List.setIfInBounds_toArray, List.set_cons_zero, List.set_cons_succ]
                  refine wpAnyH_ready (rs := [7]) (by kernel_rfl) (by simp) ?_
                  refine AllReadyH.cons (o := ⟨some 57, _, _, _, _, _⟩) rfl (fun K hK => ?_) AllReadyH.nil
                  go_simp
                  refine (wMul (r := 1 * z * x) ((Wl.lit2 (K := 15) (W := w53) (g := w53.heap.size) (by simp) h2 h0 (by omega) (by omega)).below (bel1 _ _)) (by omega) rfl).mono ?_
                  rintro e w57 ⟨s57, A57, n57, c57, rfl, p57, j57, B0⟩
                  have B := bt (bel2 w53 (.cells #[.bool s2, .slice a2 len2 cap2, .bool s0, .slice a0 len0 cap0] 24) (.cells #[.bool false, .slice none 0 0] 24)) B0
                  have hl56 := ((Wl.lit2 (K := 15) (W := w53) (g := w53.heap.size) (by simp) h2 h0 (by omega) (by omega)).below (bel1 _ _)).below B0
                  have Y11 := ((Bx.newAt (w53.alloc (.cells #[.bool s2, .slice a2 len2 cap2, .bool s0, .slice a0 len0 cap0] 24)) (g := w53.heap.size + 1) (by simp) false none 0 0)).below B0
                  have dY11X1 : w.heap.size ≠ w53.heap.size + 1 := by have := X1.lt; omega
                  have dY11X2 : w.heap.size + 1 ≠ w53.heap.size + 1 := by have := X2.lt; omega
                  have dY11X3 : w.heap.size + 1 + 1 ≠ w53.heap.size + 1 := by have := X3.lt; omega
                  have dY11X8 : g8 ≠ w53.heap.size + 1 := by have := X8.lt; omega
                  have dY11X9 : g9 ≠ w53.heap.size + 1 := by have := X9.lt; omega
                  have dY11X10 : g10 ≠ w53.heap.size + 1 := by have := X10.lt; omega
                  have lY11 : w.heap.size ≤ w53.heap.size + 1 := by have := X1.lt; omega
                  replace X1 := X1.below B
                  replace X2 := X2.below B
                  replace X3 := X3.below B
                  replace X8 := X8.below B
                  replace X9 := X9.below B
                  replace X10 := X10.below B
                  replace h0 := h0.below B
                  replace h1 := h1.below B
                  replace h2 := h2.below B
                  replace p8 := p8.below B
                  replace p9 := p9.below B
                  replace p10 := p10.below B
                  replace hl52 := hl52.below B
                  replace p53 := p53.below B
                  replace HB := Lib.hid (bt HB.out B)
                  clear B B0
                  have cY110 := Y11.cell0
                  have fY110 := Y11.frozen 0
                  have cY111 := Y11.cell1
                  have fY111 := Y11.frozen 1
                  refine hK.out _ _ ?_ (fun hHeld => ?_)
                  · exact ⟨X1.cell0, X1.cell1, X2.cell0, X2.cell1, X3.cell0, X3.cell1, X8.cell0, X8.cell1, X9.cell0, X9.cell1, X10.cell0, X10.cell1⟩
                  clear hK K
                  try simp only [Act.put, List.setIfInBounds_toArray, List.set_cons_zero, List.set_cons_succ]
                  refine wpAnyH_ready (rs := [8]) (by kernel_rfl) (by simp) ?_
                  refine AllReadyH.cons (o := ⟨some 58, _, _, _, _, _⟩) rfl (fun K hK => ?_) AllReadyH.nil
                  go_simp
                  refine (wAdd p53.wr p57.wr (by omega) (by omega) rfl).mono ?_
                  rintro e w58 ⟨s58, A58, n58, c58, rfl, p58, j58, B⟩
                  replace X1 := X1.below B
                  replace X2 := X2.below B
                  replace X3 := X3.below B
                  replace X8 := X8.below B
                  replace X9 := X9.below B
                  replace X10 := X10.below B
                  replace h0 := h0.below B
                  replace h1 := h1.below B
                  replace h2 := h2.below B
                  replace p8 := p8.below B
                  replace p9 := p9.below B
                  replace p10 := p10.below B
                  replace hl52 := hl52.below B
                  replace p53 := p53.below B
                  replace hl56 := hl56.below B
                  replace Y11 := Y11.below B
                  replace p57 := p57.below B
                  replace HB := Lib.hid (bt HB.out B)
                  clear B
                  have cY110 := Y11.cell0
                  have fY110 := Y11.frozen 0
                  have cY111 := Y11.cell1
                  have fY111 := Y11.frozen 1
                  refine hK.out _ _ ?_ (fun hHeld => ?_)
                  · exact ⟨X1.cell0, X1.cell1, X2.cell0, X2.cell1, X3.cell0, X3.cell1, X8.cell0, X8.cell1, X9.cell0, X9.cell1, X10.cell0, X10.cell1⟩
                  clear hK K
                  try simp only [Act.put, List.setIfInBounds_toArray, List.set_cons_zero, List.set_cons_succ]
                  refine wpAnyH_ready (rs := [10]) (by kernel_rfl) (by simp) ?_
                  refine AllReadyH.cons (o := ⟨none, _, _, _, _, _⟩) rfl (fun K hK => ?_) AllReadyH.nil
                  go_simp
                  refine hK.out _ _ ?_ (fun hHeld => ?_)
                  · exact ⟨(X1.far dY11X1 _ _).cell0, (X1.far dY11X1 _ _).cell1, (X2.far dY11X2 _ _).cell0, (X2.far dY11X2 _ _).cell1, (X3.far dY11X3 _ _).cell0, (X3.far dY11X3 _ _).cell1, (X8.far dY11X8 _ _).cell0, (X8.far dY11X8 _ _).cell1, (X9.far dY11X9 _ _).cell0, (X9.far dY11X9 _ _).cell1, (X10.far dY11X10 _ _).cell0, (X10.far dY11X10 _ _).cell1⟩
                  clear hK K
                  try simp only [Act.put, List.setIfInBounds_toArray, List.set_cons_zero, List.set_cons_succ]
                  refine wpAnyH_done (by kernel_rfl) ?_ _
                  refine NoPanic.normal ?_
                  go_wp2_with fail
                  go_meet
                  exact ⟨⟨X1.far dY11X1 _ _, X2.far dY11X2 _ _, X3.far dY11X3 _ _, h0.st Y11 _ _, h1.st Y11 _ _, h2.st Y11 _ _, st2 HB.out lY11 _ _⟩, ⟨X8.far dY11X8 _ _, p8.st Y11 _ _⟩, ⟨X9.far dY11X9 _ _, p9.st Y11 _ _⟩, ⟨X10.far dY11X10 _ _, p10.st Y11 _ _⟩, ⟨_, s58, A58, n58, c58, rfl, Y11.set _ _ _ _, p58.st Y11 _ _, by omega⟩⟩
              · go_simp
                refine hK.out _ _ ?_ (fun hHeld => ?_)
                · exact ⟨(X1.below (bel1 _ _)).cell0, (X1.below (bel1 _ _)).cell1, (X2.below (bel1 _ _)).cell0, (X2.below (bel1 _ _)).cell1, (X3.below (bel1 _ _)).cell0, (X3.below (bel1 _ _)).cell1, (X8.below (bel1 _ _)).cell0, (X8.below (bel1 _ _)).cell1, (X9.below (bel1 _ _)).cell0, (X9.below (bel1 _ _)).cell1, (X10.below (bel1 _ _)).cell0, (X10.below (bel1 _ _)).cell1⟩
                clear hK K
                try simp only [Act.put, List.setIfInBounds_toArray, List.set_cons_zero, List.set_cons_succ]
                refine wpAnyH_ready (rs := [6]) (by kernel_rfl) (by simp) ?_
                refine AllReadyH.cons (o := ⟨some 56, _, _, _, _, _⟩) rfl (fun K hK => ?_) AllReadyH.nil
                go_simp
                refine hK.out _ _ ?_ (fun hHeld => ?_)
                · exact ⟨(X1.below (bel2 _ _ _)).cell0, (X1.below (bel2 _ _ _)).cell1, (X2.below (bel2 _ _ _)).cell0, (X2.below (bel2 _ _ _)).cell1, (X3.below (bel2 _ _ _)).cell0, (X3.below (bel2 _ _ _)).cell1, (X8.below (bel2 _ _ _)).cell0, (X8.below (bel2 _ _ _)).cell1, (X9.below (bel2 _ _ _)).cell0, (X9.below (bel2 _ _ _)).cell1, (X10.below (bel2 _ _ _)).cell0, (X10.below (bel2 _ _ _)).cell1⟩
                clear hK K
                try simp only [Act.put, List.setIfInBounds_toArray, List.set_cons_zero, List.set_cons_succ]
                refine wpAnyH_ready (rs := [7]) (by kernel_rfl) (by simp) ?_
                refine AllReadyH.cons (o := ⟨some 57, _, _, _, _, _⟩) rfl (fun K hK => ?_) AllReadyH.nil
                go_simp
                refine (wMul (r := 1 * z * x) (Wl.lit2 (K := 15) (W := (w53.alloc (.cells #[.bool false, .slice none 0 0] 24))) (g := w53.heap.size + 1) (by simp) (h2.below (bel1 _ _)) (h0.below (bel1 _ _)) (by omega) (by omega)) (by omega) rfl).mono ?_
                rintro e w57 ⟨s57, A57, n57, c57, rfl, p57, j57, B0⟩
                have B := bt (bel2 w53 (.cells #[.bool false, .slice none 0 0] 24) (.cells #[.bool s2, .slice a2 len2 cap2, .bool s0, .slice a0 len0 cap0] 24)) B0
                have Y11 := ((Bx.newAt w53 (g := w53.heap.size) (by simp) false none 0 0).below (bel1 _ _)).below B0
                have dY11X1 : w.heap.size ≠ w53.heap.size := by have := X1.lt; omega
                have dY11X2 : w.heap.size + 1 ≠ w53.heap.size := by have := X2.lt; omega
                have dY11X3 : w.heap.size + 1 + 1 ≠ w53.heap.size := by have := X3.lt; omega
                have dY11X8 : g8 ≠ w53.heap.size := by have := X8.lt; omega
                have dY11X9 : g9 ≠ w53.heap.size := by have := X9.lt; omega
                have dY11X10 : g10 ≠ w53.heap.size := by have := X10.lt; omega
                have lY11 : w.heap.size ≤ w53.heap.size := by have := X1.lt; omega
                have hl56 := ((Wl.lit2 (K := 15) (W := (w53.alloc (.cells #[.bool false, .slice none 0 0] 24))) (g := w53.heap.size + 1) (by simp) (h2.below (bel1 _ _)) (h0.below (bel1 _ _)) (by omega) (by omega))).below B0
                replace X1 := X1.below B
                replace X2 := X2.below B
                replace X3 := X3.below B
                replace X8 := X8.below B
                replace X9 := X9.below B
                replace X10 := X10.below B
                replace h0 := h0.below B
                replace h1 := h1.below B
                replace h2 := h2.below B
                replace p8 := p8.below B
                replace p9 := p9.below B
                replace p10 := p10.below B
                replace hl52 := hl52.below B
                replace p53 := p53.below B
                replace HB := Lib.hid (bt HB.out B)
                clear B B0
                have cY110 := Y11.cell0
                have fY110 := Y11.frozen 0
                have cY111 := Y11.cell1
                have fY111 := Y11.frozen 1
                refine hK.out _ _ ?_ (fun hHeld => ?_)
                · exact ⟨X1.cell0, X1.cell1, X2.cell0, X2.cell1, X3.cell0, X3.cell1, X8.cell0, X8.cell1, X9.cell0, X9.cell1, X10.cell0, X10.cell1⟩
                clear hK K
                try simp only [Act.put, List.setIfInBounds_toArray, List.set_cons_zero, List.set_cons_succ]
                refine wpAnyH_ready (rs := [8]) (by kernel_rfl) (by simp) ?_
                refine AllReadyH.cons (o := ⟨some 58, _, _, _, _, _⟩) rfl (fun K hK => ?_) AllReadyH.nil
                go_simp
                refine (wAdd p53.wr p57.wr (by omega) (by omega) rfl).mono ?_
                rintro e w58 ⟨s58, A58, n58, c58, rfl, p58, j58, B⟩
                replace X1 := X1.below B
                replace X2 := X2.below B
                replace X3 := X3.below B
                replace X8 := X8.below B
                replace X9 := X9.below B
                replace X10 := X10.below B
                replace h0 := h0.below B
                replace h1 := h1.below B
                replace h2 := h2.below B
                replace p8 := p8.below B
                replace p9 := p9.below B
                replace p10 := p10.below B
                replace hl52 := hl52.below B
                replace p53 := p53.below B
                replace Y11 := Y11.below B
                replace hl56 := hl56.below B
                replace p57 := p57.below B
                replace HB := Lib.hid (bt HB.out B)
                clear B
                have cY110 := Y11.cell0
                have fY110 := Y11.frozen 0
                have cY111 := Y11.cell1
                have fY111 := Y11.frozen 1
                refine hK.out _ _ ?_ (fun hHeld => ?_)
                · exact ⟨X1.cell0, X1.cell1, X2.cell0, X2.cell1, X3.cell0, X3.cell1, X8.cell0, X8.cell1, X9.cell0, X9.cell1, X10.cell0, X10.cell1⟩
                clear hK K
                try simp only [Act.put, List.setIfInBounds_toArray, List.set_cons_zero, List.set_cons_succ]
                refine wpAnyH_ready (rs := [10]) (by kernel_rfl) (by simp) ?_
                refine AllReadyH.cons (o := ⟨none, _, _, _, _, _⟩) rfl (fun K hK => ?_) AllReadyH.nil
                go_simp
                refine hK.out _ _ ?_ (fun hHeld => ?_)
                · exact ⟨(X1.far dY11X1 _ _).cell0, (X1.far dY11X1 _ _).cell1, (X2.far dY11X2 _ _).cell0, (X2.far dY11X2 _ _).cell1, (X3.far dY11X3 _ _).cell0, (X3.far dY11X3 _ _).cell1, (X8.far dY11X8 _ _).cell0, (X8.far dY11X8 _ _).cell1, (X9.far dY11X9 _ _).cell0, (X9.far dY11X9 _ _).cell1, (X10.far dY11X10 _ _).cell0, (X10.far dY11X10 _ _).cell1⟩
                clear hK K
                try simp only [Act.put, List.setIfInBounds_toArray, List.set_cons_zero, List.set_cons_succ]
                refine wpAnyH_done (by kernel_rfl) ?_ _
                refine NoPanic.normal ?_
                go_wp2_with fail
                go_meet
                exact ⟨⟨X1.far dY11X1 _ _, X2.far dY11X2 _ _, X3.far dY11X3 _ _, h0.st Y11 _ _, h1.st Y11 _ _, h2.st Y11 _ _, st2 HB.out lY11 _ _⟩, ⟨X8.far dY11X8 _ _, p8.st Y11 _ _⟩, ⟨X9.far dY11X9 _ _, p9.st Y11 _ _⟩, ⟨X10.far dY11X10 _ _, p10.st Y11 _ _⟩, ⟨_, s58, A58, n58, c58, rfl, Y11.set _ _ _ _, p58.st Y11 _ _, by omega⟩⟩
            · go_simp
              refine hK.out _ _ ?_ (fun hHeld => ?_)
              · exact ⟨(X1.below (bel2 _ _ _)).drew.cell0, (X1.below (bel2 _ _ _)).drew.cell1, (X2.below (bel2 _ _ _)).drew.cell0, (X2.below (bel2 _ _ _)).drew.cell1, (X3.below (bel2 _ _ _)).drew.cell0, (X3.below (bel2 _ _ _)).drew.cell1, (X8.below (bel2 _ _ _)).drew.cell0, (X8.below (bel2 _ _ _)).drew.cell1, (X9.below (bel2 _ _ _)).drew.cell0, (X9.below (bel2 _ _ _)).drew.cell1, (X10.below (bel2 _ _ _)).drew.cell0, (X10.below (bel2 _ _ _)).drew.cell1⟩
              clear hK K
              try simp only [Act.put, List.setIfInBounds_toArray, List.set_cons_zero, List.set_cons_succ]
              refine wpAnyH_ready (rs := [3, 9]) (by kernel_rfl) (by simp) ?_
              refine AllReadyH.cons (o := ⟨some 53, _, _, _, _, _⟩) rfl (fun K hK => ?_) (AllReadyH.cons (o := ⟨some 11, _, _, _, _, _⟩) rfl (fun K hK => ?_) AllReadyH.nil)
              · go_simp
                refine (wMul (r := 1 * x * y) ((Wl.lit2 (K := 15) (W := wc) (g := wc.heap.size) (by simp) h0 h1 (by omega) (by omega)).below (bel1 _ _)).drew (by omega) rfl).mono ?_
                rintro e w53 ⟨s53, A53, n53, c53, rfl, p53, j53, B0⟩
                have B := bt ((bel2 wc (.cells #[.bool s0, .slice a0 len0 cap0, .bool s1, .slice a1 len1 cap1] 24) (.cells #[.bool s2, .slice a2 len2 cap2, .bool s0, .slice a0 len0 cap0] 24)).drew) B0
                have hl52 := ((Wl.lit2 (K := 15) (W := wc) (g := wc.heap.size) (by simp) h0 h1 (by omega) (by omega)).below (bel1 _ _)).drew.below B0
                have hl56 := ((Wl.lit2 (K := 15) (W := (wc.alloc (.cells #[.bool s0, .slice a0 len0 cap0, .bool s1, .slice a1 len1 cap1] 24))) (g := wc.heap.size + 1) (by simp) (h2.below (bel1 _ _)) (h0.below (bel1 _ _)) (by omega) (by omega))).drew.below B0
                replace X1 := X1.below B
                replace X2 := X2.below B
                replace X3 := X3.below B
                replace X8 := X8.below B
                replace X9 := X9.below B
                replace X10 := X10.below B
                replace h0 := h0.below B
                replace h1 := h1.below B
                replace h2 := h2.below B
                replace p8 := p8.below B
                replace p9 := p9.below B
                replace p10 := p10.below B
                replace HB := Lib.hid (bt HB.out B)
                clear B B0
                refine hK.out _ _ ?_ (fun hHeld => ?_)
                · exact ⟨X1.cell0, X1.cell1, X2.cell0, X2.cell1, X3.cell0, X3.cell1, X8.cell0, X8.cell1, X9.cell0, X9.cell1, X10.cell0, X10.cell1⟩
                clear hK K
                try simp only [Act.put, List.setIfInBounds_toArray, List.set_cons_zero, List.set_cons_succ]
                refine wpAnyH_ready (rs := [7, 9]) (by kernel_rfl) (by simp) ?_
                refine AllReadyH.cons (o := ⟨some 57, _, _, _, _, _⟩) rfl (fun K hK => ?_) (AllReadyH.cons (o := ⟨some 11, _, _, _, _, _⟩) rfl (fun K hK => ?_) AllReadyH.nil)
                · go_simp
                  refine (wMul (r := 1 * z * x) hl56 (by omega) rfl).mono ?_
                  rintro e w57 ⟨s57, A57, n57, c57, rfl, p57, j57, B⟩
                  replace X1 := X1.below B
                  replace X2 := X2.below B
                  replace X3 := X3.below B
                  replace X8 := X8.below B
                  replace X9 := X9.below B
                  replace X10 := X10.below B
                  replace h0 := h0.below B
                  replace h1 := h1.below B
                  replace h2 := h2.below B
                  replace p8 := p8.below B
                  replace p9 := p9.below B
                  replace p10 := p10.below B
                  replace hl52 := hl52.below B
                  replace hl56 := hl56.below B
                  replace p53 := p53.below B
                  replace HB := Lib.hid (bt HB.out B)
                  clear B
                  refine hK.out _ _ ?_ (fun hHeld => ?_)
                  · exact ⟨X1.cell0, X1.cell1, X2.cell0, X2.cell1, X3.cell0, X3.cell1, X8.cell0, X8.cell1, X9.cell0, X9.cell1, X10.cell0, X10.cell1⟩
                  clear hK K
                  try simp only [Act.put, List.setIfInBounds_toArray, List.set_cons_zero, List.set_cons_succ]
                  refine wpAnyH_ready (rs := [8, 9]) (by kernel_rfl) (by simp) ?_
                  refine AllReadyH.cons (o := ⟨some 58, _, _, _, _, _⟩) rfl (fun K hK => ?_) (AllReadyH.cons (o := ⟨some 11, _, _, _, _, _⟩) rfl (fun K hK => ?_) AllReadyH.nil)
                  · go_simp
                    refine (wAdd p53.wr p57.wr (by omega) (by omega) rfl).mono ?_
                    rintro e w58 ⟨s58, A58, n58, c58, rfl, p58, j58, B⟩
                    replace X1 := X1.below B
                    replace X2 := X2.below B
                    replace X3 := X3.below B
                    replace X8 := X8.below B
                    replace X9 := X9.below B
                    replace X10 := X10.below B
                    replace h0 := h0.below B
                    replace h1 := h1.below B
                    replace h2 := h2.below B
                    replace p8 := p8.below B
                    replace p9 := p9.below B
                    replace p10 := p10.below B
                    replace hl52 := hl52.below B
                    replace hl56 := hl56.below B
                    replace p53 := p53.below B
                    replace p57 := p57.below B
                    replace HB := Lib.hid (bt HB.out B)
                    clear B
                    refine hK.out _ _ ?_ (fun hHeld => ?_)
                    · exact ⟨X1.cell0, X1.cell1, X2.cell0, X2.cell1, X3.cell0, X3.cell1, X8.cell0, X8.cell1, X9.cell0, X9.cell1, X10.cell0, X10.cell1⟩
                    clear hK K
                    try simp only [Act.put, List.setIfInBounds_toArray, List.set_cons_zero, List.set_cons_succ]
                    refine wpAnyH_ready (rs := [9]) (by kernel_rfl) (by simp) ?_
                    refine AllReadyH.cons (o := ⟨some 11, _, _, _, _, _⟩) rfl (fun K hK => ?_) AllReadyH.nil
                    go_simp
                    refine hK.out _ _ ?_ (fun hHeld => ?_)
                    · exact ⟨(X1.below (bel1 _ _)).cell0, (X1.below (bel1 _ _)).cell1, (X2.below (bel1 _ _)).cell0, (X2.below (bel1 _ _)).cell1, (X3.below (bel1 _ _)).cell0, (X3.below (bel1 _ _)).cell1, (X8.below (bel1 _ _)).cell0, (X8.below (bel1 _ _)).cell1, (X9.below (bel1 _ _)).cell0, (X9.below (bel1 _ _)).cell1, (X10.below (bel1 _ _)).cell0, (X10.below (bel1 _ _)).cell1⟩
                    clear hK K
                    try simp only [Act.put, List.setIfInBounds_toArray, List.set_cons_zero, List.set_cons_succ]
                    refine wpAnyH_ready (rs := [10]) (by kernel_rfl) (by simp) ?_
                    refine AllReadyH.cons (o := ⟨none, _, _, _, _, _⟩) rfl (fun K hK => ?_) AllReadyH.nil
                    go_simp
                    refine hK.out _ _ ?_ (fun hHeld => ?_)
                    · exact ⟨(X1.below (bel1 _ _)).cell0, (X1.below (bel1 _ _)).cell1, (X2.below (bel1 _ _)).cell0, (X2.below (bel1 _ _)).cell1, (X3.below (bel1 _ _)).cell0, (X3.below (bel1 _ _)).cell1, (X8.below (bel1 _ _)).cell0, (X8.below (bel1 _ _)).cell1, (X9.below (bel1 _ _)).cell0, (X9.below (bel1 _ _)).cell1, (X10.below (bel1 _ _)).cell0, (X10.below (bel1 _ _)).cell1⟩
                    clear hK K
                    try simp only [Act.put, List.setIfInBounds_toArray, List.set_cons_zero, List.set_cons_succ]
                    refine wpAnyH_done (by kernel_rfl) ?_ _
                    refine NoPanic.normal ?_
                    go_wp2_with fail
                    go_meet
                    exact ⟨⟨X1.below (bel1 _ _), X2.below (bel1 _ _), X3.below (bel1 _ _), h0.below (bel1 _ _), h1.below (bel1 _ _), h2.below (bel1 _ _), bt HB.out (bel1 _ _)⟩, ⟨X8.below (bel1 _ _), p8.below (bel1 _ _)⟩, ⟨X9.below (bel1 _ _), p9.below (bel1 _ _)⟩, ⟨X10.below (bel1 _ _), p10.below (bel1 _ _)⟩, ⟨_, s58, A58, n58, c58, rfl, Bx.new _ _ _ _ _, p58.below (bel1 _ _), by omega⟩⟩
                  · go_simp
                    refine hK.out _ _ ?_ (fun hHeld => ?_)
                    · exact ⟨(X1.below (bel1 _ _)).cell0, (X1.below (bel1 _ _)).cell1, (X2.below (bel1 _ _)).cell0, (X2.below (bel1 _ _)).cell1, (X3.below (bel1 _ _)).cell0, (X3.below (bel1 _ _)).cell1, (X8.below (bel1 _ _)).cell0, (X8.below (bel1 _ _)).cell1, (X9.below (bel1 _ _)).cell0, (X9.below (bel1 _ _)).cell1, (X10.below (bel1 _ _)).cell0, (X10.below (bel1 _ _)).cell1⟩
                    clear hK K
                    try simp only [Act.put, List.setIfInBounds_toArray, List.set_cons_zero, List.set_cons_succ]
                    refine wpAnyH_ready (rs := [8]) (by kernel_rfl) (by simp) ?_
                    refine AllReadyH.cons (o := ⟨some 58, _, _, _, _, _⟩) rfl (fun K hK => ?_) AllReadyH.nil
                    go_simp
                    refine (wAdd (p53.below (bel1 _ _)).wr (p57.below (bel1 _ _)).wr (by omega) (by omega) rfl).mono ?_
                    rintro e w58 ⟨s58, A58, n58, c58, rfl, p58, j58, B0⟩
                    have B := bt (bel1 w57 (.cells #[.bool false, .slice none 0 0] 24)) B0
                    have Y11 := ((Bx.newAt w57 (g := w57.heap.size) (by simp) false none 0 0)).below B0
                    have dY11X1 : w.heap.size ≠ w57.heap.size := by have := X1.lt; omega
                    have dY11X2 : w.heap.size + 1 ≠ w57.heap.size := by have := X2.lt; omega
                    have dY11X3 : w.heap.size + 1 + 1 ≠ w57.heap.size := by have := X3.lt; omega
                    have dY11X8 : g8 ≠ w57.heap.size := by have := X8.lt; omega
                    have dY11X9 : g9 ≠ w57.heap.size := by have := X9.lt; omega
                    have dY11X10 : g10 ≠ w57.heap.size := by have := X10.lt; omega
                    have lY11 : w.heap.size ≤ w57.heap.size := by have := X1.lt; omega
                    replace X1 := X1.below B
                    replace X2 := X2.below B
                    replace X3 := X3.below B
                    replace X8 := X8.below B
                    replace X9 := X9.below B
                    replace X10 := X10.below B
                    replace h0 := h0.below B
                    replace h1 := h1.below B
                    replace h2 := h2.below B
                    replace p8 := p8.below B
                    replace p9 := p9.below B
                    replace p10 := p10.below B
                    replace hl52 := hl52.below B
                    replace hl56 := hl56.below B
                    replace p53 := p53.below B
                    replace p57 := p57.below B
                    replace HB := Lib.hid (bt HB.out B)
                    clear B B0
                    have cY110 := Y11.cell0
                    have fY110 := Y11.frozen 0
                    have cY111 := Y11.cell1
                    have fY111 := Y11.frozen 1
                    refine hK.out _ _ ?_ (fun hHeld => ?_)
                    · exact ⟨X1.cell0, X1.cell1, X2.cell0, X2.cell1, X3.cell0, X3.cell1, X8.cell0, X8.cell1, X9.cell0, X9.cell1, X10.cell0, X10.cell1⟩
                    clear hK K
                    try simp only [Act.put, List.setIfInBounds_toArray, List.set_cons_zero, List.set_cons_succ]
                    refine wpAnyH_ready (rs := [10]) (by kernel_rfl) (by simp) ?_
                    refine AllReadyH.cons (o := ⟨none, _, _, _, _, _⟩) rfl (fun K hK => ?_) AllReadyH.nil
                    go_simp
                    refine hK.out _ _ ?_ (fun hHeld => ?_)
                    · exact ⟨(X1.far dY11X1 _ _).cell0, (X1.far dY11X1 _ _).cell1, (X2.far dY11X2 _ _).cell0, (X2.far dY11X2 _ _).cell1, (X3.far dY11X3 _ _).cell0, (X3.far dY11X3 _ _).cell1, (X8.far dY11X8 _ _).cell0, (X8.far dY11X8 _ _).cell1, (X9.far dY11X9 _ _).cell0, (X9.far dY11X9 _ _).cell1, (X10.far dY11X10 _ _).cell0, (X10.far dY11X10 _ _).cell1⟩
                    clear hK K
                    try simp only [Act.put, List.setIfInBounds_toArray, List.set_cons_zero, List.set_cons_succ]
                    refine wpAnyH_done (by kernel_rfl) ?_ _
                    refine NoPanic.normal ?_
                    go_wp2_with fail
                    go_meet
                    exact ⟨⟨X1.far dY11X1 _ _, X2.far dY11X2 _ _, X3.far dY11X3 _ _, h0.st Y11 _ _, h1.st Y11 _ _, h2.st Y11 _ _, st2 HB.out lY11 _ _⟩, ⟨X8.far dY11X8 _ _, p8.st Y11 _ _⟩, ⟨X9.far dY11X9 _ _, p9.st Y11 _ _⟩, ⟨X10.far dY11X10 _ _, p10.st Y11 _ _⟩, ⟨_, s58, A58, n58, c58, rfl, Y11.set _ _ _ _, p58.st Y11 _ _, by omega⟩⟩
                · go_simp
                  refine hK.out _ _ ?_ (fun hHeld => ?_)
                  · exact ⟨(X1.below (bel1 _ _)).cell0, (X1.below (bel1 _ _)).cell1, (X2.below (bel1 _ _)).cell0, (X2.below (bel1 _ _)).cell1, (X3.below (bel1 _ _)).cell0, (X3.below (bel1 _ _)).cell1, (X8.below (bel1 _ _)).cell0, (X8.below (bel1 _ _)).cell1, (X9.below (bel1 _ _)).cell0, (X9.below (bel1 _ _)).cell1, (X10.below (bel1 _ _)).cell0, (X10.below (bel1 _ _)).cell1⟩
                  clear hK K
                  try simp only [Act.put, List.setIfInBounds_toArray, List.set_cons_zero, List.set_cons_succ]
                  refine wpAnyH_ready (rs := [7]) (by kernel_rfl) (by simp) ?_
                  refine AllReadyH.cons (o := ⟨some 57, _, _, _, _, _⟩) rfl (fun K hK => ?_) AllReadyH.nil
                  go_simp
                  refine (wMul (r := 1 * z * x) (hl56.below (bel1 _ _)) (by omega) rfl).mono ?_
                  rintro e w57 ⟨s57, A57, n57, c57, rfl, p57, j57, B0⟩
                  have B := bt (bel1 w53 (.cells #[.bool false, .slice none 0 0] 24)) B0
                  have Y11 := ((Bx.newAt w53 (g := w53.heap.size) (by simp) false none 0 0)).below B0
                  have dY11X1 : w.heap.size ≠ w53.heap.size := by have := X1.lt; omega
                  have dY11X2 : w.heap.size + 1 ≠ w53.heap.size := by have := X2.lt; omega
                  have dY11X3 : w.heap.size + 1 + 1 ≠ w53.heap.size := by have := X3.lt; omega
                  have dY11X8 : g8 ≠ w53.heap.size := by have := X8.lt; omega
                  have dY11X9 : g9 ≠ w53.heap.size := by have := X9.lt; omega
                  have dY11X10 : g10 ≠ w53.heap.size := by have := X10.lt; omega
                  have lY11 : w.heap.size ≤ w53.heap.size := by have := X1.lt; omega
                  replace X1 := X1.below B
                  replace X2 := X2.below B
                  replace X3 := X3.below B
                  replace X8 := X8.below B
                  replace X9 := X9.below B
                  replace X10 := X10.below B
                  replace h0 := h0.below B
                  replace h1 := h1.below B
                  replace h2 := h2.below B
                  replace p8 := p8.below B
                  replace p9 := p9.below B
                  replace p10 := p10.below B
                  replace hl52 := hl52.below B
                  replace hl56 := hl56.below B
                  replace p53 := p53.below B
                  replace HB := Lib.hid (bt HB.out B)
                  clear B B0
                  have cY110 := Y11.cell0
                  have fY110 := Y11.frozen 0
                  have cY111 := Y11.cell1
                  have fY111 := Y11.frozen 1
                  refine hK.out _ _ ?_ (fun hHeld => ?_)
                  · exact ⟨X1.cell0, X1.cell1, X2.cell0, X2.cell1, X3.cell0, X3.cell1, X8.cell0, X8.cell1, X9.cell0, X9.cell1, X10.cell0, X10.cell1⟩
                  clear hK K
                  try simp only [Act.put, List.setIfInBounds_toArray, List.set_cons_zero, List.set_cons_succ]
                  refine wpAnyH_ready (rs := [8]) (by kernel_rfl) (by simp) ?_
                  refine AllReadyH.cons (o := ⟨some 58, _, _, _, _, _⟩) rfl (fun K hK => ?_) AllReadyH.nil
                  go_simp
                  refine (wAdd p53.wr p57.wr (by omega) (by omega) rfl).mono ?_
                  rintro e w58 ⟨s58, A58, n58, c58, rfl, p58, j58, B⟩
                  replace X1 := X1.below B
                  replace X2 := X2.below B
                  replace X3 := X3.below B
                  replace X8 := X8.below B
                  replace X9 := X9.below B
                  replace X10 := X10.below B
                  replace h0 := h0.below B
                  replace h1 := h1.below B
                  replace h2 := h2.below B
                  replace p8 := p8.below B
                  replace p9 := p9.below B
                  replace p10 := p10.below B
                  replace hl52 := hl52.below B
                  replace hl56 := hl56.below B
                  replace p53 := p53.below B
                  replace Y11 := Y11.below B
                  replace p57 := p57.below B
                  replace HB := Lib.hid (bt HB.out B)
                  clear B
                  have cY110 := Y11.cell0
                  have fY110 := Y11.frozen 0
                  have cY111 := Y11.cell1
                  have fY111 := Y11.frozen 1
                  refine hK.out _ _ ?_ (fun hHeld => ?_)
                  · exact ⟨X1.cell0, X1.cell1, X2.cell0, X2.cell1, X3.cell0, X3.cell1, X8.cell0, X8.cell1, X9.cell0, X9.cell1, X10.cell0, X10.cell1⟩
                  clear hK K
                  try simp only [Act.put, List.setIfInBounds_toArray, List.set_cons_zero, List.set_cons_succ]
                  refine wpAnyH_ready (rs := [10]) (by kernel_rfl) (by simp) ?_
                  refine AllReadyH.cons (o := ⟨none, _, _, _, _, _⟩) rfl (fun K hK => ?_) AllReadyH.nil
                  go_simp
                  refine hK.out _ _ ?_ (fun hHeld => ?_)
                  · exact ⟨(X1.far dY11X1 _ _).cell0, (X1.far dY11X1 _ _).cell1, (X2.far dY11X2 _ _).cell0, (X2.far dY11X2 _ _).cell1, (X3.far dY11X3 _ _).cell0, (X3.far dY11X3 _ _).cell1, (X8.far dY11X8 _ _).cell0, (X8.far dY11X8 _ _).cell1, (X9.far dY11X9 _ _).cell0, (X9.far dY11X9 _ _).cell1, (X10.far dY11X10 _ _).cell0, (X10.far dY11X10 _ _).cell1⟩
                  clear hK K
                  try simp only [Act.put, List.setIfInBounds_toArray, List.set_cons_zero, List.set_cons_succ]
                  refine wpAnyH_done (by kernel_rfl) ?_ _
                  refine NoPanic.normal ?_
                  go_wp2_with fail
                  go_meet
                  exact ⟨⟨X1.far dY11X1 _ _, X2.far dY11X2 _ _, X3.far dY11X3 _ _, h0.st Y11 _ _, h1.st Y11 _ _, h2.st Y11 _ _, st2 HB.out lY11 _ _⟩, ⟨X8.far dY11X8 _ _, p8.st Y11 _ _⟩, ⟨X9.far dY11X9 _ _, p9.st Y11 _ _⟩, ⟨X10.far dY11X10 _ _, p10.st Y11 _ _⟩, ⟨_, s58, A58, n58, c58, rfl, Y11.set _ _ _ _, p58.st Y11 _ _, by omega⟩⟩
              · go_simp
                refine hK.out _ _ ?_ (fun hHeld => ?_)
                · exact ⟨(X1.below (bel3 _ _ _ _)).drew.cell0, (X1.below (bel3 _ _ _ _)).drew.cell1, (X2.below (bel3 _ _ _ _)).drew.cell0, (X2.below (bel3 _ _ _ _)).drew.cell1, (X3.below (bel3 _ _ _ _)).drew.cell0, (X3.below (bel3 _ _ _ _)).drew.cell1, (X8.below (bel3 _ _ _ _)).drew.cell0, (X8.below (bel3 _ _ _ _)).drew.cell1, (X9.below (bel3 _ _ _ _)).drew.cell0, (X9.below (bel3 _ _ _ _)).drew.cell1, (X10.below (bel3 _ _ _ _)).drew.cell0, (X10.below (bel3 _ _ _ _)).drew.cell1⟩
                clear hK K
                try simp only [Act.put, List.setIfInBounds_toArray, List.set_cons_zero, List.set_cons_succ]
                refine wpAnyH_ready (rs := [3]) (by kernel_rfl) (by simp) ?_
                refine AllReadyH.cons (o := ⟨some 53, _, _, _, _, _⟩) rfl (fun K hK => ?_) AllReadyH.nil
                go_simp
                refine (wMul (r := 1 * x * y) ((Wl.lit2 (K := 15) (W := wc) (g := wc.heap.size) (by simp) h0 h1 (by omega) (by omega)).below (bel2 _ _ _)).drew (by omega) rfl).mono ?_
                rintro e w53 ⟨s53, A53, n53, c53, rfl, p53, j53, B0⟩
                have B := bt ((bel3 wc (.cells #[.bool s0, .slice a0 len0 cap0, .bool s1, .slice a1 len1 cap1] 24) (.cells #[.bool s2, .slice a2 len2 cap2, .bool s0, .slice a0 len0 cap0] 24) (.cells #[.bool false, .slice none 0 0] 24)).drew) B0
                have hl52 := ((Wl.lit2 (K := 15) (W := wc) (g := wc.heap.size) (by simp) h0 h1 (by omega) (by omega)).below (bel2 _ _ _)).drew.below B0
                have hl56 := ((Wl.lit2 (K := 15) (W := (wc.alloc (.cells #[.bool s0, .slice a0 len0 cap0, .bool s1, .slice a1 len1 cap1] 24))) (g := wc.heap.size + 1) (by simp) (h2.below (bel1 _ _)) (h0.below (bel1 _ _)) (by omega) (by omega)).below (bel1 _ _)).drew.below B0
                have Y11 := ((Bx.newAt ((wc.alloc (.cells #[.bool s0, .slice a0 len0 cap0, .bool s1, .slice a1 len1 cap1] 24)).alloc (.cells #[.bool s2, .slice a2 len2 cap2, .bool s0, .slice a0 len0 cap0] 24)) (g := wc.heap.size + 1 + 1) (by simp) false none 0 0)).drew.below B0
                have dY11X1 : w.heap.size ≠ wc.heap.size + 1 + 1 := by have := X1.lt; omega
                have dY11X2 : w.heap.size + 1 ≠ wc.heap.size + 1 + 1 := by have := X2.lt; omega
                have dY11X3 : w.heap.size + 1 + 1 ≠ wc.heap.size + 1 + 1 := by have := X3.lt; omega
                have dY11X8 : g8 ≠ wc.heap.size + 1 + 1 := by have := X8.lt; omega
                have dY11X9 : g9 ≠ wc.heap.size + 1 + 1 := by have := X9.lt; omega
                have dY11X10 : g10 ≠ wc.heap.size + 1 + 1 := by have := X10.lt; omega
                have lY11 : w.heap.size ≤ wc.heap.size + 1 + 1 := by have := X1.lt; omega
                replace X1 := X1.below B
                replace X2 := X2.below B
                replace X3 := X3.below B
                replace X8 := X8.below B
                replace X9 := X9.below B
                replace X10 := X10.below B
                replace h0 := h0.below B
                replace h1 := h1.below B
                replace h2 := h2.below B
                replace p8 := p8.below B
                replace p9 := p9.below B
                replace p10 := p10.below B
                replace HB := Lib.hid (bt HB.out B)
                clear B B0
                have cY110 := Y11.cell0
                have fY110 := Y11.frozen 0
                have cY111 := Y11.cell1
                have fY111 := Y11.frozen 1
                refine hK.out _ _ ?_ (fun hHeld => ?_)
                · exact ⟨X1.cell0, X1.cell1, X2.cell0, X2.cell1, X3.cell0, X3.cell1, X8.cell0, X8.cell1, X9.cell0, X9.cell1, X10.cell0, X10.cell1⟩
                clear hK K
                try simp only [Act.put, List.setIfInBounds_toArray, List.set_cons_zero, List.set_cons_succ]
                refine wpAnyH_ready (rs := [7]) (by kernel_rfl) (by simp) ?_
                refine AllReadyH.cons (o := ⟨some 57, _, _, _, _, _⟩) rfl (fun K hK => ?_) AllReadyH.nil
                go_simp
                refine (wMul (r := 1 * z * x) hl56 (by omega) rfl).mono ?_
                rintro e w57 ⟨s57, A57, n57, c57, rfl, p57, j57, B⟩
                replace X1 := X1.below B
                replace X2 := X2.below B
                replace X3 := X3.below B
                replace X8 := X8.below B
                replace X9 := X9.below B
                replace X10 := X10.below B
                replace h0 := h0.below B
                replace h1 := h1.below B
                replace h2 := h2.below B
                replace p8 := p8.below B
                replace p9 := p9.below B
                replace p10 := p10.below B
                replace hl52 := hl52.below B
                replace hl56 := hl56.below B
                replace Y11 := Y11.below B
                replace p53 := p53.below B
                replace HB := Lib.hid (bt HB.out B)
                clear B
                have cY110 := Y11.cell0
                have fY110 := Y11.frozen 0
                have cY111 := Y11.cell1
                have fY111 := Y11.frozen 1
                refine hK.out _ _ ?_ (fun hHeld => ?_)
                · exact ⟨X1.cell0, X1.cell1, X2.cell0, X2.cell1, X3.cell0, X3.cell1, X8.cell0, X8.cell1, X9.cell0, X9.cell1, X10.cell0, X10.cell1⟩
                clear hK K
                try simp only [Act.put, List.setIfInBounds_toArray, List.set_cons_zero, List.set_cons_succ]
                refine wpAnyH_ready (rs := [8]) (by kernel_rfl) (by simp) ?_
                refine AllReadyH.cons (o := ⟨some 58, _, _, _, _, _⟩) rfl (fun K hK => ?_) AllReadyH.nil
                go_simp
                refine (wAdd p53.wr p57.wr (by omega) (by omega) rfl).mono ?_
                rintro e w58 ⟨s58, A58, n58, c58, rfl, p58, j58, B⟩
                replace X1 := X1.below B
                replace X2 := X2.below B
                replace X3 := X3.below B
                replace X8 := X8.below B
                replace X9 := X9.below B
                replace X10 := X10.below B
                replace h0 := h0.below B
                replace h1 := h1.below B
                replace h2 := h2.below B
                replace p8 := p8.below B
                replace p9 := p9.below B
                replace p10 := p10.below B
                replace hl52 := hl52.below B
                replace hl56 := hl56.below B
                replace Y11 := Y11.below B
                replace p53 := p53.below B
                replace p57 := p57.below B
                replace HB := Lib.hid (bt HB.out B)
                clear B
                have cY110 := Y11.cell0
                have fY110 := Y11.frozen 0
                have cY111 := Y11.cell1
                have fY111 := Y11.frozen 1
                refine hK.out _ _ ?_ (fun hHeld => ?_)
                · exact ⟨X1.cell0, X1.cell1, X2.cell0, X2.cell1, X3.cell0, X3.cell1, X8.cell0, X8.cell1, X9.cell0, X9.cell1, X10.cell0, X10.cell1⟩
                clear hK K
                try simp only [Act.put, List.setIfInBounds_toArray, List.set_cons_zero, List.set_cons_succ]
                refine wpAnyH_ready (rs := [10]) (by kernel_rfl) (by simp) ?_
                refine AllReadyH.cons (o := ⟨none, _, _, _, _, _⟩) rfl (fun K hK => ?_) AllReadyH.nil
                go_simp
                refine hK.out _ _ ?_ (fun hHeld => ?_)
                · exact ⟨(X1.far dY11X1 _ _).cell0, (X1.far dY11X1 _ _).cell1, (X2.far dY11X2 _ _).cell0, (X2.far dY11X2 _ _).cell1, (X3.far dY11X3 _ _).cell0, (X3.far dY11X3 _ _).cell1, (X8.far dY11X8 _ _).cell0, (X8.far dY11X8 _ _).cell1, (X9.far dY11X9 _ _).cell0, (X9.far dY11X9 _ _).cell1, (X10.far dY11X10 _ _).cell0, (X10.far dY11X10 _ _).cell1⟩
                clear hK K
                try simp only [Act.put, List.setIfInBounds_toArray, List.set_cons_zero, List.set_cons_succ]
                refine wpAnyH_done (by kernel_rfl) ?_ _
                refine NoPanic.normal ?_
                go_wp2_with fail
                go_meet
                exact ⟨⟨X1.far dY11X1 _ _, X2.far dY11X2 _ _, X3.far dY11X3 _ _, h0.st Y11 _ _, h1.st Y11 _ _, h2.st Y11 _ _, st2 HB.out lY11 _ _⟩, ⟨X8.far dY11X8 _ _, p8.st Y11 _ _⟩, ⟨X9.far dY11X9 _ _, p9.st Y11 _ _⟩, ⟨X10.far dY11X10 _ _, p10.st Y11 _ _⟩, ⟨_, s58, A58, n58, c58, rfl, Y11.set _ _ _ _, p58.st Y11 _ _, by omega⟩⟩
            · go_simp
              refine hK.out _ _ ?_ (fun hHeld => ?_)
              · exact ⟨(X1.below (bel2 _ _ _)).drew.cell0, (X1.below (bel2 _ _ _)).drew.cell1, (X2.below (bel2 _ _ _)).drew.cell0, (X2.below (bel2 _ _ _)).drew.cell1, (X3.below (bel2 _ _ _)).drew.cell0, (X3.below (bel2 _ _ _)).drew.cell1, (X8.below (bel2 _ _ _)).drew.cell0, (X8.below (bel2 _ _ _)).drew.cell1, (X9.below (bel2 _ _ _)).drew.cell0, (X9.below (bel2 _ _ _)).drew.cell1, (X10.below (bel2 _ _ _)).drew.cell0, (X10.below (bel2 _ _ _)).drew.cell1⟩
              clear hK K
              try simp only [Act.put, List.setIfInBounds_toArray, List.set_cons_zero, List.set_cons_succ]
              refine wpAnyH_ready (rs := [3, 6]) (by kernel_rfl) (by simp) ?_
              refine AllReadyH.cons (o := ⟨some 53, _, _, _, _, _⟩) rfl (fun K hK => ?_) (AllReadyH.cons (o := ⟨some 56, _, _, _, _, _⟩) rfl (fun K hK => ?_) AllReadyH.nil)
              · go_simp
                refine (wMul (r := 1 * x * y) ((Wl.lit2 (K := 15) (W := wc) (g := wc.heap.size) (by simp) h0 h1 (by omega) (by omega)).below (bel1 _ _)).drew (by omega) rfl).mono ?_
                rintro e w53 ⟨s53, A53, n53, c53, rfl, p53, j53, B0⟩
                have B := bt ((bel2 wc (.cells #[.bool s0, .slice a0 len0 cap0, .bool s1, .slice a1 len1 cap1] 24) (.cells #[.bool false, .slice none 0 0] 24)).drew) B0
                have hl52 := ((Wl.lit2 (K := 15) (W := wc) (g := wc.heap.size) (by simp) h0 h1 (by omega) (by omega)).below (bel1 _ _)).drew.below B0
                have Y11 := ((Bx.newAt (wc.alloc (.cells #[.bool s0, .slice a0 len0 cap0, .bool s1, .slice a1 len1 cap1] 24)) (g := wc.heap.size + 1) (by simp) false none 0 0)).drew.below B0
                have dY11X1 : w.heap.size ≠ wc.heap.size + 1 := by have := X1.lt; omega
                have dY11X2 : w.heap.size + 1 ≠ wc.heap.size + 1 := by have := X2.lt; omega
                have dY11X3 : w.heap.size + 1 + 1 ≠ wc.heap.size + 1 := by have := X3.lt; omega
                have dY11X8 : g8 ≠ wc.heap.size + 1 := by have := X8.lt; omega
                have dY11X9 : g9 ≠ wc.heap.size + 1 := by have := X9.lt; omega
                have dY11X10 : g10 ≠ wc.heap.size + 1 := by have := X10.lt; omega
                have lY11 : w.heap.size ≤ wc.heap.size + 1 := by have := X1.lt; omega
                replace X1 := X1.below B
                replace X2 := X2.below B
                replace X3 := X3.below B
                replace X8 := X8.below B
                replace X9 := X9.below B
                replace X10 := X10.below B
                replace h0 := h0.below B
                replace h1 := h1.below B
                replace h2 := h2.below B
                replace p8 := p8.below B
                replace p9 := p9.below B
                replace p10 := p10.below B
                replace HB := Lib.hid (bt HB.out B)
                clear B B0
                have cY110 := Y11.cell0
                have fY110 := Y11.frozen 0
                have cY111 := Y11.cell1
                have fY111 := Y11.frozen 1
                refine hK.out _ _ ?_ (fun hHeld => ?_)
                · exact ⟨X1.cell0, X1.cell1, X2.cell0, X2.cell1, X3.cell0, X3.cell1, X8.cell0, X8.cell1, X9.cell0, X9.cell1, X10.cell0, X10.cell1⟩
                clear hK K
                try simp only [Act.put, List.setIfInBounds_toArray, List.set_cons_zero, List.set_cons_succ]
                refine wpAnyH_ready (rs := [6]) (by kernel_rfl) (by simp) ?_
                refine AllReadyH.cons (o := ⟨some 56, _, _, _, _, _⟩) rfl (fun K hK => ?_) AllReadyH.nil
                go_simp
                refine hK.out _ _ ?_ (fun hHeld => ?_)
                · exact ⟨(X1.below (bel1 _ _)).cell0, (X1.below (bel1 _ _)).cell1, (X2.below (bel1 _ _)).cell0, (X2.below (bel1 _ _)).cell1, (X3.below (bel1 _ _)).cell0, (X3.below (bel1 _ _)).cell1, (X8.below (bel1 _ _)).cell0, (X8.below (bel1 _ _)).cell1, (X9.below (bel1 _ _)).cell0, (X9.below (bel1 _ _)).cell1, (X10.below (bel1 _ _)).cell0, (X10.below (bel1 _ _)).cell1⟩
                clear hK K
                try simp only [Act.put, List.setIfInBounds_toArray, List.set_cons_zero, List.set_cons_succ]
                refine wpAnyH_ready (rs := [7]) (by kernel_rfl) (by simp) ?_
                refine AllReadyH.cons (o := ⟨some 57, _, _, _, _, _⟩) rfl (fun K hK => ?_) AllReadyH.nil
                go_simp
                refine (wMul (r := 1 * z * x) (Wl.lit2 (K := 15) (W := w53) (g := w53.heap.size) (by simp) h2 h0 (by omega) (by omega)) (by omega) rfl).mono ?_
                rintro e w57 ⟨s57, A57, n57, c57, rfl, p57, j57, B0⟩
                have B := bt (bel1 w53 (.cells #[.bool s2, .slice a2 len2 cap2, .bool s0, .slice a0 len0 cap0] 24)) B0
                have hl56 := ((Wl.lit2 (K := 15) (W := w53) (g := w53.heap.size) (by simp) h2 h0 (by omega) (by omega))).below B0
                replace X1 := X1.below B
                replace X2 := X2.below B
                replace X3 := X3.below B
                replace X8 := X8.below B
                replace X9 := X9.below B
                replace X10 := X10.below B
                replace h0 := h0.below B
                replace h1 := h1.below B
                replace h2 := h2.below B
                replace p8 := p8.below B
                replace p9 := p9.below B
                replace p10 := p10.below B
                replace hl52 := hl52.below B
                replace Y11 := Y11.below B
                replace p53 := p53.below B
                replace HB := Lib.hid (bt HB.out B)
                clear B B0
                have cY110 := Y11.cell0
                have fY110 := Y11.frozen 0
                have cY111 := Y11.cell1
                have fY111 := Y11.frozen 1
                refine hK.out _ _ ?_ (fun hHeld => ?_)
                · exact ⟨X1.cell0, X1.cell1, X2.cell0, X2.cell1, X3.cell0, X3.cell1, X8.cell0, X8.cell1, X9.cell0, X9.cell1, X10.cell0, X10.cell1⟩
                clear hK K
                try simp only [Act.put, List.setIfInBounds_toArray, List.set_cons_zero, List.set_cons_succ]
                refine wpAnyH_ready (rs := [8]) (by kernel_rfl) (by simp) ?_
                refine AllReadyH.cons (o := ⟨some 58, _, _, _, _, _⟩) rfl (fun K hK => ?_) AllReadyH.nil
                go_simp
                refine (wAdd p53.wr p57.wr (by omega) (by omega) rfl).mono ?_
                rintro e w58 ⟨s58, A58, n58, c58, rfl, p58, j58, B⟩
                replace X1 := X1.below B
                replace X2 := X2.below B
                replace X3 := X3.below B
                replace X8 := X8.below B
                replace X9 := X9.below B
                replace X10 := X10.below B
                replace h0 := h0.below B
                replace h1 := h1.below B
                replace h2 := h2.below B
                replace p8 := p8.below B
                replace p9 := p9.below B
                replace p10 := p10.below B
                replace hl52 := hl52.below B
                replace Y11 := Y11.below B
                replace p53 := p53.below B
                replace hl56 := hl56.below B
                replace p57 := p57.below B
                replace HB := Lib.hid (bt HB.out B)
                clear B
                have cY110 := Y11.cell0
                have fY110 := Y11.frozen 0
                have cY111 := Y11.cell1
                have fY111 := Y11.frozen 1
                refine hK.out _ _ ?_ (fun hHeld => ?_)
                · exact ⟨X1.cell0, X1.cell1, X2.cell0, X2.cell1, X3.cell0, X3.cell1, X8.cell0, X8.cell1, X9.cell0, X9.cell1, X10.cell0, X10.cell1⟩
                clear hK K
                try simp only [Act.put, List.setIfInBounds_toArray, List.set_cons_zero, List.set_cons_succ]
                refine wpAnyH_ready (rs := [10]) (by kernel_rfl) (by simp) ?_
                refine AllReadyH.cons (o := ⟨none, _, _, _, _, _⟩) rfl (fun K hK => ?_) AllReadyH.nil
                go_simp
                refine hK.out _ _ ?_ (fun hHeld => ?_)
                · exact ⟨(X1.far dY11X1 _ _).cell0, (X1.far dY11X1 _ _).cell1, (X2.far dY11X2 _ _).cell0, (X2.far dY11X2 _ _).cell1, (X3.far dY11X3 _ _).cell0, (X3.far dY11X3 _ _).cell1, (X8.far dY11X8 _ _).cell0, (X8.far dY11X8 _ _).cell1, (X9.far dY11X9 _ _).cell0, (X9.far dY11X9 _ _).cell1, (X10.far dY11X10 _ _).cell0, (X10.far dY11X10 _ _).cell1⟩
                clear hK K
                try simp only [Act.put, List.setIfInBounds_toArray, List.set_cons_zero, List.set_cons_succ]
                refine wpAnyH_done (by kernel_rfl) ?_ _
                refine NoPanic.normal ?_
                go_wp2_with fail
                go_meet
                exact ⟨⟨X1.far dY11X1 _ _, X2.far dY11X2 _ _, X3.far dY11X3 _ _, h0.st Y11 _ _, h1.st Y11 _ _, h2.st Y11 _ _, st2 HB.out lY11 _ _⟩, ⟨X8.far dY11X8 _ _, p8.st Y11 _ _⟩, ⟨X9.far dY11X9 _ _, p9.st Y11 _ _⟩, ⟨X10.far dY11X10 _ _, p10.st Y11 _ _⟩, ⟨_, s58, A58, n58, c58, rfl, Y11.set _ _ _ _, p58.st Y11 _ _, by omega⟩⟩
              · go_simp
                refine hK.out _ _ ?_ (fun hHeld => ?_)
                · exact ⟨(X1.below (bel3 _ _ _ _)).drew.cell0, (X1.below (bel3 _ _ _ _)).drew.cell1, (X2.below (bel3 _ _ _ _)).drew.cell0, (X2.below (bel3 _ _ _ _)).drew.cell1, (X3.below (bel3 _ _ _ _)).drew.cell0, (X3.below (bel3 _ _ _ _)).drew.cell1, (X8.below (bel3 _ _ _ _)).drew.cell0, (X8.below (bel3 _ _ _ _)).drew.cell1, (X9.below (bel3 _ _ _ _)).drew.cell0, (X9.below (bel3 _ _ _ _)).drew.cell1, (X10.below (bel3 _ _ _ _)).drew.cell0, (X10.below (bel3 _ _ _ _)).drew.cell1⟩
                clear hK K
                try simp only [Act.put, List.setIfInBounds_toArray, List.set_cons_zero, List.set_cons_succ]
                refine wpAnyH_ready (rs := [3]) (by kernel_rfl) (by simp) ?_
                refine AllReadyH.cons (o := ⟨some 53, _, _, _, _, _⟩) rfl (fun K hK => ?_) AllReadyH.nil
                go_simp
                refine (wMul (r := 1 * x * y) ((Wl.lit2 (K := 15) (W := wc) (g := wc.heap.size) (by simp) h0 h1 (by omega) (by omega)).below (bel2 _ _ _)).drew (by omega) rfl).mono ?_
                rintro e w53 ⟨s53, A53, n53, c53, rfl, p53, j53, B0⟩
                have B := bt ((bel3 wc (.cells #[.bool s0, .slice a0 len0 cap0, .bool s1, .slice a1 len1 cap1] 24) (.cells #[.bool false, .slice none 0 0] 24) (.cells #[.bool s2, .slice a2 len2 cap2, .bool s0, .slice a0 len0 cap0] 24)).drew) B0
                have hl52 := ((Wl.lit2 (K := 15) (W := wc) (g := wc.heap.size) (by simp) h0 h1 (by omega) (by omega)).below (bel2 _ _ _)).drew.below B0
                have Y11 := ((Bx.newAt (wc.alloc (.cells #[.bool s0, .slice a0 len0 cap0, .bool s1, .slice a1 len1 cap1] 24)) (g := wc.heap.size + 1) (by simp) false none 0 0).below (bel1 _ _)).drew.below B0
                have dY11X1 : w.heap.size ≠ wc.heap.size + 1 := by have := X1.lt; omega
                have dY11X2 : w.heap.size + 1 ≠ wc.heap.size + 1 := by have := X2.lt; omega
                have dY11X3 : w.heap.size + 1 + 1 ≠ wc.heap.size + 1 := by have := X3.lt; omega
                have dY11X8 : g8 ≠ wc.heap.size + 1 := by have := X8.lt; omega
                have dY11X9 : g9 ≠ wc.heap.size + 1 := by have := X9.lt; omega
                have dY11X10 : g10 ≠ wc.heap.size + 1 := by have := X10.lt; omega
                have lY11 : w.heap.size ≤ wc.heap.size + 1 := by have := X1.lt; omega
                have hl56 := ((Wl.lit2 (K := 15) (W := ((wc.alloc (.cells #[.bool s0, .slice a0 len0 cap0, .bool s1, .slice a1 len1 cap1] 24)).alloc (.cells #[.bool false, .slice none 0 0] 24))) (g := wc.heap.size + 1 + 1) (by simp) (h2.below (bel2 _ _ _)) (h0.below (bel2 _ _ _)) (by omega) (by omega))).drew.below B0
                replace X1 := X1.below B
                replace X2 := X2.below B
                replace X3 := X3.below B
                replace X8 := X8.below B
                replace X9 := X9.below B
                replace X10 := X10.below B
                replace h0 := h0.below B
                replace h1 := h1.below B
                replace h2 := h2.below B
                replace p8 := p8.below B
                replace p9 := p9.below B
                replace p10 := p10.below B
                replace HB := Lib.hid (bt HB.out B)
                clear B B0
                have cY110 := Y11.cell0
                have fY110 := Y11.frozen 0
                have cY111 := Y11.cell1
                have fY111 := Y11.frozen 1
                refine hK.out _ _ ?_ (fun hHeld => ?_)
                · exact ⟨X1.cell0, X1.cell1, X2.cell0, X2.cell1, X3.cell0, X3.cell1, X8.cell0, X8.cell1, X9.cell0, X9.cell1, X10.cell0, X10.cell1⟩
                clear hK K
                try simp only [Act.put, List.setIfInBounds_toArray, List.set_cons_zero, List.set_cons_succ]
                refine wpAnyH_ready (rs := [7]) (by kernel_rfl) (by simp) ?_
                refine AllReadyH.cons (o := ⟨some 57, _, _, _, _, _⟩) rfl (fun K hK => ?_) AllReadyH.nil
                go_simp
                refine (wMul (r := 1 * z * x) hl56 (by omega) rfl).mono ?_
                rintro e w57 ⟨s57, A57, n57, c57, rfl, p57, j57, B⟩
                replace X1 := X1.below B
                replace X2 := X2.below B
                replace X3 := X3.below B
                replace X8 := X8.below B
                replace X9 := X9.below B
                replace X10 := X10.below B
                replace h0 := h0.below B
                replace h1 := h1.below B
                replace h2 := h2.below B
                replace p8 := p8.below B
                replace p9 := p9.below B
                replace p10 := p10.below B
                replace hl52 := hl52.below B
                replace Y11 := Y11.below B
                replace hl56 := hl56.below B
                replace p53 := p53.below B
                replace HB := Lib.hid (bt HB.out B)
                clear B
                have cY110 := Y11.cell0
                have fY110 := Y11.frozen 0
                have cY111 := Y11.cell1
                have fY111 := Y11.frozen 1
                refine hK.out _ _ ?_ (fun hHeld => ?_)
                · exact ⟨X1.cell0, X1.cell1, X2.cell0, X2.cell1, X3.cell0, X3.cell1, X8.cell0, X8.cell1, X9.cell0, X9.cell1, X10.cell0, X10.cell1⟩
                clear hK K
                try simp only [Act.put, List.setIfInBounds_toArray, List.set_cons_zero, List.set_cons_succ]
                refine wpAnyH_ready (rs := [8]) (by kernel_rfl) (by simp) ?_
                refine AllReadyH.cons (o := ⟨some 58, _, _, _, _, _⟩) rfl (fun K hK => ?_) AllReadyH.nil
                go_simp
                refine (wAdd p53.wr p57.wr (by omega) (by omega) rfl).mono ?_
                rintro e w58 ⟨s58, A58, n58, c58, rfl, p58, j58, B⟩
                replace X1 := X1.below B
                replace X2 := X2.below B
                replace X3 := X3.below B
                replace X8 := X8.below B
                replace X9 := X9.below B
                replace X10 := X10.below B
                replace h0 := h0.below B
                replace h1 := h1.below B
                replace h2 := h2.below B
                replace p8 := p8.below B
                replace p9 := p9.below B
                replace p10 := p10.below B
                replace hl52 := hl52.below B
                replace Y11 := Y11.below B
                replace hl56 := hl56.below B
                replace p53 := p53.below B
                replace p57 := p57.below B
                replace HB := Lib.hid (bt HB.out B)
                clear B
                have cY110 := Y11.cell0
                have fY110 := Y11.frozen 0
                have cY111 := Y11.cell1
                have fY111 := Y11.frozen 1
                refine hK.out _ _ ?_ (fun hHeld => ?_)
                · exact ⟨X1.cell0, X1.cell1, X2.cell0, X2.cell1, X3.cell0, X3.cell1, X8.cell0, X8.cell1, X9.cell0, X9.cell1, X10.cell0, X10.cell1⟩
                clear hK K
                try simp only [Act.put, List.setIfInBounds_toArray, List.set_cons_zero, List.set_cons_succ]
                refine wpAnyH_ready (rs := [10]) (by kernel_rfl) (by simp) ?_
                refine AllReadyH.cons (o := ⟨none, _, _, _, _, _⟩) rfl (fun K hK => ?_) AllReadyH.nil
                go_simp
                refine hK.out _ _ ?_ (fun hHeld => ?_)
                · exact ⟨(X1.far dY11X1 _ _).cell0, (X1.far dY11X1 _ _).cell1, (X2.far dY11X2 _ _).cell0, (X2.far dY11X2 _ _).cell1, (X3.far dY11X3 _ _).cell0, (X3.far dY11X3 _ _).cell1, (X8.far dY11X8 _ _).cell0, (X8.far dY11X8 _ _).cell1, (X9.far dY11X9 _ _).cell0, (X9.far dY11X9 _ _).cell1, (X10.far dY11X10 _ _).cell0, (X10.far dY11X10 _ _).cell1⟩
                clear hK K
                try simp only [Act.put, List.setIfInBounds_toArray, List.set_cons_zero, List.set_cons_succ]
                refine wpAnyH_done (by kernel_rfl) ?_ _
                refine NoPanic.normal ?_
                go_wp2_with fail
                go_meet
                exact ⟨⟨X1.far dY11X1 _ _, X2.far dY11X2 _ _, X3.far dY11X3 _ _, h0.st Y11 _ _, h1.st Y11 _ _, h2.st Y11 _ _, st2 HB.out lY11 _ _⟩, ⟨X8.far dY11X8 _ _, p8.st Y11 _ _⟩, ⟨X9.far dY11X9 _ _, p9.st Y11 _ _⟩, ⟨X10.far dY11X10 _ _, p10.st Y11 _ _⟩, ⟨_, s58, A58, n58, c58, rfl, Y11.set _ _ _ _, p58.st Y11 _ _, by omega⟩⟩
          · go_simp
            refine hK.out _ _ ?_ (fun hHeld => ?_)
            · exact ⟨(X1.below (bel1 _ _)).drew.cell0, (X1.below (bel1 _ _)).drew.cell1, (X2.below (bel1 _ _)).drew.cell0, (X2.below (bel1 _ _)).drew.cell1, (X3.below (bel1 _ _)).drew.cell0, (X3.below (bel1 _ _)).drew.cell1, (X8.below (bel1 _ _)).drew.cell0, (X8.below (bel1 _ _)).drew.cell1, (X9.below (bel1 _ _)).drew.cell0, (X9.below (bel1 _ _)).drew.cell1, (X10.below (bel1 _ _)).drew.cell0, (X10.below (bel1 _ _)).drew.cell1⟩
            clear hK K
            try simp only [Act.put, List.setIfInBounds_toArray, List.set_cons_zero, List.set_cons_succ]
            refine wpAnyH_ready (rs := [2, 9]) (by kernel_rfl) (by simp) ?_
            refine AllReadyH.cons (o := ⟨some 52, _, _, _, _, _⟩) rfl (fun K hK => ?_) (AllReadyH.cons (o := ⟨some 11, _, _, _, _, _⟩) rfl (fun K hK => ?_) AllReadyH.nil)
            · go_simp
              refine hK.out _ _ ?_ (fun hHeld => ?_)
              · exact ⟨(X1.below (bel2 _ _ _)).drew.cell0, (X1.below (bel2 _ _ _)).drew.cell1, (X2.below (bel2 _ _ _)).drew.cell0, (X2.below (bel2 _ _ _)).drew.cell1, (X3.below (bel2 _ _ _)).drew.cell0, (X3.below (bel2 _ _ _)).drew.cell1, (X8.below (bel2 _ _ _)).drew.cell0, (X8.below (bel2 _ _ _)).drew.cell1, (X9.below (bel2 _ _ _)).drew.cell0, (X9.below (bel2 _ _ _)).drew.cell1, (X10.below (bel2 _ _ _)).drew.cell0, (X10.below (bel2 _ _ _)).drew.cell1⟩
              clear hK K
              try simp only [Act.put, List.setIfInBounds_toArray, List.set_cons_zero, List.set_cons_succ]
              refine wpAnyH_ready (rs := [3, 9]) (by kernel_rfl) (by simp) ?_
              refine AllReadyH.cons (o := ⟨some 53, _, _, _, _, _⟩) rfl (fun K hK => ?_) (AllReadyH.cons (o := ⟨some 11, _, _, _, _, _⟩) rfl (fun K hK => ?_) AllReadyH.nil)
              · go_simp
                refine (wMul (r := 1 * x * y) (Wl.lit2 (K := 15) (W := (wc.alloc (.cells #[.bool s2, .slice a2 len2 cap2, .bool s0, .slice a0 len0 cap0] 24))) (g := wc.heap.size + 1) (by simp) (h0.below (bel1 _ _)) (h1.below (bel1 _ _)) (by omega) (by omega)).drew (by omega) rfl).mono ?_
                rintro e w53 ⟨s53, A53, n53, c53, rfl, p53, j53, B0⟩
                have B := bt ((bel2 wc (.cells #[.bool s2, .slice a2 len2 cap2, .bool s0, .slice a0 len0 cap0] 24) (.cells #[.bool s0, .slice a0 len0 cap0, .bool s1, .slice a1 len1 cap1] 24)).drew) B0
                have hl56 := ((Wl.lit2 (K := 15) (W := wc) (g := wc.heap.size) (by simp) h2 h0 (by omega) (by omega)).below (bel1 _ _)).drew.below B0
                have hl52 := ((Wl.lit2 (K := 15) (W := (wc.alloc (.cells #[.bool s2, .slice a2 len2 cap2, .bool s0, .slice a0 len0 cap0] 24))) (g := wc.heap.size + 1) (by simp) (h0.below (bel1 _ _)) (h1.below (bel1 _ _)) (by omega) (by omega))).drew.below B0
                replace X1 := X1.below B
                replace X2 := X2.below B
                replace X3 := X3.below B
                replace X8 := X8.below B
                replace X9 := X9.below B
                replace X10 := X10.below B
                replace h0 := h0.below B
                replace h1 := h1.below B
                replace h2 := h2.below B
                replace p8 := p8.below B
                replace p9 := p9.below B
                replace p10 := p10.below B
                replace HB := Lib.hid (bt HB.out B)
                clear B B0
                refine hK.out _ _ ?_ (fun hHeld => ?_)
                · exact ⟨X1.cell0, X1.cell1, X2.cell0, X2.cell1, X3.cell0, X3.cell1, X8.cell0, X8.cell1, X9.cell0, X9.cell1, X10.cell0, X10.cell1⟩
                clear hK K
                try simp only [Act.put, List.setIfInBounds_toArray, List.set_cons_zero, List.set_cons_succ]
                refine wpAnyH_ready (rs := [7, 9]) (by kernel_rfl) (by simp) ?_
                refine AllReadyH.cons (o := ⟨some 57, _, _, _, _, _⟩) rfl (fun K hK => ?_) (AllReadyH.cons (o := ⟨some 11, _, _, _, _, _⟩) rfl (fun K hK => ?_) AllReadyH.nil)
                · go_simp
                  refine (wMul (r := 1 * z * x) hl56 (by omega) rfl).mono ?_
                  rintro e w57 ⟨s57, A57, n57, c57, rfl, p57, j57, B⟩
                  replace X1 := X1.below B
                  replace X2 := X2.below B
                  replace X3 := X3.below B
                  replace X8 := X8.below B
                  replace X9 := X9.below B
                  replace X10 := X10.below B
                  replace h0 := h0.below B
                  replace h1 := h1.below B
                  replace h2 := h2.below B
                  replace p8 := p8.below B
                  replace p9 := p9.below B
                  replace p10 := p10.below B
                  replace hl56 := hl56.below B
                  replace hl52 := hl52.below B
                  replace p53 := p53.below B
                  replace HB := Lib.hid (bt HB.out B)
                  clear B
                  refine hK.out _ _ ?_ (fun hHeld => ?_)
                  · exact ⟨X1.cell0, X1.cell1, X2.cell0, X2.cell1, X3.cell0, X3.cell1, X8.cell0, X8.cell1, X9.cell0, X9.cell1, X10.cell0, X10.cell1⟩
                  clear hK K
                  try simp only [Act.put, List.setIfInBounds_toArray, List.set_cons_zero, List.set_cons_succ]
                  refine wpAnyH_ready (rs := [8, 9]) (by kernel_rfl) (by simp) ?_
                  refine AllReadyH.cons (o := ⟨some 58, _, _, _, _, _⟩) rfl (fun K hK => ?_) (AllReadyH.cons (o := ⟨some 11, _, _, _, _, _⟩) rfl (fun K hK => ?_) AllReadyH.nil)
                  · go_simp
                    refine (wAdd p53.wr p57.wr (by omega) (by omega) rfl).mono ?_
                    rintro e w58 ⟨s58, A58, n58, c58, rfl, p58, j58, B⟩
                    replace X1 := X1.below B
                    replace X2 := X2.below B
                    replace X3 := X3.below B
                    replace X8 := X8.below B
                    replace X9 := X9.below B
                    replace X10 := X10.below B
                    replace h0 := h0.below B
                    replace h1 := h1.below B
                    replace h2 := h2.below B
                    replace p8 := p8.below B
                    replace p9 := p9.below B
                    replace p10 := p10.below B
                    replace hl56 := hl56.below B
                    replace hl52 := hl52.below B
                    replace p53 := p53.below B
                    replace p57 := p57.below B
                    replace HB := Lib.hid (bt HB.out B)
                    clear B
                    refine hK.out _ _ ?_ (fun hHeld => ?_)
                    · exact ⟨X1.cell0, X1.cell1, X2.cell0, X2.cell1, X3.cell0, X3.cell1, X8.cell0, X8.cell1, X9.cell0, X9.cell1, X10.cell0, X10.cell1⟩
                    clear hK K
                    try simp only [Act.put, List.setIfInBounds_toArray, List.set_cons_zero, List.set_cons_succ]
                    refine wpAnyH_ready (rs := [9]) (by kernel_rfl) (by simp) ?_
                    refine AllReadyH.cons (o := ⟨some 11, _, _, _, _, _⟩) rfl (fun K hK => ?_) AllReadyH.nil
                    go_simp
                    refine hK.out _ _ ?_ (fun hHeld => ?_)
                    · exact ⟨(X1.below (bel1 _ _)).cell0, (X1.below (bel1 _ _)).cell1, (X2.below (bel1 _ _)).cell0, (X2.below (bel1 _ _)).cell1, (X3.below (bel1 _ _)).cell0, (X3.below (bel1 _ _)).cell1, (X8.below (bel1 _ _)).cell0, (X8.below (bel1 _ _)).cell1, (X9.below (bel1 _ _)).cell0, (X9.below (bel1 _ _)).cell1, (X10.below (bel1 _ _)).cell0, (X10.below (bel1 _ _)).cell1⟩
                    clear hK K
                    try simp only [Act.put, List.setIfInBounds_toArray, List.set_cons_zero, List.set_cons_succ]
                    refine wpAnyH_ready (rs := [10]) (by kernel_rfl) (by simp) ?_
                    refine AllReadyH.cons (o := ⟨none, _, _, _, _, _⟩) rfl (fun K hK => ?_) AllReadyH.nil
                    go_simp
                    refine hK.out _ _ ?_ (fun hHeld => ?_)
                    · exact ⟨(X1.below (bel1 _ _)).cell0, (X1.below (bel1 _ _)).cell1, (X2.below (bel1 _ _)).cell0, (X2.below (bel1 _ _)).cell1, (X3.below (bel1 _ _)).cell0, (X3.below (bel1 _ _)).cell1, (X8.below (bel1 _ _)).cell0, (X8.below (bel1 _ _)).cell1, (X9.below (bel1 _ _)).cell0, (X9.below (bel1 _ _)).cell1, (X10.below (bel1 _ _)).cell0, (X10.below (bel1 _ _)).cell1⟩
                    clear hK K
                    try simp only [Act.put, List.setIfInBounds_toArray, List.set_cons_zero, List.set_cons_succ]
                    refine wpAnyH_done (by kernel_rfl) ?_ _
                    refine NoPanic.normal ?_
                    go_wp2_with fail
                    go_meet
                    exact ⟨⟨X1.below (bel1 _ _), X2.below (bel1 _ _), X3.below (bel1 _ _), h0.below (bel1 _ _), h1.below (bel1 _ _), h2.below (bel1 _ _), bt HB.out (bel1 _ _)⟩, ⟨X8.below (bel1 _ _), p8.below (bel1 _ _)⟩, ⟨X9.below (bel1 _ _), p9.below (bel1 _ _)⟩, ⟨X10.below (bel1 _ _), p10.below (bel1 _ _)⟩, ⟨_, s58, A58, n58, c58, rfl, Bx.new _ _ _ _ _, p58.below (bel1 _ _), by omega⟩⟩
                  · go_simp
                    refine hK.out _ _ ?_ (fun hHeld => ?_)
                    · exact ⟨(X1.below (bel1 _ _)).cell0, (X1.below (bel1 _ _)).cell1, (X2.below (bel1 _ _)).cell0, (X2.below (bel1 _ _)).cell1, (X3.below (bel1 _ _)).cell0, (X3.below (bel1 _ _)).cell1, (X8.below (bel1 _ _)).cell0, (X8.below (bel1 _ _)).cell1, (X9.below (bel1 _ _)).cell0, (X9.below (bel1 _ _)).cell1, (X10.below (bel1 _ _)).cell0, (X10.below (bel1 _ _)).cell1⟩
                    clear hK K
                    try simp only [Act.put, List.setIfInBounds_toArray, List.set_cons_zero, List.set_cons_succ]
                    refine wpAnyH_ready (rs := [8]) (by kernel_rfl) (by simp) ?_
                    refine AllReadyH.cons (o := ⟨some 58, _, _, _, _, _⟩) rfl (fun K hK => ?_) AllReadyH.nil
                    go_simp
                    refine (wAdd (p53.below (bel1 _ _)).wr (p57.below (bel1 _ _)).wr (by omega) (by omega) rfl).mono ?_
                    rintro e w58 ⟨s58, A58, n58, c58, rfl, p58, j58, B0⟩
                    have B := bt (bel1 w57 (.cells #[.bool false, .slice none 0 0] 24)) B0
                    have Y11 := ((Bx.newAt w57 (g := w57.heap.size) (by simp) false none 0 0)).below B0
                    have dY11X1 : w.heap.size ≠ w57.heap.size := by have := X1.lt; omega
                    have dY11X2 : w.heap.size + 1 ≠ w57.heap.size := by have := X2.lt; omega
                    have dY11X3 : w.heap.size + 1 + 1 ≠ w57.heap.size := by have := X3.lt; omega
                    have dY11X8 : g8 ≠ w57.heap.size := by have := X8.lt; omega
                    have dY11X9 : g9 ≠ w57.heap.size := by have := X9.lt; omega
                    have dY11X10 : g10 ≠ w57.heap.size := by have := X10.lt; omega
                    have lY11 : w.heap.size ≤ w57.heap.size := by have := X1.lt; omega
                    replace X1 := X1.below B
                    replace X2 := X2.below B
                    replace X3 := X3.below B
                    replace X8 := X8.below B
                    replace X9 := X9.below B
                    replace X10 := X10.below B
                    replace h0 := h0.below B
                    replace h1 := h1.below B
                    replace h2 := h2.below B
                    replace p8 := p8.below B
                    replace p9 := p9.below B
                    replace p10 := p10.below B
                    replace hl56 := hl56.below B
                    replace hl52 := hl52.below B
                    replace p53 := p53.below B
                    replace p57 := p57.below B
                    replace HB := Lib.hid (bt HB.out B)
                    clear B B0
                    have cY110 := Y11.cell0
                    have fY110 := Y11.frozen 0
                    have cY111 := Y11.cell1
                    have fY111 := Y11.frozen 1
                    refine hK.out _ _ ?_ (fun hHeld => ?_)
                    · exact ⟨X1.cell0, X1.cell1, X2.cell0, X2.cell1, X3.cell0, X3.cell1, X8.cell0, X8.cell1, X9.cell0, X9.cell1, X10.cell0, X10.cell1⟩
                    clear hK K
                    try simp only [Act.put, List.setIfInBounds_toArray, List.set_cons_zero, List.set_cons_succ]
                    refine wpAnyH_ready (rs := [10]) (by kernel_rfl) (by simp) ?_
                    refine AllReadyH.cons (o := ⟨none, _, _, _, _, _⟩) rfl (fun K hK => ?_) AllReadyH.nil
                    go_simp
                    refine hK.out _ _ ?_ (fun hHeld => ?_)
                    · exact ⟨(X1.far dY11X1 _ _).cell0, (X1.far dY11X1 _ _).cell1, (X2.far dY11X2 _ _).cell0, (X2.far dY11X2 _ _).cell1, (X3.far dY11X3 _ _).cell0, (X3.far dY11X3 _ _).cell1, (X8.far dY11X8 _ _).cell0, (X8.far dY11X8 _ _).cell1, (X9.far dY11X9 _ _).cell0, (X9.far dY11X9 _ _).cell1, (X10.far dY11X10 _ _).cell0, (X10.far dY11X10 _ _).cell1⟩
                    clear hK K
                    try simp only [Act.put, List.setIfInBounds_toArray, List.set_cons_zero, List.set_cons_succ]
                    refine wpAnyH_done (by kernel_rfl) ?_ _
                    refine NoPanic.normal ?_
                    go_wp2_with fail
                    go_meet
                    exact ⟨⟨X1.far dY11X1 _ _, X2.far dY11X2 _ _, X3.far dY11X3 _ _, h0.st Y11 _ _, h1.st Y11 _ _, h2.st Y11 _ _, st2 HB.out lY11 _ _⟩, ⟨X8.far dY11X8 _ _, p8.st Y11 _ _⟩, ⟨X9.far dY11X9 _ _, p9.st Y11 _ _⟩, ⟨X10.far dY11X10 _ _, p10.st Y11 _ _⟩, ⟨_, s58, A58, n58, c58, rfl, Y11.set _ _ _ _, p58.st Y11 _ _, by omega⟩⟩
                · go_simp
                  refine hK.out _ _ ?_ (fun hHeld => ?_)
                  · exact ⟨(X1.below (bel1 _ _)).cell0, (X1.below (bel1 _ _)).cell1, (X2.below (bel1 _ _)).cell0, (X2.below (bel1 _ _)).cell1, (X3.below (bel1 _ _)).cell0, (X3.below (bel1 _ _)).cell1, (X8.below (bel1 _ _)).cell0, (X8.below (bel1 _ _)).cell1, (X9.below (bel1 _ _)).cell0, (X9.below (bel1 _ _)).cell1, (X10.below (bel1 _ _)).cell0, (X10.below (bel1 _ _)).cell1⟩
                  clear hK K
                  try simp only [Act.put, List.setIfInBounds_toArray, List.set_cons_zero, List.set_cons_succ]
                  refine wpAnyH_ready (rs := [7]) (by kernel_rfl) (by simp) ?_
                  refine AllReadyH.cons (o := ⟨some 57, _, _, _, _, _⟩) rfl (fun K hK => ?_) AllReadyH.nil
                  go_simp
                  refine (wMul (r := 1 * z * x) (hl56.below (bel1 _ _)) (by omega) rfl).mono ?_
                  rintro e w57 ⟨s57, A57, n57, c57, rfl, p57, j57, B0⟩
                  have B := bt (bel1 w53 (.cells #[.bool false, .slice none 0 0] 24)) B0
                  have Y11 := ((Bx.newAt w53 (g := w53.heap.size) (by simp) false none 0 0)).below B0
                  have dY11X1 : w.heap.size ≠ w53.heap.size := by have := X1.lt; omega
                  have dY11X2 : w.heap.size + 1 ≠ w53.heap.size := by have := X2.lt; omega
                  have dY11X3 : w.heap.size + 1 + 1 ≠ w53.heap.size := by have := X3.lt; omega
                  have dY11X8 : g8 ≠ w53.heap.size := by have := X8.lt; omega
                  have dY11X9 : g9 ≠ w53.heap.size := by have := X9.lt; omega
                  have dY11X10 : g10 ≠ w53.heap.size := by have := X10.lt; omega
                  have lY11 : w.heap.size ≤ w53.heap.size := by have := X1.lt; omega
                  replace X1 := X1.below B
                  replace X2 := X2.below B
                  replace X3 := X3.below B
                  replace X8 := X8.below B
                  replace X9 := X9.below B
                  replace X10 := X10.below B
                  replace h0 := h0.below B
                  replace h1 := h1.below B
                  replace h2 := h2.below B
                  replace p8 := p8.below B
                  replace p9 := p9.below B
                  replace p10 := p10.below B
                  replace hl56 := hl56.below B
                  replace hl52 := hl52.below B
                  replace p53 := p53.below B
                  replace HB := Lib.hid (bt HB.out B)
                  clear B B0
                  have cY110 := Y11.cell0
                  have fY110 := Y11.frozen 0
                  have cY111 := Y11.cell1
                  have fY111 := Y11.frozen 1
                  refine hK.out _ _ ?_ (fun hHeld => ?_)
                  · exact ⟨X1.cell0, X1.cell1, X2.cell0, X2.cell1, X3.cell0, X3.cell1, X8.cell0, X8.cell1, X9.cell0, X9.cell1, X10.cell0, X10.cell1⟩
                  clear hK K
                  try simp only [Act.put, List.setIfInBounds_toArray, List.set_cons_zero, List.set_cons_succ]
                  refine wpAnyH_ready (rs := [8]) (by kernel_rfl) (by simp) ?_
                  refine AllReadyH.cons (o := ⟨some 58, _, _, _, _, _⟩) rfl (fun K hK => ?_) AllReadyH.nil
                  go_simp
                  refine (wAdd p53.wr p57.wr (by omega) (by omega) rfl).mono ?_
                  rintro e w58 ⟨s58, A58, n58, c58, rfl, p58, j58, B⟩
                  replace X1 := X1.below B
                  replace X2 := X2.below B
                  replace X3 := X3.below B
                  replace X8 := X8.below B
                  replace X9 := X9.below B
                  replace X10 := X10.below B
                  replace h0 := h0.below B
                  replace h1 := h1.below B
                  replace h2 := h2.below B
                  replace p8 := p8.below B
                  replace p9 := p9.below B
                  replace p10 := p10.below B
                  replace hl56 := hl56.below B
                  replace hl52 := hl52.below B
                  replace p53 := p53.below B
                  replace Y11 := Y11.below B
                  replace p57 := p57.below B
                  replace HB := Lib.hid (bt HB.out B)
                  clear B
                  have cY110 := Y11.cell0
                  have fY110 := Y11.frozen 0
                  have cY111 := Y11.cell1
                  have fY111 := Y11.frozen 1
                  refine hK.out _ _ ?_ (fun hHeld => ?_)
                  · exact ⟨X1.cell0, X1.cell1, X2.cell0, X2.cell1, X3.cell0, X3.cell1, X8.cell0, X8.cell1, X9.cell0, X9.cell1, X10.cell0, X10.cell1⟩
                  clear hK K
                  try simp only [Act.put, List.setIfInBounds_toArray, List.set_cons_zero, List.set_cons_succ]
                  refine wpAnyH_ready (rs := [10]) (by kernel_rfl) (by simp) ?_
                  refine AllReadyH.cons (o := ⟨none, _, _, _, _, _⟩) rfl (fun K hK => ?_) AllReadyH.nil
                  go_simp
                  refine hK.out _ _ ?_ (fun hHeld => ?_)
                  · exact ⟨(X1.far dY11X1 _ _).cell0, (X1.far dY11X1 _ _).cell1, (X2.far dY11X2 _ _).cell0, (X2.far dY11X2 _ _).cell1, (X3.far dY11X3 _ _).cell0, (X3.far dY11X3 _ _).cell1, (X8.far dY11X8 _ _).cell0, (X8.far dY11X8 _ _).cell1, (X9.far dY11X9 _ _).cell0, (X9.far dY11X9 _ _).cell1, (X10.far dY11X10 _ _).cell0, (X10.far dY11X10 _ _).cell1⟩
                  clear hK K
                  try simp only [Act.put, List.setIfInBounds_toArray, List.set_cons_zero, List.set_cons_succ]
                  refine wpAnyH_done (by kernel_rfl) ?_ _
                  refine NoPanic.normal ?_
                  go_wp2_with fail
                  go_meet
                  exact ⟨⟨X1.far dY11X1 _ _, X2.far dY11X2 _ _, X3.far dY11X3 _ _, h0.st Y11 _ _, h1.st Y11 _ _, h2.st Y11 _ _, st2 HB.out lY11 _ _⟩, ⟨X8.far dY11X8 _ _, p8.st Y11 _ _⟩, ⟨X9.far dY11X9 _ _, p9.st Y11 _ _⟩, ⟨X10.far dY11X10 _ _, p10.st Y11 _ _⟩, ⟨_, s58, A58, n58, c58, rfl, Y11.set _ _ _ _, p58.st Y11 _ _, by omega⟩⟩
              · go_simp
                refine hK.out _ _ ?_ (fun hHeld => ?_)
                · exact ⟨(X1.below (bel3 _ _ _ _)).drew.cell0, (X1.below (bel3 _ _ _ _)).drew.cell1, (X2.below (bel3 _ _ _ _)).drew.cell0, (X2.below (bel3 _ _ _ _)).drew.cell1, (X3.below (bel3 _ _ _ _)).drew.cell0, (X3.below (bel3 _ _ _ _)).drew.cell1, (X8.below (bel3 _ _ _ _)).drew.cell0, (X8.below (bel3 _ _ _ _)).drew.cell1, (X9.below (bel3 _ _ _ _)).drew.cell0, (X9.below (bel3 _ _ _ _)).drew.cell1, (X10.below (bel3 _ _ _ _)).drew.cell0, (X10.below (bel3 _ _ _ _)).drew.cell1⟩
                clear hK K
                try simp only [Act.put, List.setIfInBounds_toArray, List.set_cons_zero, List.set_cons_succ]
                refine wpAnyH_ready (rs := [3]) (by kernel_rfl) (by simp) ?_
                refine AllReadyH.cons (o := ⟨some 53, _, _, _, _, _⟩) rfl (fun K hK => ?_) AllReadyH.nil
                go_simp
                refine (wMul (r := 1 * x * y) ((Wl.lit2 (K := 15) (W := (wc.alloc (.cells #[.bool s2, .slice a2 len2 cap2, .bool s0, .slice a0 len0 cap0] 24))) (g := wc.heap.size + 1) (by simp) (h0.below (bel1 _ _)) (h1.below (bel1 _ _)) (by omega) (by omega)).below (bel1 _ _)).drew (by omega) rfl).mono ?_
                rintro e w53 ⟨s53, A53, n53, c53, rfl, p53, j53, B0⟩
                have B := bt ((bel3 wc (.cells #[.bool s2, .slice a2 len2 cap2, .bool s0, .slice a0 len0 cap0] 24) (.cells #[.bool s0, .slice a0 len0 cap0, .bool s1, .slice a1 len1 cap1] 24) (.cells #[.bool false, .slice none 0 0] 24)).drew) B0
                have hl56 := ((Wl.lit2 (K := 15) (W := wc) (g := wc.heap.size) (by simp) h2 h0 (by omega) (by omega)).below (bel2 _ _ _)).drew.below B0
                have hl52 := ((Wl.lit2 (K := 15) (W := (wc.alloc (.cells #[.bool s2, .slice a2 len2 cap2, .bool s0, .slice a0 len0 cap0] 24))) (g := wc.heap.size + 1) (by simp) (h0.below (bel1 _ _)) (h1.below (bel1 _ _)) (by omega) (by omega)).below (bel1 _ _)).drew.below B0
                have Y11 := ((Bx.newAt ((wc.alloc (.cells #[.bool s2, .slice a2 len2 cap2, .bool s0, .slice a0 len0 cap0] 24)).alloc (.cells #[.bool s0, .slice a0 len0 cap0, .bool s1, .slice a1 len1 cap1] 24)) (g := wc.heap.size + 1 + 1) (by simp) false none 0 0)).drew.below B0
                have dY11X1 : w.heap.size ≠ wc.heap.size + 1 + 1 := by have := X1.lt; omega
                have dY11X2 : w.heap.size + 1 ≠ wc.heap.size + 1 + 1 := by have := X2.lt; omega
                have dY11X3 : w.heap.size + 1 + 1 ≠ wc.heap.size + 1 + 1 := by have := X3.lt; omega
                have dY11X8 : g8 ≠ wc.heap.size + 1 + 1 := by have := X8.lt; omega
                have dY11X9 : g9 ≠ wc.heap.size + 1 + 1 := by have := X9.lt; omega
                have dY11X10 : g10 ≠ wc.heap.size + 1 + 1 := by have := X10.lt; omega
                have lY11 : w.heap.size ≤ wc.heap.size + 1 + 1 := by have := X1.lt; omega
                replace X1 := X1.below B
                replace X2 := X2.below B
                replace X3 := X3.below B
                replace X8 := X8.below B
                replace X9 := X9.below B
                replace X10 := X10.below B
                replace h0 := h0.below B
                replace h1 := h1.below B
                replace h2 := h2.below B
                replace p8 := p8.below B
                replace p9 := p9.below B
                replace p10 := p10.below B
                replace HB := Lib.hid (bt HB.out B)
                clear B B0
                have cY110 := Y11.cell0
                have fY110 := Y11.frozen 0
                have cY111 := Y11.cell1
                have fY111 := Y11.frozen 1
                refine hK.out _ _ ?_ (fun hHeld => ?_)
                · exact ⟨X1.cell0, X1.cell1, X2.cell0, X2.cell1, X3.cell0, X3.cell1, X8.cell0, X8.cell1, X9.cell0, X9.cell1, X10.cell0, X10.cell1⟩
                clear hK K
                try simp only [Act.put, List.setIfInBounds_toArray, List.set_cons_zero, List.set_cons_succ]
                refine wpAnyH_ready (rs := [7]) (by kernel_rfl) (by simp) ?_
                refine AllReadyH.cons (o := ⟨some 57, _, _, _, _, _⟩) rfl (fun K hK => ?_) AllReadyH.nil
                go_simp
                refine (wMul (r := 1 * z * x) hl56 (by omega) rfl).mono ?_
                rintro e w57 ⟨s57, A57, n57, c57, rfl, p57, j57, B⟩
                replace X1 := X1.below B
                replace X2 := X2.below B
                replace X3 := X3.below B
                replace X8 := X8.below B
                replace X9 := X9.below B
                replace X10 := X10.below B
                replace h0 := h0.below B
                replace h1 := h1.below B
                replace h2 := h2.below B
                replace p8 := p8.below B
                replace p9 := p9.below B
                replace p10 := p10.below B
                replace hl56 := hl56.below B
                replace hl52 := hl52.below B
                replace Y11 := Y11.below B
                replace p53 := p53.below B
                replace HB := Lib.hid (bt HB.out B)
                clear B
                have cY110 := Y11.cell0
                have fY110 := Y11.frozen 0
                have cY111 := Y11.cell1
                have fY111 := Y11.frozen 1
                refine hK.out _ _ ?_ (fun hHeld => ?_)
                · exact ⟨X1.cell0, X1.cell1, X2.cell0, X2.cell1, X3.cell0, X3.cell1, X8.cell0, X8.cell1, X9.cell0, X9.cell1, X10.cell0, X10.cell1⟩
                clear hK K
                try simp only [Act.put, List.setIfInBounds_toArray, List.set_cons_zero, List.set_cons_succ]
                refine wpAnyH_ready (rs := [8]) (by kernel_rfl) (by simp) ?_
                refine AllReadyH.cons (o := ⟨some 58, _, _, _, _, _⟩) rfl (fun K hK => ?_) AllReadyH.nil
                go_simp
                refine (wAdd p53.wr p57.wr (by omega) (by omega) rfl).mono ?_
                rintro e w58 ⟨s58, A58, n58, c58, rfl, p58, j58, B⟩
                replace X1 := X1.below B
                replace X2 := X2.below B
                replace X3 := X3.below B
                replace X8 := X8.below B
                replace X9 := X9.below B
                replace X10 := X10.below B
                replace h0 := h0.below B
                replace h1 := h1.below B
                replace h2 := h2.below B
                replace p8 := p8.below B
                replace p9 := p9.below B
                replace p10 := p10.below B
                replace hl56 := hl56.below B
                replace hl52 := hl52.below B
                replace Y11 := Y11.below B
                replace p53 := p53.below B
                replace p57 := p57.below B
                replace HB := Lib.hid (bt HB.out B)
                clear B
                have cY110 := Y11.cell0
                have fY110 := Y11.frozen 0
                have cY111 := Y11.cell1
                have fY111 := Y11.frozen 1
                refine hK.out _ _ ?_ (fun hHeld => ?_)
                · exact ⟨X1.cell0, X1.cell1, X2.cell0, X2.cell1, X3.cell0, X3.cell1, X8.cell0, X8.cell1, X9.cell0, X9.cell1, X10.cell0, X10.cell1⟩
                clear hK K
                try simp only [Act.put, List.setIfInBounds_toArray, List.set_cons_zero, List.set_cons_succ]
                refine wpAnyH_ready (rs := [10]) (by kernel_rfl) (by simp) ?_
                refine AllReadyH.cons (o := ⟨none, _, _, _, _, _⟩) rfl (fun K hK => ?_) AllReadyH.nil
                go_simp
                refine hK.out _ _ ?_ (fun hHeld => ?_)
                · exact ⟨(X1.far dY11X1 _ _).cell0, (X1.far dY11X1 _ _).cell1, (X2.far dY11X2 _ _).cell0, (X2.far dY11X2 _ _).cell1, (X3.far dY11X3 _ _).cell0, (X3.far dY11X3 _ _).cell1, (X8.far dY11X8 _ _).cell0, (X8.far dY11X8 _ _).cell1, (X9.far dY11X9 _ _).cell0, (X9.far dY11X9 _ _).cell1, (X10.far dY11X10 _ _).cell0, (X10.far dY11X10 _ _).cell1⟩
                clear hK K
                try simp only [Act.put, List.setIfInBounds_toArray, List.set_cons_zero, List.set_cons_succ]
                refine wpAnyH_done (by kernel_rfl) ?_ _
                refine NoPanic.normal ?_
                go_wp2_with fail
                go_meet
                exact ⟨⟨X1.far dY11X1 _ _, X2.far dY11X2 _ _, X3.far dY11X3 _ _, h0.st Y11 _ _, h1.st Y11 _ _, h2.st Y11 _ _, st2 HB.out lY11 _ _⟩, ⟨X8.far dY11X8 _ _, p8.st Y11 _ _⟩, ⟨X9.far dY11X9 _ _, p9.st Y11 _ _⟩, ⟨X10.far dY11X10 _ _, p10.st Y11 _ _⟩, ⟨_, s58, A58, n58, c58, rfl, Y11.set _ _ _ _, p58.st Y11 _ _, by omega⟩⟩
            · go_simp
              refine hK.out _ _ ?_ (fun hHeld => ?_)
              · exact ⟨(X1.below (bel2 _ _ _)).drew.cell0, (X1.below (bel2 _ _ _)).drew.cell1, (X2.below (bel2 _ _ _)).drew.cell0, (X2.below (bel2 _ _ _)).drew.cell1, (X3.below (bel2 _ _ _)).drew.cell0, (X3.below (bel2 _ _ _)).drew.cell1, (X8.below (bel2 _ _ _)).drew.cell0, (X8.below (bel2 _ _ _)).drew.cell1, (X9.below (bel2 _ _ _)).drew.cell0, (X9.below (bel2 _ _ _)).drew.cell1, (X10.below (bel2 _ _ _)).drew.cell0, (X10.below (bel2 _ _ _)).drew.cell1⟩
              clear hK K
              try simp only [Act.put, List.setIfInBounds_toArray, List.set_cons_zero, List.set_cons_succ]
              refine wpAnyH_ready (rs := [2]) (by kernel_rfl) (by simp) ?_
              refine AllReadyH.cons (o := ⟨some 52, _, _, _, _, _⟩) rfl (fun K hK => ?_) AllReadyH.nil
              go_simp
              refine hK.out _ _ ?_ (fun hHeld => ?_)
              · exact ⟨(X1.below (bel3 _ _ _ _)).drew.cell0, (X1.below (bel3 _ _ _ _)).drew.cell1, (X2.below (bel3 _ _ _ _)).drew.cell0, (X2.below (bel3 _ _ _ _)).drew.cell1, (X3.below (bel3 _ _ _ _)).drew.cell0, (X3.below (bel3 _ _ _ _)).drew.cell1, (X8.below (bel3 _ _ _ _)).drew.cell0, (X8.below (bel3 _ _ _ _)).drew.cell1, (X9.below (bel3 _ _ _ _)).drew.cell0, (X9.below (bel3 _ _ _ _)).drew.cell1, (X10.below (bel3 _ _ _ _)).drew.cell0, (X10.below (bel3 _ _ _ _)).drew.cell1⟩
              clear hK K
              try simp only [Act.put, List.setIfInBounds_toArray, List.set_cons_zero, List.set_cons_succ]
              refine wpAnyH_ready (rs := [3]) (by kernel_rfl) (by simp) ?_
              refine AllReadyH.cons (o := ⟨some 53, _, _, _, _, _⟩) rfl (fun K hK => ?_) AllReadyH.nil
              go_simp
              refine (wMul (r := 1 * x * y) (Wl.lit2 (K := 15) (W := ((wc.alloc (.cells #[.bool s2, .slice a2 len2 cap2, .bool s0, .slice a0 len0 cap0] 24)).alloc (.cells #[.bool false, .slice none 0 0] 24))) (g := wc.heap.size + 1 + 1) (by simp) (h0.below (bel2 _ _ _)) (h1.below (bel2 _ _ _)) (by omega) (by omega)).drew (by omega) rfl).mono ?_
              rintro e w53 ⟨s53, A53, n53, c53, rfl, p53, j53, B0⟩
              have B := bt ((bel3 wc (.cells #[.bool s2, .slice a2 len2 cap2, .bool s0, .slice a0 len0 cap0] 24) (.cells #[.bool false, .slice none 0 0] 24) (.cells #[.bool s0, .slice a0 len0 cap0, .bool s1, .slice a1 len1 cap1] 24)).drew) B0
              have hl56 := ((Wl.lit2 (K := 15) (W := wc) (g := wc.heap.size) (by simp) h2 h0 (by omega) (by omega)).below (bel2 _ _ _)).drew.below B0
              have Y11 := ((Bx.newAt (wc.alloc (.cells #[.bool s2, .slice a2 len2 cap2, .bool s0, .slice a0 len0 cap0] 24)) (g := wc.heap.size + 1) (by simp) false none 0 0).below (bel1 _ _)).drew.below B0
              have dY11X1 : w.heap.size ≠ wc.heap.size + 1 := by have := X1.lt; omega
              have dY11X2 : w.heap.size + 1 ≠ wc.heap.size + 1 := by have := X2.lt; omega
              have dY11X3 : w.heap.size + 1 + 1 ≠ wc.heap.size + 1 := by have := X3.lt; omega
              have dY11X8 : g8 ≠ wc.heap.size + 1 := by have := X8.lt; omega
              have dY11X9 : g9 ≠ wc.heap.size + 1 := by have := X9.lt; omega
              have dY11X10 : g10 ≠ wc.heap.size + 1 := by have := X10.lt; omega
              have lY11 : w.heap.size ≤ wc.heap.size + 1 := by have := X1.lt; omega
              have hl52 := ((Wl.lit2 (K := 15) (W := ((wc.alloc (.cells #[.bool s2, .slice a2 len2 cap2, .bool s0, .slice a0 len0 cap0] 24)).alloc (.cells #[.bool false, .slice none 0 0] 24))) (g := wc.heap.size + 1 + 1) (by simp) (h0.below (bel2 _ _ _)) (h1.below (bel2 _ _ _)) (by omega) (by omega))).drew.below B0
              replace X1 := X1.below B
              replace X2 := X2.below B
              replace X3 := X3.below B
              replace X8 := X8.below B
              replace X9 := X9.below B
              replace X10 := X10.below B
              replace h0 := h0.below B
              replace h1 := h1.below B
              replace h2 := h2.below B
              replace p8 := p8.below B
              replace p9 := p9.below B
              replace p10 := p10.below B
              replace HB := Lib.hid (bt HB.out B)
              clear B B0
              have cY110 := Y11.cell0
              have fY110 := Y11.frozen 0
              have cY111 := Y11.cell1
              have fY111 := Y11.frozen 1
              refine hK.out _ _ ?_ (fun hHeld => ?_)
              · exact ⟨X1.cell0, X1.cell1, X2.cell0, X2.cell1, X3.cell0, X3.cell1, X8.cell0, X8.cell1, X9.cell0, X9.cell1, X10.cell0, X10.cell1⟩
              clear hK K
              try simp only [Act.put, List.setIfInBounds_toArray, List.set_cons_zero, List.set_cons_succ]
              refine wpAnyH_ready (rs := [7]) (by kernel_rfl) (by simp) ?_
              refine AllReadyH.cons (o := ⟨some 57, _, _, _, _, _⟩) rfl (fun K hK => ?_) AllReadyH.nil
              go_simp
              refine (wMul (r := 1 * z * x) hl56 (by omega) rfl).mono ?_
              rintro e w57 ⟨s57, A57, n57, c57, rfl, p57, j57, B⟩
              replace X1 := X1.below B
              replace X2 := X2.below B
              replace X3 := X3.below B
              replace X8 := X8.below B
              replace X9 := X9.below B
              replace X10 := X10.below B
              replace h0 := h0.below B
              replace h1 := h1.below B
              replace h2 := h2.below B
              replace p8 := p8.below B
              replace p9 := p9.below B
              replace p10 := p10.below B
              replace hl56 := hl56.below B
              replace Y11 := Y11.below B
              replace hl52 := hl52.below B
              replace p53 := p53.below B
              replace HB := Lib.hid (bt HB.out B)
              clear B
              have cY110 := Y11.cell0
              have fY110 := Y11.frozen 0
              have cY111 := Y11.cell1
              have fY111 := Y11.frozen 1
              refine hK.out _ _ ?_ (fun hHeld => ?_)
              · exact ⟨X1.cell0, X1.cell1, X2.cell0, X2.cell1, X3.cell0, X3.cell1, X8.cell0, X8.cell1, X9.cell0, X9.cell1, X10.cell0, X10.cell1⟩
              clear hK K
              try simp only [Act.put, List.setIfInBounds_toArray, List.set_cons_zero, List.set_cons_succ]
              refine wpAnyH_ready (rs := [8]) (by kernel_rfl) (by simp) ?_
              refine AllReadyH.cons (o := ⟨some 58, _, _, _, _, _⟩) rfl (fun K hK => ?_) AllReadyH.nil
              go_simp
              refine (wAdd p53.wr p57.wr (by omega) (by omega) rfl).mono ?_
              rintro e w58 ⟨s58, A58, n58, c58, rfl, p58, j58, B⟩
              replace X1 := X1.below B
              replace X2 := X2.below B
              replace X3 := X3.below B
              replace X8 := X8.below B
              replace X9 := X9.below B
              replace X10 := X10.below B
              replace h0 := h0.below B
              replace h1 := h1.below B
              replace h2 := h2.below B
              replace p8 := p8.below B
              replace p9 := p9.below B
              replace p10 := p10.below B
              replace hl56 := hl56.below B
              replace Y11 := Y11.below B
              replace hl52 := hl52.below B
              replace p53 := p53.below B
              replace p57 := p57.below B
              replace HB := Lib.hid (bt HB.out B)
              clear B
              have cY110 := Y11.cell0
              have fY110 := Y11.frozen 0
              have cY111 := Y11.cell1
              have fY111 := Y11.frozen 1
              refine hK.out _ _ ?_ (fun hHeld => ?_)
              · exact ⟨X1.cell0, X1.cell1, X2.cell0, X2.cell1, X3.cell0, X3.cell1, X8.cell0, X8.cell1, X9.cell0, X9.cell1, X10.cell0, X10.cell1⟩
              clear hK K
              try simp only [Act.put, List.setIfInBounds_toArray, List.set_cons_zero, List.set_cons_succ]
              refine wpAnyH_ready (rs := [10]) (by kernel_rfl) (by simp) ?_
              refine AllReadyH.cons (o := ⟨none, _, _, _, _, _⟩) rfl (fun K hK => ?_) AllReadyH.nil
              go_simp
              refine hK.out _ _ ?_ (fun hHeld => ?_)
              · exact ⟨(X1.far dY11X1 _ _).cell0, (X1.far dY11X1 _ _).cell1, (X2.far dY11X2 _ _).cell0, (X2.far dY11X2 _ _).cell1, (X3.far dY11X3 _ _).cell0, (X3.far dY11X3 _ _).cell1, (X8.far dY11X8 _ _).cell0, (X8.far dY11X8 _ _).cell1, (X9.far dY11X9 _ _).cell0, (X9.far dY11X9 _ _).cell1, (X10.far dY11X10 _ _).cell0, (X10.far dY11X10 _ _).cell1⟩
              clear hK K
              try simp only [Act.put, List.setIfInBounds_toArray, List.set_cons_zero, List.set_cons_succ]
              refine wpAnyH_done (by kernel_rfl) ?_ _
              refine NoPanic.normal ?_
              go_wp2_with fail
              go_meet
              exact ⟨⟨X1.far dY11X1 _ _, X2.far dY11X2 _ _, X3.far dY11X3 _ _, h0.st Y11 _ _, h1.st Y11 _ _, h2.st Y11 _ _, st2 HB.out lY11 _ _⟩, ⟨X8.far dY11X8 _ _, p8.st Y11 _ _⟩, ⟨X9.far dY11X9 _ _, p9.st Y11 _ _⟩, ⟨X10.far dY11X10 _ _, p10.st Y11 _ _⟩, ⟨_, s58, A58, n58, c58, rfl, Y11.set _ _ _ _, p58.st Y11 _ _, by omega⟩⟩
          · go_simp
            refine hK.out _ _ ?_ (fun hHeld => ?_)
            · exact ⟨(X1.below (bel1 _ _)).drew.cell0, (X1.below (bel1 _ _)).drew.cell1, (X2.below (bel1 _ _)).drew.cell0, (X2.below (bel1 _ _)).drew.cell1, (X3.below (bel1 _ _)).drew.cell0, (X3.below (bel1 _ _)).drew.cell1, (X8.below (bel1 _ _)).drew.cell0, (X8.below (bel1 _ _)).drew.cell1, (X9.below (bel1 _ _)).drew.cell0, (X9.below (bel1 _ _)).drew.cell1, (X10.below (bel1 _ _)).drew.cell0, (X10.below (bel1 _ _)).drew.cell1⟩
            clear hK K
            try simp only [Act.put, List.setIfInBounds_toArray, List.set_cons_zero, List.set_cons_succ]
            refine wpAnyH_ready (rs := [2, 6]) (by kernel_rfl) (by simp) ?_
            refine AllReadyH.cons (o := ⟨some 52, _, _, _, _, _⟩) rfl (fun K hK => ?_) (AllReadyH.cons (o := ⟨some 56, _, _, _, _, _⟩) rfl (fun K hK => ?_) AllReadyH.nil)
            · go_simp
              refine hK.out _ _ ?_ (fun hHeld => ?_)
              · exact ⟨(X1.below (bel2 _ _ _)).drew.cell0, (X1.below (bel2 _ _ _)).drew.cell1, (X2.below (bel2 _ _ _)).drew.cell0, (X2.below (bel2 _ _ _)).drew.cell1, (X3.below (bel2 _ _ _)).drew.cell0, (X3.below (bel2 _ _ _)).drew.cell1, (X8.below (bel2 _ _ _)).drew.cell0, (X8.below (bel2 _ _ _)).drew.cell1, (X9.below (bel2 _ _ _)).drew.cell0, (X9.below (bel2 _ _ _)).drew.cell1, (X10.below (bel2 _ _ _)).drew.cell0, (X10.below (bel2 _ _ _)).drew.cell1⟩
              clear hK K
              try simp only [Act.put, List.setIfInBounds_toArray, List.set_cons_zero, List.set_cons_succ]
              refine wpAnyH_ready (rs := [3, 6]) (by kernel_rfl) (by simp) ?_
              refine AllReadyH.cons (o := ⟨some 53, _, _, _, _, _⟩) rfl (fun K hK => ?_) (AllReadyH.cons (o := ⟨some 56, _, _, _, _, _⟩) rfl (fun K hK => ?_) AllReadyH.nil)
              · go_simp
                refine (wMul (r := 1 * x * y) (Wl.lit2 (K := 15) (W := (wc.alloc (.cells #[.bool false, .slice none 0 0] 24))) (g := wc.heap.size + 1) (by simp) (h0.below (bel1 _ _)) (h1.below (bel1 _ _)) (by omega) (by omega)).drew (by omega) rfl).mono ?_
                rintro e w53 ⟨s53, A53, n53, c53, rfl, p53, j53, B0⟩
                have B := bt ((bel2 wc (.cells #[.bool false, .slice none 0 0] 24) (.cells #[.bool s0, .slice a0 len0 cap0, .bool s1, .slice a1 len1 cap1] 24)).drew) B0
                have Y11 := ((Bx.newAt wc (g := wc.heap.size) (by simp) false none 0 0).below (bel1 _ _)).drew.below B0
                have dY11X1 : w.heap.size ≠ wc.heap.size := by have := X1.lt; omega
                have dY11X2 : w.heap.size + 1 ≠ wc.heap.size := by have := X2.lt; omega
                have dY11X3 : w.heap.size + 1 + 1 ≠ wc.heap.size := by have := X3.lt; omega
                have dY11X8 : g8 ≠ wc.heap.size := by have := X8.lt; omega
                have dY11X9 : g9 ≠ wc.heap.size := by have := X9.lt; omega
                have dY11X10 : g10 ≠ wc.heap.size := by have := X10.lt; omega
                have lY11 : w.heap.size ≤ wc.heap.size := by have := X1.lt; omega
                have hl52 := ((Wl.lit2 (K := 15) (W := (wc.alloc (.cells #[.bool false, .slice none 0 0] 24))) (g := wc.heap.size + 1) (by simp) (h0.below (bel1 _ _)) (h1.below (bel1 _ _)) (by omega) (by omega))).drew.below B0
                replace X1 := X1.below B
                replace X2 := X2.below B
                replace X3 := X3.below B
                replace X8 := X8.below B
                replace X9 := X9.below B
                replace X10 := X10.below B
                replace h0 := h0.below B
                replace h1 := h1.below B
                replace h2 := h2.below B
                replace p8 := p8.below B
                replace p9 := p9.below B
                replace p10 := p10.below B
                replace HB := Lib.hid (bt HB.out B)
                clear B B0
                have cY110 := Y11.cell0
                have fY110 := Y11.frozen 0
                have cY111 := Y11.cell1
                have fY111 := Y11.frozen 1
                refine hK.out _ _ ?_ (fun hHeld => ?_)
                · exact ⟨X1.cell0, X1.cell1, X2.cell0, X2.cell1, X3.cell0, X3.cell1, X8.cell0, X8.cell1, X9.cell0, X9.cell1, X10.cell0, X10.cell1⟩
                clear hK K
                try simp only [Act.put, List.setIfInBounds_toArray, List.set_cons_zero, List.set_cons_succ]
                refine wpAnyH_ready (rs := [6]) (by kernel_rfl) (by simp) ?_
                refine AllReadyH.cons (o := ⟨some 56, _, _, _, _, _⟩) rfl (fun K hK => ?_) AllReadyH.nil
                go_simp
                refine hK.out _ _ ?_ (fun hHeld => ?_)
                · exact ⟨(X1.below (bel1 _ _)).cell0, (X1.below (bel1 _ _)).cell1, (X2.below (bel1 _ _)).cell0, (X2.below (bel1 _ _)).cell1, (X3.below (bel1 _ _)).cell0, (X3.below (bel1 _ _)).cell1, (X8.below (bel1 _ _)).cell0, (X8.below (bel1 _ _)).cell1, (X9.below (bel1 _ _)).cell0, (X9.below (bel1 _ _)).cell1, (X10.below (bel1 _ _)).cell0, (X10.below (bel1 _ _)).cell1⟩
                clear hK K
                try simp only [Act.put, List.setIfInBounds_toArray, List.set_cons_zero, List.set_cons_succ]
                refine wpAnyH_ready (rs := [7]) (by kernel_rfl) (by simp) ?_
                refine AllReadyH.cons (o := ⟨some 57, _, _, _, _, _⟩) rfl (fun K hK => ?_) AllReadyH.nil
                go_simp
                refine (wMul (r := 1 * z * x) (Wl.lit2 (K := 15) (W := w53) (g := w53.heap.size) (by simp) h2 h0 (by omega) (by omega)) (by omega) rfl).mono ?_
                rintro e w57 ⟨s57, A57, n57, c57, rfl, p57, j57, B0⟩
                have B := bt (bel1 w53 (.cells #[.bool s2, .slice a2 len2 cap2, .bool s0, .slice a0 len0 cap0] 24)) B0
                have hl56 := ((Wl.lit2 (K := 15) (W := w53) (g := w53.heap.size) (by simp) h2 h0 (by omega) (by omega))).below B0
                replace X1 := X1.below B
                replace X2 := X2.below B
                replace X3 := X3.below B
                replace X8 := X8.below B
                replace X9 := X9.below B
                replace X10 := X10.below B
                replace h0 := h0.below B
                replace h1 := h1.below B
                replace h2 := h2.below B
                replace p8 := p8.below B
                replace p9 := p9.below B
                replace p10 := p10.below B
                replace Y11 := Y11.below B
                replace hl52 := hl52.below B
                replace p53 := p53.below B
                replace HB := Lib.hid (bt HB.out B)
                clear B B0
                have cY110 := Y11.cell0
                have fY110 := Y11.frozen 0
                have cY111 := Y11.cell1
                have fY111 := Y11.frozen 1
                refine hK.out _ _ ?_ (fun hHeld => ?_)
                · exact ⟨X1.cell0, X1.cell1, X2.cell0, X2.cell1, X3.cell0, X3.cell1, X8.cell0, X8.cell1, X9.cell0, X9.cell1, X10.cell0, X10.cell1⟩
                clear hK K
                try simp only [Act.put, List.setIfInBounds_toArray, List.set_cons_zero, List.set_cons_succ]
                refine wpAnyH_ready (rs := [8]) (by kernel_rfl) (by simp) ?_
                refine AllReadyH.cons (o := ⟨some 58, _, _, _, _, _⟩) rfl (fun K hK => ?_) AllReadyH.nil
                go_simp
                refine (wAdd p53.wr p57.wr (by omega) (by omega) rfl).mono ?_
                rintro e w58 ⟨s58, A58, n58, c58, rfl, p58, j58, B⟩
                replace X1 := X1.below B
                replace X2 := X2.below B
                replace X3 := X3.below B
                replace X8 := X8.below B
                replace X9 := X9.below B
                replace X10 := X10.below B
                replace h0 := h0.below B
                replace h1 := h1.below B
                replace h2 := h2.below B
                replace p8 := p8.below B
                replace p9 := p9.below B
                replace p10 := p10.below B
                replace Y11 := Y11.below B
                replace hl52 := hl52.below B
                replace p53 := p53.below B
                replace hl56 := hl56.below B
                replace p57 := p57.below B
                replace HB := Lib.hid (bt HB.out B)
                clear B
                have cY110 := Y11.cell0
                have fY110 := Y11.frozen 0
                have cY111 := Y11.cell1
                have fY111 := Y11.frozen 1
                refine hK.out _ _ ?_ (fun hHeld => ?_)
                · exact ⟨X1.cell0, X1.cell1, X2.cell0, X2.cell1, X3.cell0, X3.cell1, X8.cell0, X8.cell1, X9.cell0, X9.cell1, X10.cell0, X10.cell1⟩
                clear hK K
                try simp only [Act.put, List.setIfInBounds_toArray, List.set_cons_zero, List.set_cons_succ]
                refine wpAnyH_ready (rs := [10]) (by kernel_rfl) (by simp) ?_
                refine AllReadyH.cons (o := ⟨none, _, _, _, _, _⟩) rfl (fun K hK => ?_) AllReadyH.nil
                go_simp
                refine hK.out _ _ ?_ (fun hHeld => ?_)
                · exact ⟨(X1.far dY11X1 _ _).cell0, (X1.far dY11X1 _ _).cell1, (X2.far dY11X2 _ _).cell0, (X2.far dY11X2 _ _).cell1, (X3.far dY11X3 _ _).cell0, (X3.far dY11X3 _ _).cell1, (X8.far dY11X8 _ _).cell0, (X8.far dY11X8 _ _).cell1, (X9.far dY11X9 _ _).cell0, (X9.far dY11X9 _ _).cell1, (X10.far dY11X10 _ _).cell0, (X10.far dY11X10 _ _).cell1⟩
                clear hK K
                try simp only [Act.put, List.setIfInBounds_toArray, List.set_cons_zero, List.set_cons_succ]
                refine wpAnyH_done (by kernel_rfl) ?_ _
                refine NoPanic.normal ?_
                go_wp2_with fail
                go_meet
                exact ⟨⟨X1.far dY11X1 _ _, X2.far dY11X2 _ _, X3.far dY11X3 _ _, h0.st Y11 _ _, h1.st Y11 _ _, h2.st Y11 _ _, st2 HB.out lY11 _ _⟩, ⟨X8.far dY11X8 _ _, p8.st Y11 _ _⟩, ⟨X9.far dY11X9 _ _, p9.st Y11 _ _⟩, ⟨X10.far dY11X10 _ _, p10.st Y11 _ _⟩, ⟨_, s58, A58, n58, c58, rfl, Y11.set _ _ _ _, p58.st Y11 _ _, by omega⟩⟩
              · go_simp
                refine hK.out _ _ ?_ (fun hHeld => ?_)
                · exact ⟨(X1.below (bel3 _ _ _ _)).drew.cell0, (X1.below (bel3 _ _ _ _)).drew.cell1, (X2.below (bel3 _ _ _ _)).drew.cell0, (X2.below (bel3 _ _ _ _)).drew.cell1, (X3.below (bel3 _ _ _ _)).drew.cell0, (X3.below (bel3 _ _ _ _)).drew.cell1, (X8.below (bel3 _ _ _ _)).drew.cell0, (X8.below (bel3 _ _ _ _)).drew.cell1, (X9.below (bel3 _ _ _ _)).drew.cell0, (X9.below (bel3 _ _ _ _)).drew.cell1, (X10.below (bel3 _ _ _ _)).drew.cell0, (X10.below (bel3 _ _ _ _)).drew.cell1⟩
                clear hK K
                try simp only [Act.put, List.setIfInBounds_toArray, List.set_cons_zero, List.set_cons_succ]
                refine wpAnyH_ready (rs := [3]) (by kernel_rfl) (by simp) ?_
                refine AllReadyH.cons (o := ⟨some 53, _, _, _, _, _⟩) rfl (fun K hK => ?_) AllReadyH.nil
                go_simp
                refine (wMul (r := 1 * x * y) ((Wl.lit2 (K := 15) (W := (wc.alloc (.cells #[.bool false, .slice none 0 0] 24))) (g := wc.heap.size + 1) (by simp) (h0.below (bel1 _ _)) (h1.below (bel1 _ _)) (by omega) (by omega)).below (bel1 _ _)).drew (by omega) rfl).mono ?_
                rintro e w53 ⟨s53, A53, n53, c53, rfl, p53, j53, B0⟩
                have B := bt ((bel3 wc (.cells #[.bool false, .slice none 0 0] 24) (.cells #[.bool s0, .slice a0 len0 cap0, .bool s1, .slice a1 len1 cap1] 24) (.cells #[.bool s2, .slice a2 len2 cap2, .bool s0, .slice a0 len0 cap0] 24)).drew) B0
                have Y11 := ((Bx.newAt wc (g := wc.heap.size) (by simp) false none 0 0).below (bel2 _ _ _)).drew.below B0
                have dY11X1 : w.heap.size ≠ wc.heap.size := by have := X1.lt; omega
                have dY11X2 : w.heap.size + 1 ≠ wc.heap.size := by have := X2.lt; omega
                have dY11X3 : w.heap.size + 1 + 1 ≠ wc.heap.size := by have := X3.lt; omega
                have dY11X8 : g8 ≠ wc.heap.size := by have := X8.lt; omega
                have dY11X9 : g9 ≠ wc.heap.size := by have := X9.lt; omega
                have dY11X10 : g10 ≠ wc.heap.size := by have := X10.lt; omega
                have lY11 : w.heap.size ≤ wc.heap.size := by have := X1.lt; omega
                have hl52 := ((Wl.lit2 (K := 15) (W := (wc.alloc (.cells #[.bool false, .slice none 0 0] 24))) (g := wc.heap.size + 1) (by simp) (h0.below (bel1 _ _)) (h1.below (bel1 _ _)) (by omega) (by omega)).below (bel1 _ _)).drew.below B0
                have hl56 := ((Wl.lit2 (K := 15) (W := ((wc.alloc (.cells #[.bool false, .slice none 0 0] 24)).alloc (.cells #[.bool s0, .slice a0 len0 cap0, .bool s1, .slice a1 len1 cap1] 24))) (g := wc.heap.size + 1 + 1) (by simp) (h2.below (bel2 _ _ _)) (h0.below (bel2 _ _ _)) (by omega) (by omega))).drew.below B0
                replace X1 := X1.below B
                replace X2 := X2.below B
                replace X3 := X3.below B
                replace X8 := X8.below B
                replace X9 := X9.below B
                replace X10 := X10.below B
                replace h0 := h0.below B
                replace h1 := h1.below B
                replace h2 := h2.below B
                replace p8 := p8.below B
                replace p9 := p9.below B
                replace p10 := p10.below B
                replace HB := Lib.hid (bt HB.out B)
                clear B B0
                have cY110 := Y11.cell0
                have fY110 := Y11.frozen 0
                have cY111 := Y11.cell1
                have fY111 := Y11.frozen 1
                refine hK.out _ _ ?_ (fun hHeld => ?_)
                · exact ⟨X1.cell0, X1.cell1, X2.cell0, X2.cell1, X3.cell0, X3.cell1, X8.cell0, X8.cell1, X9.cell0, X9.cell1, X10.cell0, X10.cell1⟩
                clear hK K
                try simp only [Act.put, List.setIfInBounds_toArray, List.set_cons_zero, List.set_cons_succ]
                refine wpAnyH_ready (rs := [7]) (by kernel_rfl) (by simp) ?_
                refine AllReadyH.cons (o := ⟨some 57, _, _, _, _, _⟩) rfl (fun K hK => ?_) AllReadyH.nil
                go_simp
                refine (wMul (r := 1 * z * x) hl56 (by omega) rfl).mono ?_
                rintro e w57 ⟨s57, A57, n57, c57, rfl, p57, j57, B⟩
                replace X1 := X1.below B
                replace X2 := X2.below B
                replace X3 := X3.below B
                replace X8 := X8.below B
                replace X9 := X9.below B
                replace X10 := X10.below B
                replace h0 := h0.below B
                replace h1 := h1.below B
                replace h2 := h2.below B
                replace p8 := p8.below B
                replace p9 := p9.below B
                replace p10 := p10.below B
                replace Y11 := Y11.below B
                replace hl52 := hl52.below B
                replace hl56 := hl56.below B
                replace p53 := p53.below B
                replace HB := Lib.hid (bt HB.out B)
                clear B
                have cY110 := Y11.cell0
                have fY110 := Y11.frozen 0
                have cY111 := Y11.cell1
                have fY111 := Y11.frozen 1
                refine hK.out _ _ ?_ (fun hHeld => ?_)
                · exact ⟨X1.cell0, X1.cell1, X2.cell0, X2.cell1, X3.cell0, X3.cell1, X8.cell0, X8.cell1, X9.cell0, X9.cell1, X10.cell0, X10.cell1⟩
                clear hK K
                try simp only [Act.put, List.setIfInBounds_toArray, List.set_cons_zero, List.set_cons_succ]
                refine wpAnyH_ready (rs := [8]) (by kernel_rfl) (by simp) ?_
                refine AllReadyH.cons (o := ⟨some 58, _, _, _, _, _⟩) rfl (fun K hK => ?_) AllReadyH.nil
                go_simp
                refine (wAdd p53.wr p57.wr (by omega) (by omega) rfl).mono ?_
                rintro e w58 ⟨s58, A58, n58, c58, rfl, p58, j58, B⟩
                replace X1 := X1.below B
                replace X2 := X2.below B
                replace X3 := X3.below B
                replace X8 := X8.below B
                replace X9 := X9.below B
                replace X10 := X10.below B
                replace h0 := h0.below B
                replace h1 := h1.below B
                replace h2 := h2.below B
                replace p8 := p8.below B
                replace p9 := p9.below B
                replace p10 := p10.below B
                replace Y11 := Y11.below B
                replace hl52 := hl52.below B
                replace hl56 := hl56.below B
                replace p53 := p53.below B
                replace p57 := p57.below B
                replace HB := Lib.hid (bt HB.out B)
                clear B
                have cY110 := Y11.cell0
                have fY110 := Y11.frozen 0
                have cY111 := Y11.cell1
                have fY111 := Y11.frozen 1
                refine hK.out _ _ ?_ (fun hHeld => ?_)
                · exact ⟨X1.cell0, X1.cell1, X2.cell0, X2.cell1, X3.cell0, X3.cell1, X8.cell0, X8.cell1, X9.cell0, X9.cell1, X10.cell0, X10.cell1⟩
                clear hK K
                try simp only [Act.put, List.setIfInBounds_toArray, List.set_cons_zero, List.set_cons_succ]
                refine wpAnyH_ready (rs := [10]) (by kernel_rfl) (by simp) ?_
                refine AllReadyH.cons (o := ⟨none, _, _, _, _, _⟩) rfl (fun K hK => ?_) AllReadyH.nil
                go_simp
                refine hK.out _ _ ?_ (fun hHeld => ?_)
                · exact ⟨(X1.far dY11X1 _ _).cell0, (X1.far dY11X1 _ _).cell1, (X2.far dY11X2 _ _).cell0, (X2.far dY11X2 _ _).cell1, (X3.far dY11X3 _ _).cell0, (X3.far dY11X3 _ _).cell1, (X8.far dY11X8 _ _).cell0, (X8.far dY11X8 _ _).cell1, (X9.far dY11X9 _ _).cell0, (X9.far dY11X9 _ _).cell1, (X10.far dY11X10 _ _).cell0, (X10.far dY11X10 _ _).cell1⟩
                clear hK K
                try simp only [Act.put, List.setIfInBounds_toArray, List.set_cons_zero, List.set_cons_succ]
                refine wpAnyH_done (by kernel_rfl) ?_ _
                refine NoPanic.normal ?_
                go_wp2_with fail
                go_meet
                exact ⟨⟨X1.far dY11X1 _ _, X2.far dY11X2 _ _, X3.far dY11X3 _ _, h0.st Y11 _ _, h1.st Y11 _ _, h2.st Y11 _ _, st2 HB.out lY11 _ _⟩, ⟨X8.far dY11X8 _ _, p8.st Y11 _ _⟩, ⟨X9.far dY11X9 _ _, p9.st Y11 _ _⟩, ⟨X10.far dY11X10 _ _, p10.st Y11 _ _⟩, ⟨_, s58, A58, n58, c58, rfl, Y11.set _ _ _ _, p58.st Y11 _ _, by omega⟩⟩
            · go_simp
              refine hK.out _ _ ?_ (fun hHeld => ?_)
              · exact ⟨(X1.below (bel2 _ _ _)).drew.cell0, (X1.below (bel2 _ _ _)).drew.cell1, (X2.below (bel2 _ _ _)).drew.cell0, (X2.below (bel2 _ _ _)).drew.cell1, (X3.below (bel2 _ _ _)).drew.cell0, (X3.below (bel2 _ _ _)).drew.cell1, (X8.below (bel2 _ _ _)).drew.cell0, (X8.below (bel2 _ _ _)).drew.cell1, (X9.below (bel2 _ _ _)).drew.cell0, (X9.below (bel2 _ _ _)).drew.cell1, (X10.below (bel2 _ _ _)).drew.cell0, (X10.below (bel2 _ _ _)).drew.cell1⟩
              clear hK K
              try simp only [Act.put, List.setIfInBounds_toArray, List.set_cons_zero, List.set_cons_succ]
              refine wpAnyH_ready (rs := [2]) (by kernel_rfl) (by simp) ?_
              refine AllReadyH.cons (o := ⟨some 52, _, _, _, _, _⟩) rfl (fun K hK => ?_) AllReadyH.nil
              go_simp
              refine hK.out _ _ ?_ (fun hHeld => ?_)
              · exact ⟨(X1.below (bel3 _ _ _ _)).drew.cell0, (X1.below (bel3 _ _ _ _)).drew.cell1, (X2.below (bel3 _ _ _ _)).drew.cell0, (X2.below (bel3 _ _ _ _)).drew.cell1, (X3.below (bel3 _ _ _ _)).drew.cell0, (X3.below (bel3 _ _ _ _)).drew.cell1, (X8.below (bel3 _ _ _ _)).drew.cell0, (X8.below (bel3 _ _ _ _)).drew.cell1, (X9.below (bel3 _ _ _ _)).drew.cell0, (X9.below (bel3 _ _ _ _)).drew.cell1, (X10.below (bel3 _ _ _ _)).drew.cell0, (X10.below (bel3 _ _ _ _)).drew.cell1⟩
              clear hK K
              try simp only [Act.put, List.setIfInBounds_toArray, List.set_cons_zero, List.set_cons_succ]
              refine wpAnyH_ready (rs := [3]) (by kernel_rfl) (by simp) ?_
              refine AllReadyH.cons (o := ⟨some 53, _, _, _, _, _⟩) rfl (fun K hK => ?_) AllReadyH.nil
              go_simp
              refine (wMul (r := 1 * x * y) (Wl.lit2 (K := 15) (W := ((wc.alloc (.cells #[.bool false, .slice none 0 0] 24)).alloc (.cells #[.bool s2, .slice a2 len2 cap2, .bool s0, .slice a0 len0 cap0] 24))) (g := wc.heap.size + 1 + 1) (by simp) (h0.below (bel2 _ _ _)) (h1.below (bel2 _ _ _)) (by omega) (by omega)).drew (by omega) rfl).mono ?_
              rintro e w53 ⟨s53, A53, n53, c53, rfl, p53, j53, B0⟩
              have B := bt ((bel3 wc (.cells #[.bool false, .slice none 0 0] 24) (.cells #[.bool s2, .slice a2 len2 cap2, .bool s0, .slice a0 len0 cap0] 24) (.cells #[.bool s0, .slice a0 len0 cap0, .bool s1, .slice a1 len1 cap1] 24)).drew) B0
              have Y11 := ((Bx.newAt wc (g := wc.heap.size) (by simp) false none 0 0).below (bel2 _ _ _)).drew.below B0
              have dY11X1 : w.heap.size ≠ wc.heap.size := by have := X1.lt; omega
              have dY11X2 : w.heap.size + 1 ≠ wc.heap.size := by have := X2.lt; omega
              have dY11X3 : w.heap.size + 1 + 1 ≠ wc.heap.size := by have := X3.lt; omega
              have dY11X8 : g8 ≠ wc.heap.size := by have := X8.lt; omega
              have dY11X9 : g9 ≠ wc.heap.size := by have := X9.lt; omega
              have dY11X10 : g10 ≠ wc.heap.size := by have := X10.lt; omega
              have lY11 : w.heap.size ≤ wc.heap.size := by have := X1.lt; omega
              have hl56 := ((Wl.lit2 (K := 15) (W := (wc.alloc (.cells #[.bool false, .slice none 0 0] 24))) (g := wc.heap.size + 1) (by simp) (h2.below (bel1 _ _)) (h0.below (bel1 _ _)) (by omega) (by omega)).below (bel1 _ _)).drew.below B0
              have hl52 := ((Wl.lit2 (K := 15) (W := ((wc.alloc (.cells #[.bool false, .slice none 0 0] 24)).alloc (.cells #[.bool s2, .slice a2 len2 cap2, .bool s0, .slice a0 len0 cap0] 24))) (g := wc.heap.size + 1 + 1) (by simp) (h0.below (bel2 _ _ _)) (h1.below (bel2 _ _ _)) (by omega) (by omega))).drew.below B0
              replace X1 := X1.below B
              replace X2 := X2.below B
              replace X3 := X3.below B
              replace X8 := X8.below B
              replace X9 := X9.below B
              replace X10 := X10.below B
              replace h0 := h0.below B
              replace h1 := h1.below B
              replace h2 := h2.below B
              replace p8 := p8.below B
              replace p9 := p9.below B
              replace p10 := p10.below B
              replace HB := Lib.hid (bt HB.out B)
              clear B B0
              have cY110 := Y11.cell0
              have fY110 := Y11.frozen 0
              have cY111 := Y11.cell1
              have fY111 := Y11.frozen 1
              refine hK.out _ _ ?_ (fun hHeld => ?_)
              · exact ⟨X1.cell0, X1.cell1, X2.cell0, X2.cell1, X3.cell0, X3.cell1, X8.cell0, X8.cell1, X9.cell0, X9.cell1, X10.cell0, X10.cell1⟩
              clear hK K
              try simp only [Act.put, List.setIfInBounds_toArray, List.set_cons_zero, List.set_cons_succ]
              refine wpAnyH_ready (rs := [7]) (by kernel_rfl) (by simp) ?_
              refine AllReadyH.cons (o := ⟨some 57, _, _, _, _, _⟩) rfl (fun K hK => ?_) AllReadyH.nil
              go_simp
              refine (wMul (r := 1 * z * x) hl56 (by omega) rfl).mono ?_
              rintro e w57 ⟨s57, A57, n57, c57, rfl, p57, j57, B⟩
              replace X1 := X1.below B
              replace X2 := X2.below B
              replace X3 := X3.below B
              replace X8 := X8.below B
              replace X9 := X9.below B
              replace X10 := X10.below B
              replace h0 := h0.below B
              replace h1 := h1.below B
              replace h2 := h2.below B
              replace p8 := p8.below B
              replace p9 := p9.below B
              replace p10 := p10.below B
              replace Y11 := Y11.below B
              replace hl56 := hl56.below B
              replace hl52 := hl52.below B
              replace p53 := p53.below B
              replace HB := Lib.hid (bt HB.out B)
              clear B
              have cY110 := Y11.cell0
              have fY110 := Y11.frozen 0
              have cY111 := Y11.cell1
              have fY111 := Y11.frozen 1
              refine hK.out _ _ ?_ (fun hHeld => ?_)
              · exact ⟨X1.cell0, X1.cell1, X2.cell0, X2.cell1, X3.cell0, X3.cell1, X8.cell0, X8.cell1, X9.cell0, X9.cell1, X10.cell0, X10.cell1⟩
              clear hK K
              try simp only [Act.put, List.setIfInBounds_toArray, List.set_cons_zero, List.set_cons_succ]
              refine wpAnyH_ready (rs := [8]) (by kernel_rfl) (by simp) ?_
              refine AllReadyH.cons (o := ⟨some 58, _, _, _, _, _⟩) rfl (fun K hK => ?_) AllReadyH.nil
              go_simp
              refine (wAdd p53.wr p57.wr (by omega) (by omega) rfl).mono ?_
              rintro e w58 ⟨s58, A58, n58, c58, rfl, p58, j58, B⟩
              replace X1 := X1.below B
              replace X2 := X2.below B
              replace X3 := X3.below B
              replace X8 := X8.below B
              replace X9 := X9.below B
              replace X10 := X10.below B
              replace h0 := h0.below B
              replace h1 := h1.below B
              replace h2 := h2.below B
              replace p8 := p8.below B
              replace p9 := p9.below B
              replace p10 := p10.below B
              replace Y11 := Y11.below B
              replace hl56 := hl56.below B
              replace hl52 := hl52.below B
              replace p53 := p53.below B
              replace p57 := p57.below B
              replace HB := Lib.hid (bt HB.out B)
              clear B
              have cY110 := Y11.cell0
              have fY110 := Y11.frozen 0
              have cY111 := Y11.cell1
              have fY111 := Y11.frozen 1
              refine hK.out _ _ ?_ (fun hHeld => ?_)
              · exact ⟨X1.cell0, X1.cell1, X2.cell0, X2.cell1, X3.cell0, X3.cell1, X8.cell0, X8.cell1, X9.cell0, X9.cell1, X10.cell0, X10.cell1⟩
              clear hK K
              try simp only [Act.put, List.setIfInBounds_toArray, List.set_cons_zero, List.set_cons_succ]
              refine wpAnyH_ready (rs := [10]) (by kernel_rfl) (by simp) ?_
              refine AllReadyH.cons (o := ⟨none, _, _, _, _, _⟩) rfl (fun K hK => ?_) AllReadyH.nil
              go_simp
              refine hK.out _ _ ?_ (fun hHeld => ?_)
              · exact ⟨(X1.far dY11X1 _ _).cell0, (X1.far dY11X1 _ _).cell1, (X2.far dY11X2 _ _).cell0, (X2.far dY11X2 _ _).cell1, (X3.far dY11X3 _ _).cell0, (X3.far dY11X3 _ _).cell1, (X8.far dY11X8 _ _).cell0, (X8.far dY11X8 _ _).cell1, (X9.far dY11X9 _ _).cell0, (X9.far dY11X9 _ _).cell1, (X10.far dY11X10 _ _).cell0, (X10.far dY11X10 _ _).cell1⟩
              clear hK K
              try simp only [Act.put, List.setIfInBounds_toArray, List.set_cons_zero, List.set_cons_succ]
              refine wpAnyH_done (by kernel_rfl) ?_ _
              refine NoPanic.normal ?_
              go_wp2_with fail
              go_meet
              exact ⟨⟨X1.far dY11X1 _ _, X2.far dY11X2 _ _, X3.far dY11X3 _ _, h0.st Y11 _ _, h1.st Y11 _ _, h2.st Y11 _ _, st2 HB.out lY11 _ _⟩, ⟨X8.far dY11X8 _ _, p8.st Y11 _ _⟩, ⟨X9.far dY11X9 _ _, p9.st Y11 _ _⟩, ⟨X10.far dY11X10 _ _, p10.st Y11 _ _⟩, ⟨_, s58, A58, n58, c58, rfl, Y11.set _ _ _ _, p58.st Y11 _ _, by omega⟩⟩
        case rest =>
          clear X1 X2 X3 h0 h1 h2 HB X8 p8 X9 p9 X10 p10
          obtain ⟨⟨X1, X2, X3, h0, h1, h2, HB0⟩, ⟨X8, p8⟩, ⟨X9, p9⟩, ⟨X10, p10⟩, g11, s11, A11, n11, c11, rfl, X11, p11, j11⟩ := hcut
          have HB := Lib.hid HB0
          clear HB0
          go_upto_region 8 with (fail)
          refine wp_region_noPanic ?_
          refine wp_region_held_drew (S := (fun w' => w'.cell? ⟨w.heap.size, 0, none⟩ = some (.bool s0) ∧ w'.cell? ⟨w.heap.size, 1, none⟩ = some (.slice a0 len0 cap0) ∧ w'.cell? ⟨w.heap.size + 1, 0, none⟩ = some (.bool s1) ∧ w'.cell? ⟨w.heap.size + 1, 1, none⟩ = some (.slice a1 len1 cap1) ∧ w'.cell? ⟨w.heap.size + 1 + 1, 0, none⟩ = some (.bool s2) ∧ w'.cell? ⟨w.heap.size + 1 + 1, 1, none⟩ = some (.slice a2 len2 cap2) ∧ w'.cell? ⟨g8, 0, none⟩ = some (.bool s8) ∧ w'.cell? ⟨g8, 1, none⟩ = some (.slice A8 n8 c8) ∧ w'.cell? ⟨g9, 0, none⟩ = some (.bool s9) ∧ w'.cell? ⟨g9, 1, none⟩ = some (.slice A9 n9 c9) ∧ w'.cell? ⟨g10, 0, none⟩ = some (.bool s10) ∧ w'.cell? ⟨g10, 1, none⟩ = some (.slice A10 n10 c10) ∧ w'.cell? ⟨g11, 0, none⟩ = some (.bool s11) ∧ w'.cell? ⟨g11, 1, none⟩ = some (.slice A11 n11 c11))) (by kernel_rfl) ?_ (fun hHeld => ?_)
          · exact ⟨X1.drew.cell0, X1.drew.cell1, X2.drew.cell0, X2.drew.cell1, X3.drew.cell0, X3.drew.cell1, X8.drew.cell0, X8.drew.cell1, X9.drew.cell0, X9.drew.cell1, X10.drew.cell0, X10.drew.cell1, X11.drew.cell0, X11.drew.cell1⟩
          refine wpAnyH_take (i := 0) (oi := ⟨some 59, _, _, _, _, _⟩) (v := ?v14) rfl (by kernel_rfl) (by kernel_rfl) (by kernel_rfl) (fun _ _ _ h => h) (Or.inl ⟨by rfl, ?hy14⟩) (by assumption) ?_
          case hy14 => (intro w hSw; (try dsimp only at hSw); go_simp; try with_reducible rfl)
          try simp only [Act.put, List.setIfInBounds_toArray, List.set_cons_zero, List.set_cons_succ]
          refine wpAnyH_take (i := 1) (oi := ⟨some 60, _, _, _, _, _⟩) (v := ?v15) rfl (by kernel_rfl) (by kernel_rfl) (by kernel_rfl) (fun _ _ _ h => h) (Or.inl ⟨by rfl, ?hy15⟩) (by assumption) ?_
          case hy15 => (intro w hSw; (try dsimp only at hSw); go_simp; try with_reducible rfl)
          try simp only [Act.put, List.setIfInBounds_toArray, List.set_cons_zero, List.set_cons_succ]
          refine wpAnyH_ready (rs := [2]) (by kernel_rfl) (by simp) ?_
          refine AllReadyH.cons (o := ⟨some 61, _, _, _, _, _⟩) rfl (fun K hK => ?_) AllReadyH.nil
          go_simp
          refine (wSame (r := true) p8.drew.wr p9.drew.wr (decide_eq_true HE1.out)).mono ?_
          rintro e w61 ⟨rfl, B0⟩
          have B := bt ((Below.refl _ wc).drew) B0
          replace X1 := X1.below B
          replace X2 := X2.below B
          replace X3 := X3.below B
          replace X8 := X8.below B
          replace X9 := X9.below B
          replace X10 := X10.below B
          replace X11 := X11.below B
          replace h0 := h0.below B
          replace h1 := h1.below B
          replace h2 := h2.below B
          replace p8 := p8.below B
          replace p9 := p9.below B
          replace p10 := p10.below B
          replace p11 := p11.below B
          replace HB := Lib.hid (bt HB.out B)
          clear B B0
          refine hK.out _ _ ?_ (fun hHeld => ?_)
          · exact ⟨X1.cell0, X1.cell1, X2.cell0, X2.cell1, X3.cell0, X3.cell1, X8.cell0, X8.cell1, X9.cell0, X9.cell1, X10.cell0, X10.cell1, X11.cell0, X11.cell1⟩
          clear hK K
          try simp only [Act.put, List.setIfInBounds_toArray, List.set_cons_zero, List.set_cons_succ]
          refine wpAnyH_take (i := 3) (oi := ⟨some 62, _, _, _, _, _⟩) (v := ?v16) rfl (by kernel_rfl) (by kernel_rfl) (by kernel_rfl) (fun _ _ _ h => h) (Or.inl ⟨by rfl, ?hy16⟩) (by assumption) ?_
          case hy16 => (intro w hSw; (try dsimp only at hSw); go_simp; try with_reducible rfl)
          try simp only [Act.put, List.setIfInBounds_toArray, List.set_cons_zero, List.set_cons_succ]
          refine wpAnyH_take (i := 4) (oi := ⟨some 63, _, _, _, _, _⟩) (v := ?v17) rfl (by kernel_rfl) (by kernel_rfl) (by kernel_rfl) (fun _ _ _ h => h) (Or.inl ⟨by rfl, ?hy17⟩) (by assumption) ?_
          case hy17 => (intro w hSw; (try dsimp only at hSw); go_simp; try with_reducible rfl)
          try simp only [Act.put, List.setIfInBounds_toArray, List.set_cons_zero, List.set_cons_succ]
          refine wpAnyH_take (i := 5) (oi := ⟨some 64, _, _, _, _, _⟩) (v := ?v18) rfl (by kernel_rfl) (by kernel_rfl) (by kernel_rfl) (fun _ _ _ h => h) (Or.inl ⟨by rfl, ?hy18⟩) (by assumption) ?_
          case hy18 => (intro w hSw; (try dsimp only at hSw); go_simp; try with_reducible rfl)
          try simp only [Act.put, List.setIfInBounds_toArray, List.set_cons_zero, List.set_cons_succ]
          refine wpAnyH_ready (rs := [6]) (by kernel_rfl) (by simp) ?_
          refine AllReadyH.cons (o := ⟨some 65, _, _, _, _, _⟩) rfl (fun K hK => ?_) AllReadyH.nil
          go_simp
          refine (wSame (r := true) p10.wr p11.wr (decide_eq_true HE2.out)).mono ?_
          rintro e w65 ⟨rfl, B⟩
          replace X1 := X1.below B
          replace X2 := X2.below B
          replace X3 := X3.below B
          replace X8 := X8.below B
          replace X9 := X9.below B
          replace X10 := X10.below B
          replace X11 := X11.below B
          replace h0 := h0.below B
          replace h1 := h1.below B
          replace h2 := h2.below B
          replace p8 := p8.below B
          replace p9 := p9.below B
          replace p10 := p10.below B
          replace p11 := p11.below B
          replace HB := Lib.hid (bt HB.out B)
          clear B
          refine hK.out _ _ ?_ (fun hHeld => ?_)
          · exact ⟨X1.cell0, X1.cell1, X2.cell0, X2.cell1, X3.cell0, X3.cell1, X8.cell0, X8.cell1, X9.cell0, X9.cell1, X10.cell0, X10.cell1, X11.cell0, X11.cell1⟩
          clear hK K
          try simp only [Act.put, List.setIfInBounds_toArray, List.set_cons_zero, List.set_cons_succ]
          refine wpAnyH_take (i := 7) (oi := ⟨some 66, _, _, _, _, _⟩) (v := ?v19) rfl (by kernel_rfl) (by kernel_rfl) (by kernel_rfl) (fun _ _ _ h => h) (Or.inl ⟨by rfl, ?hy19⟩) (by assumption) ?_
          case hy19 => (intro w hSw; (try dsimp only at hSw); go_simp; try with_reducible rfl)
          try simp only [Act.put, List.setIfInBounds_toArray, List.set_cons_zero, List.set_cons_succ]
          refine wpAnyH_take (i := 8) (oi := ⟨some 67, _, _, _, _, _⟩) (v := ?v20) rfl (by kernel_rfl) (by kernel_rfl) (by kernel_rfl) (fun _ _ _ h => h) (Or.inl ⟨by rfl, ?hy20⟩) (by assumption) ?_
          case hy20 => (intro w hSw; (try dsimp only at hSw); go_simp; try with_reducible rfl)
          try simp only [Act.put, List.setIfInBounds_toArray, List.set_cons_zero, List.set_cons_succ]
          refine wpAnyH_take (i := 9) (oi := ⟨some 68, _, _, _, _, _⟩) (v := ?v21) rfl (by kernel_rfl) (by kernel_rfl) (by kernel_rfl) (fun _ _ _ h => h) (Or.inl ⟨by rfl, ?hy21⟩) (by assumption) ?_
          case hy21 => (intro w hSw; (try dsimp only at hSw); go_simp; try with_reducible rfl)
          try simp only [Act.put, List.setIfInBounds_toArray, List.set_cons_zero, List.set_cons_succ]
          refine wpAnyH_take (i := 10) (oi := ⟨some 69, _, _, _, _, _⟩) (v := ?v22) rfl (by kernel_rfl) (by kernel_rfl) (by kernel_rfl) (fun _ _ _ h => h) (Or.inl ⟨by rfl, ?hy22⟩) (by assumption) ?_
          case hy22 => (intro w hSw; (try dsimp only at hSw); go_simp; try with_reducible rfl)
          try simp only [Act.put, List.setIfInBounds_toArray, List.set_cons_zero, List.set_cons_succ]
          refine wpAnyH_ready (rs := [11]) (by kernel_rfl) (by simp) ?_
          refine AllReadyH.cons (o := ⟨some 70, _, _, _, _, _⟩) rfl (fun K hK => ?_) AllReadyH.nil
          go_simp
          refine (wNeg h0 rfl).mono ?_
          rintro e w70 ⟨s70, A70, n70, c70, rfl, p70, j70, B⟩
          replace X1 := X1.below B
          replace X2 := X2.below B
          replace X3 := X3.below B
          replace X8 := X8.below B
          replace X9 := X9.below B
          replace X10 := X10.below B
          replace X11 := X11.below B
          replace h0 := h0.below B
          replace h1 := h1.below B
          replace h2 := h2.below B
          replace p8 := p8.below B
          replace p9 := p9.below B
          replace p10 := p10.below B
          replace p11 := p11.below B
          replace HB := Lib.hid (bt HB.out B)
          clear B
          refine hK.out _ _ ?_ (fun hHeld => ?_)
          · exact ⟨X1.cell0, X1.cell1, X2.cell0, X2.cell1, X3.cell0, X3.cell1, X8.cell0, X8.cell1, X9.cell0, X9.cell1, X10.cell0, X10.cell1, X11.cell0, X11.cell1⟩
          clear hK K
          try simp only [Act.put, List.setIfInBounds_toArray, List.set_cons_zero, List.set_cons_succ]
          refine wpAnyH_ready (rs := [12]) (by kernel_rfl) (by simp) ?_
          refine AllReadyH.cons (o := ⟨some 71, _, _, _, _, _⟩) rfl (fun K hK => ?_) AllReadyH.nil
          go_simp
          refine (wAdd h0 p70.wr (by omega) (by omega) rfl).mono ?_
          rintro e w71 ⟨s71, A71, n71, c71, rfl, p71, j71, B⟩
          replace X1 := X1.below B
          replace X2 := X2.below B
          replace X3 := X3.below B
          replace X8 := X8.below B
          replace X9 := X9.below B
          replace X10 := X10.below B
          replace X11 := X11.below B
          replace h0 := h0.below B
          replace h1 := h1.below B
          replace h2 := h2.below B
          replace p8 := p8.below B
          replace p9 := p9.below B
          replace p10 := p10.below B
          replace p11 := p11.below B
          replace p70 := p70.below B
          replace HB := Lib.hid (bt HB.out B)
          clear B
          refine hK.out _ _ ?_ (fun hHeld => ?_)
          · exact ⟨X1.cell0, X1.cell1, X2.cell0, X2.cell1, X3.cell0, X3.cell1, X8.cell0, X8.cell1, X9.cell0, X9.cell1, X10.cell0, X10.cell1, X11.cell0, X11.cell1⟩
          clear hK K
          try simp only [Act.put, List.setIfInBounds_toArray, List.set_cons_zero, List.set_cons_succ]
          refine wpAnyH_ready (rs := [13]) (by kernel_rfl) (by simp) ?_
          refine AllReadyH.cons (o := ⟨some 72, _, _, _, _, _⟩) rfl (fun K hK => ?_) AllReadyH.nil
          go_simp
          refine (wSign (r := 0) p71.wr (cmpI_eq (by omega))).mono ?_
          rintro e w72 ⟨rfl, B⟩
          replace X1 := X1.below B
          replace X2 := X2.below B
          replace X3 := X3.below B
          replace X8 := X8.below B
          replace X9 := X9.below B
          replace X10 := X10.below B
          replace X11 := X11.below B
          replace h0 := h0.below B
          replace h1 := h1.below B
          replace h2 := h2.below B
          replace p8 := p8.below B
          replace p9 := p9.below B
          replace p10 := p10.below B
          replace p11 := p11.below B
          replace p70 := p70.below B
          replace p71 := p71.below B
          replace HB := Lib.hid (bt HB.out B)
          clear B
          refine hK.out _ _ ?_ (fun hHeld => ?_)
          · exact ⟨X1.cell0, X1.cell1, X2.cell0, X2.cell1, X3.cell0, X3.cell1, X8.cell0, X8.cell1, X9.cell0, X9.cell1, X10.cell0, X10.cell1, X11.cell0, X11.cell1⟩
          clear hK K
          try simp only [Act.put, List.setIfInBounds_toArray, List.set_cons_zero, List.set_cons_succ]
          refine wpAnyH_take (i := 14) (oi := ⟨some 73, _, _, _, _, _⟩) (v := ?v23) rfl (by kernel_rfl) (by kernel_rfl) (by kernel_rfl) (fun _ _ _ h => h) (Or.inl ⟨by rfl, ?hy23⟩) (by assumption) ?_
          case hy23 => (intro w hSw; (try dsimp only at hSw); go_simp; try with_reducible rfl)
          try simp only [Act.put, List.setIfInBounds_toArray, List.set_cons_zero, List.set_cons_succ]
          refine wpAnyH_take (i := 15) (oi := ⟨some 74, _, _, _, _, _⟩) (v := ?v24) rfl (by kernel_rfl) (by kernel_rfl) (by kernel_rfl) (fun _ _ _ h => h) (Or.inl ⟨by rfl, ?hy24⟩) (by assumption) ?_
          case hy24 => (intro w hSw; (try dsimp only at hSw); go_simp; try with_reducible rfl)
          try simp only [Act.put, List.setIfInBounds_toArray, List.set_cons_zero, List.set_cons_succ]
          refine wpAnyH_take (i := 16) (oi := ⟨some 75, _, _, _, _, _⟩) (v := ?v25) rfl (by kernel_rfl) (by kernel_rfl) (by kernel_rfl) (fun _ _ _ h => h) (Or.inl ⟨by rfl, ?hy25⟩) (by assumption) ?_
          case hy25 => (intro w hSw; (try dsimp only at hSw); go_simp; try with_reducible rfl)
          try simp only [Act.put, List.setIfInBounds_toArray, List.set_cons_zero, List.set_cons_succ]
          refine wpAnyH_take (i := 17) (oi := ⟨some 76, _, _, _, _, _⟩) (v := ?v26) rfl (by kernel_rfl) (by kernel_rfl) (by kernel_rfl) (fun _ _ _ h => h) (Or.inl ⟨by rfl, ?hy26⟩) (by assumption) ?_
          case hy26 => (intro w hSw; (try dsimp only at hSw); go_simp; try with_reducible rfl)
          try simp only [Act.put, List.setIfInBounds_toArray, List.set_cons_zero, List.set_cons_succ]
          refine wpAnyH_take (i := 18) (oi := ⟨some 77, _, _, _, _, _⟩) (v := ?v27) rfl (by kernel_rfl) (by kernel_rfl) (by kernel_rfl) (fun _ _ _ h => h) (Or.inl ⟨by rfl, ?hy27⟩) (by assumption) ?_
          case hy27 => (intro w hSw; (try dsimp only at hSw); go_simp; try with_reducible rfl)
          try simp only [Act.put, List.setIfInBounds_toArray, List.set_cons_zero, List.set_cons_succ]
          refine wpAnyH_take (i := 19) (oi := ⟨some 78, _, _, _, _, _⟩) (v := ?v28) rfl (by kernel_rfl) (by kernel_rfl) (by kernel_rfl) (fun _ _ _ h => h) (Or.inl ⟨by rfl, ?hy28⟩) (by assumption) ?_
          case hy28 => (intro w hSw; (try dsimp only at hSw); go_simp; try with_reducible rfl)
          try simp only [Act.put, List.setIfInBounds_toArray, List.set_cons_zero, List.set_cons_succ]
          refine wpAnyH_take (i := 22) (oi := ⟨some 81, _, _, _, _, _⟩) (v := ?v29) rfl (by kernel_rfl) (by kernel_rfl) (by kernel_rfl) (fun _ _ _ h => h) (Or.inl ⟨by rfl, ?hy29⟩) (by assumption) ?_
          case hy29 => (intro w hSw; (try dsimp only at hSw); go_simp; try with_reducible rfl)
          try simp only [Act.put, List.setIfInBounds_toArray, List.set_cons_zero, List.set_cons_succ]
          refine wpAnyH_take (i := 23) (oi := ⟨some 82, _, _, _, _, _⟩) (v := ?v30) rfl (by kernel_rfl) (by kernel_rfl) (by kernel_rfl) (fun _ _ _ h => h) (Or.inl ⟨by rfl, ?hy30⟩) (by assumption) ?_
          case hy30 => (intro w hSw; (try dsimp only at hSw); go_simp; try with_reducible rfl)
          try simp only [Act.put, List.setIfInBounds_toArray, List.set_cons_zero, List.set_cons_succ]
          refine wpAnyH_take (i := 24) (oi := ⟨some 83, _, _, _, _, _⟩) (v := ?v31) rfl (by kernel_rfl) (by kernel_rfl) (by kernel_rfl) (fun _ _ _ h => h) (Or.inl ⟨by rfl, ?hy31⟩) (by assumption) ?_
          case hy31 => (intro w hSw; (try dsimp only at hSw); go_simp; try with_reducible rfl)
          try simp only [Act.put, List.setIfInBounds_toArray, List.set_cons_zero, List.set_cons_succ]
          refine wpAnyH_ready (rs := [20, 25]) (by kernel_rfl) (by simp) ?_
          refine AllReadyH.cons (o := ⟨some 79, _, _, _, _, _⟩) rfl (fun K hK => ?_) (AllReadyH.cons (o := ⟨some 84, _, _, _, _, _⟩) rfl (fun K hK => ?_) AllReadyH.nil)
          · go_simp
            refine hK.out _ _ ?_ (fun hHeld => ?_)
            · exact ⟨(X1.below (bel1 _ _)).cell0, (X1.below (bel1 _ _)).cell1, (X2.below (bel1 _ _)).cell0, (X2.below (bel1 _ _)).cell1, (X3.below (bel1 _ _)).cell0, (X3.below (bel1 _ _)).cell1, (X8.below (bel1 _ _)).cell0, (X8.below (bel1 _ _)).cell1, (X9.below (bel1 _ _)).cell0, (X9.below (bel1 _ _)).cell1, (X10.below (bel1 _ _)).cell0, (X10.below (bel1 _ _)).cell1, (X11.below (bel1 _ _)).cell0, (X11.below (bel1 _ _)).cell1⟩
            clear hK K
            try simp only [Act.put, List.setIfInBounds_toArray, List.set_cons_zero, List.set_cons_succ]
            refine wpAnyH_ready (rs := [21, 25]) (by kernel_rfl) (by simp) ?_
            refine AllReadyH.cons (o := ⟨some 80, _, _, _, _, _⟩) rfl (fun K hK => ?_) (AllReadyH.cons (o := ⟨some 84, _, _, _, _, _⟩) rfl (fun K hK => ?_) AllReadyH.nil)
            · go_simp
              refine (wMul (r := 1 * x * y * z) (Wl.lit3 (K := 15) (W := w72) (g := w72.heap.size) (by simp) h0 h1 h2 (by omega) (by omega) (by omega)) (by omega) rfl).mono ?_
              rintro e w80 ⟨s80, A80, n80, c80, rfl, p80, j80, B0⟩
              have B := bt (bel1 w72 (.cells #[.bool s0, .slice a0 len0 cap0, .bool s1, .slice a1 len1 cap1, .bool s2, .slice a2 len2 cap2] 24)) B0
              have hl79 := ((Wl.lit3 (K := 15) (W := w72) (g := w72.heap.size) (by simp) h0 h1 h2 (by omega) (by omega) (by omega))).below B0
              replace X1 := X1.below B
              replace X2 := X2.below B
              replace X3 := X3.below B
              replace X8 := X8.below B
              replace X9 := X9.below B
              replace X10 := X10.below B
              replace X11 := X11.below B
              replace h0 := h0.below B
              replace h1 := h1.below B
              replace h2 := h2.below B
              replace p8 := p8.below B
              replace p9 := p9.below B
              replace p10 := p10.below B
              replace p11 := p11.below B
              replace p70 := p70.below B
              replace p71 := p71.below B
              replace HB := Lib.hid (bt HB.out B)
              clear B B0
              refine hK.out _ _ ?_ (fun hHeld => ?_)
              · exact ⟨X1.cell0, X1.cell1, X2.cell0, X2.cell1, X3.cell0, X3.cell1, X8.cell0, X8.cell1, X9.cell0, X9.cell1, X10.cell0, X10.cell1, X11.cell0, X11.cell1⟩
              clear hK K
              try simp only [Act.put, List.setIfInBounds_toArray, List.set_cons_zero, List.set_cons_succ]
              refine wpAnyH_ready (rs := [25]) (by kernel_rfl) (by simp) ?_
              refine AllReadyH.cons (o := ⟨some 84, _, _, _, _, _⟩) rfl (fun K hK => ?_) AllReadyH.nil
              go_simp
              refine hK.out _ _ ?_ (fun hHeld => ?_)
              · exact ⟨(X1.below (bel1 _ _)).cell0, (X1.below (bel1 _ _)).cell1, (X2.below (bel1 _ _)).cell0, (X2.below (bel1 _ _)).cell1, (X3.below (bel1 _ _)).cell0, (X3.below (bel1 _ _)).cell1, (X8.below (bel1 _ _)).cell0, (X8.below (bel1 _ _)).cell1, (X9.below (bel1 _ _)).cell0, (X9.below (bel1 _ _)).cell1, (X10.below (bel1 _ _)).cell0, (X10.below (bel1 _ _)).cell1, (X11.below (bel1 _ _)).cell0, (X11.below (bel1 _ _)).cell1⟩
              clear hK K
              try simp only [Act.put, List.setIfInBounds_toArray, List.set_cons_zero, List.set_cons_succ]
              refine wpAnyH_ready (rs := [26]) (by kernel_rfl) (by simp) ?_
              refine AllReadyH.cons (o := ⟨some 85, _, _, _, _, _⟩) rfl (fun K hK => ?_) AllReadyH.nil
              go_simp
              refine (wMul (r := 1 * y * x) (Wl.lit2 (K := 15) (W := w80) (g := w80.heap.size) (by simp) h1 h0 (by omega) (by omega)) (by omega) rfl).mono ?_
              rintro e w85 ⟨s85, A85, n85, c85, rfl, p85, j85, B0⟩
              have B := bt (bel1 w80 (.cells #[.bool s1, .slice a1 len1 cap1, .bool s0, .slice a0 len0 cap0] 24)) B0
              have hl84 := ((Wl.lit2 (K := 15) (W := w80) (g := w80.heap.size) (by simp) h1 h0 (by omega) (by omega))).below B0
              replace X1 := X1.below B
              replace X2 := X2.below B
              replace X3 := X3.below B
              replace X8 := X8.below B
              replace X9 := X9.below B
              replace X10 := X10.below B
              replace X11 := X11.below B
              replace h0 := h0.below B
              replace h1 := h1.below B
              replace h2 := h2.below B
              replace p8 := p8.below B
              replace p9 := p9.below B
              replace p10 := p10.below B
              replace p11 := p11.below B
              replace p70 := p70.below B
              replace p71 := p71.below B
              replace hl79 := hl79.below B
              replace p80 := p80.below B
              replace HB := Lib.hid (bt HB.out B)
              clear B B0
              refine hK.out _ _ ?_ (fun hHeld => ?_)
              · exact ⟨X1.cell0, X1.cell1, X2.cell0, X2.cell1, X3.cell0, X3.cell1, X8.cell0, X8.cell1, X9.cell0, X9.cell1, X10.cell0, X10.cell1, X11.cell0, X11.cell1⟩
              clear hK K
              try simp only [Act.put, List.setIfInBounds_toArray, List.set_cons_zero, List.set_cons_succ]
              refine wpAnyH_ready (rs := [27]) (by kernel_rfl) (by simp) ?_
              refine AllReadyH.cons (o := ⟨some 86, _, _, _, _, _⟩) rfl (fun K hK => ?_) AllReadyH.nil
              go_simp
              refine hK.out _ _ ?_ (fun hHeld => ?_)
              · exact ⟨(X1.below (bel1 _ _)).cell0, (X1.below (bel1 _ _)).cell1, (X2.below (bel1 _ _)).cell0, (X2.below (bel1 _ _)).cell1, (X3.below (bel1 _ _)).cell0, (X3.below (bel1 _ _)).cell1, (X8.below (bel1 _ _)).cell0, (X8.below (bel1 _ _)).cell1, (X9.below (bel1 _ _)).cell0, (X9.below (bel1 _ _)).cell1, (X10.below (bel1 _ _)).cell0, (X10.below (bel1 _ _)).cell1, (X11.below (bel1 _ _)).cell0, (X11.below (bel1 _ _)).cell1⟩
              clear hK K
              try simp only [Act.put, List.setIfInBounds_toArray, List.set_cons_zero, List.set_cons_succ]
              refine wpAnyH_ready (rs := [28]) (by kernel_rfl) (by simp) ?_
              refine AllReadyH.cons (o := ⟨some 87, _, _, _, _, _⟩) rfl (fun K hK => ?_) AllReadyH.nil
              go_simp
              refine (wMul (r := 1 * z * (1 * y * x)) (Wl.lit2 (K := 31) (W := w85) (g := w85.heap.size) (by simp) h2 p85.wr (by omega) (by omega)) (by omega) rfl).mono ?_
              rintro e w87 ⟨s87, A87, n87, c87, rfl, p87, j87, B0⟩
              have B := bt (bel1 w85 (.cells #[.bool s2, .slice a2 len2 cap2, .bool s85, .slice A85 n85 c85] 24)) B0
              have hl86 := ((Wl.lit2 (K := 31) (W := w85) (g := w85.heap.size) (by simp) h2 p85.wr (by omega) (by omega))).below B0
              replace X1 := X1.below B
              replace X2 := X2.below B
              replace X3 := X3.below B
              replace X8 := X8.below B
              replace X9 := X9.below B
              replace X10 := X10.below B
              replace X11 := X11.below B
              replace h0 := h0.below B
              replace h1 := h1.below B
              replace h2 := h2.below B
              replace p8 := p8.below B
              replace p9 := p9.below B
              replace p10 := p10.below B
              replace p11 := p11.below B
              replace p70 := p70.below B
              replace p71 := p71.below B
              replace hl79 := hl79.below B
              replace p80 := p80.below B
              replace hl84 := hl84.below B
              replace p85 := p85.below B
              replace HB := Lib.hid (bt HB.out B)
              clear B B0
              refine hK.out _ _ ?_ (fun hHeld => ?_)
              · exact ⟨X1.cell0, X1.cell1, X2.cell0, X2.cell1, X3.cell0, X3.cell1, X8.cell0, X8.cell1, X9.cell0, X9.cell1, X10.cell0, X10.cell1, X11.cell0, X11.cell1⟩
              clear hK K
              try simp only [Act.put, List.setIfInBounds_toArray, List.set_cons_zero, List.set_cons_succ]
              refine wpAnyH_ready (rs := [29]) (by kernel_rfl) (by simp) ?_
              refine AllReadyH.cons (o := ⟨some 88, _, _, _, _, _⟩) rfl (fun K hK => ?_) AllReadyH.nil
              go_simp
              refine (wSame (r := true) p80.wr p87.wr (decide_eq_true HE3.out)).mono ?_
              rintro e w88 ⟨rfl, B⟩
              replace X1 := X1.below B
              replace X2 := X2.below B
              replace X3 := X3.below B
              replace X8 := X8.below B
              replace X9 := X9.below B
              replace X10 := X10.below B
              replace X11 := X11.below B
              replace h0 := h0.below B
              replace h1 := h1.below B
              replace h2 := h2.below B
              replace p8 := p8.below B
              replace p9 := p9.below B
              replace p10 := p10.below B
              replace p11 := p11.below B
              replace p70 := p70.below B
              replace p71 := p71.below B
              replace hl79 := hl79.below B
              replace p80 := p80.below B
              replace hl84 := hl84.below B
              replace p85 := p85.below B
              replace hl86 := hl86.below B
              replace p87 := p87.below B
              replace HB := Lib.hid (bt HB.out B)
              clear B
              refine hK.out _ _ ?_ (fun hHeld => ?_)
              · exact ⟨X1.cell0, X1.cell1, X2.cell0, X2.cell1, X3.cell0, X3.cell1, X8.cell0, X8.cell1, X9.cell0, X9.cell1, X10.cell0, X10.cell1, X11.cell0, X11.cell1⟩
              clear hK K
              try simp only [Act.put, List.setIfInBounds_toArray, List.set_cons_zero, List.set_cons_succ]
              refine wpAnyH_take (i := 30) (oi := ⟨some 89, _, _, _, _, _⟩) (v := ?v32) rfl (by kernel_rfl) (by kernel_rfl) (by kernel_rfl) (fun _ _ _ h => h) (Or.inl ⟨by rfl, ?hy32⟩) (by assumption) ?_
              case hy32 => (intro w hSw; (try dsimp only at hSw); go_simp; try with_reducible rfl)
              try simp only [Act.put, List.setIfInBounds_toArray, List.set_cons_zero, List.set_cons_succ]
              refine wpAnyH_take (i := 31) (oi := ⟨some 90, _, _, _, _, _⟩) (v := ?v33) rfl (by kernel_rfl) (by kernel_rfl) (by kernel_rfl) (fun _ _ _ h => h) (Or.inl ⟨by rfl, ?hy33⟩) (by assumption) ?_
              case hy33 => (intro w hSw; (try dsimp only at hSw); go_simp; try with_reducible rfl)
              try simp only [Act.put, List.setIfInBounds_toArray, List.set_cons_zero, List.set_cons_succ]
              refine wpAnyH_take (i := 32) (oi := ⟨some 91, _, _, _, _, _⟩) (v := ?v34) rfl (by kernel_rfl) (by kernel_rfl) (by kernel_rfl) (fun _ _ _ h => h) (Or.inl ⟨by rfl, ?hy34⟩) (by assumption) ?_
              case hy34 => (intro w hSw; (try dsimp only at hSw); go_simp; try with_reducible rfl)
              try simp only [Act.put, List.setIfInBounds_toArray, List.set_cons_zero, List.set_cons_succ]
              refine wpAnyH_ready (rs := [33]) (by kernel_rfl) (by simp) ?_
              refine AllReadyH.cons (o := ⟨some 92, _, _, _, _, _⟩) rfl (fun K hK => ?_) AllReadyH.nil
              go_simp
              refine (wMay (r := true) p10.1.rd (mayB_wn p10)).mono ?_
              rintro e w92 ⟨rfl, B⟩
              replace X1 := X1.below B
              replace X2 := X2.below B
              replace X3 := X3.below B
              replace X8 := X8.below B
              replace X9 := X9.below B
              replace X10 := X10.below B
              replace X11 := X11.below B
              replace h0 := h0.below B
              replace h1 := h1.below B
              replace h2 := h2.below B
              replace p8 := p8.below B
              replace p9 := p9.below B
              replace p10 := p10.below B
              replace p11 := p11.below B
              replace p70 := p70.below B
              replace p71 := p71.below B
              replace hl79 := hl79.below B
              replace p80 := p80.below B
              replace hl84 := hl84.below B
              replace p85 := p85.below B
              replace hl86 := hl86.below B
              replace p87 := p87.below B
              replace HB := Lib.hid (bt HB.out B)
              clear B
              refine hK.out _ _ ?_ (fun hHeld => ?_)
              · exact ⟨X1.cell0, X1.cell1, X2.cell0, X2.cell1, X3.cell0, X3.cell1, X8.cell0, X8.cell1, X9.cell0, X9.cell1, X10.cell0, X10.cell1, X11.cell0, X11.cell1⟩
              clear hK K
              try simp only [Act.put, List.setIfInBounds_toArray, List.set_cons_zero, List.set_cons_succ]
              refine wpAnyH_take (i := 34) (oi := ⟨some 93, _, _, _, _, _⟩) (v := ?v35) rfl (by kernel_rfl) (by kernel_rfl) (by kernel_rfl) (fun _ _ _ h => h) (Or.inl ⟨by rfl, ?hy35⟩) (by assumption) ?_
              case hy35 => (intro w hSw; (try dsimp only at hSw); go_simp; try with_reducible rfl)
              try simp only [Act.put, List.setIfInBounds_toArray, List.set_cons_zero, List.set_cons_succ]
              refine wpAnyH_take (i := 35) (oi := ⟨some 6, _, _, _, _, _⟩) (v := ?v36) rfl (by kernel_rfl) (by kernel_rfl) (by kernel_rfl) (fun _ _ _ h => h) (Or.inl ⟨by rfl, ?hy36⟩) (by assumption) ?_
              case hy36 => (intro w hSw; (try dsimp only at hSw); go_simp; try with_reducible rfl)
              try simp only [Act.put, List.setIfInBounds_toArray, List.set_cons_zero, List.set_cons_succ]
              refine wpAnyH_done (by kernel_rfl) ?_ _
              refine NoPanic.normal ?_
              go_wp2
              go_ret
              exact ⟨rfl, HB.out⟩
            · go_simp
              refine hK.out _ _ ?_ (fun hHeld => ?_)
              · exact ⟨(X1.below (bel2 _ _ _)).cell0, (X1.below (bel2 _ _ _)).cell1, (X2.below (bel2 _ _ _)).cell0, (X2.below (bel2 _ _ _)).cell1, (X3.below (bel2 _ _ _)).cell0, (X3.below (bel2 _ _ _)).cell1, (X8.below (bel2 _ _ _)).cell0, (X8.below (bel2 _ _ _)).cell1, (X9.below (bel2 _ _ _)).cell0, (X9.below (bel2 _ _ _)).cell1, (X10.below (bel2 _ _ _)).cell0, (X10.below (bel2 _ _ _)).cell1, (X11.below (bel2 _ _ _)).cell0, (X11.below (bel2 _ _ _)).cell1⟩
              clear hK K
              try simp only [Act.put, List.setIfInBounds_toArray, List.set_cons_zero, List.set_cons_succ]
              refine wpAnyH_ready (rs := [21]) (by kernel_rfl) (by simp) ?_
              refine AllReadyH.cons (o := ⟨some 80, _, _, _, _, _⟩) rfl (fun K hK => ?_) AllReadyH.nil
              go_simp
              refine (wMul (r := 1 * x * y * z) ((Wl.lit3 (K := 15) (W := w72) (g := w72.heap.size) (by simp) h0 h1 h2 (by omega) (by omega) (by omega)).below (bel1 _ _)) (by omega) rfl).mono ?_
              rintro e w80 ⟨s80, A80, n80, c80, rfl, p80, j80, B0⟩
              have B := bt (bel2 w72 (.cells #[.bool s0, .slice a0 len0 cap0, .bool s1, .slice a1 len1 cap1, .bool s2, .slice a2 len2 cap2] 24) (.cells #[.bool s1, .slice a1 len1 cap1, .bool s0, .slice a0 len0 cap0] 24)) B0
              have hl79 := ((Wl.lit3 (K := 15) (W := w72) (g := w72.heap.size) (by simp) h0 h1 h2 (by omega) (by omega) (by omega)).below (bel1 _ _)).below B0
              have hl84 := ((Wl.lit2 (K := 15) (W := (w72.alloc (.cells #[.bool s0, .slice a0 len0 cap0, .bool s1, .slice a1 len1 cap1, .bool s2, .slice a2 len2 cap2] 24))) (g := w72.heap.size + 1) (by simp) (h1.below (bel1 _ _)) (h0.below (bel1 _ _)) (by omega) (by omega))).below B0
              replace X1 := X1.below B
              replace X2 := X2.below B
              replace X3 := X3.below B
              replace X8 := X8.below B
              replace X9 := X9.below B
              replace X10 := X10.below B
              replace X11 := X11.below B
              replace h0 := h0.below B
              replace h1 := h1.below B
              replace h2 := h2.below B
              replace p8 := p8.below B
              replace p9 := p9.below B
              replace p10 := p10.below B
              replace p11 := p11.below B
              replace p70 := p70.below B
              replace p71 := p71.below B
              replace HB := Lib.hid (bt HB.out B)
              clear B B0
              refine hK.out _ _ ?_ (fun hHeld => ?_)
              · exact ⟨X1.cell0, X1.cell1, X2.cell0, X2.cell1, X3.cell0, X3.cell1, X8.cell0, X8.cell1, X9.cell0, X9.cell1, X10.cell0, X10.cell1, X11.cell0, X11.cell1⟩
              clear hK K
              try simp only [Act.put, List.setIfInBounds_toArray, List.set_cons_zero, List.set_cons_succ]
              refine wpAnyH_ready (rs := [26]) (by kernel_rfl) (by simp) ?_
              refine AllReadyH.cons (o := ⟨some 85, _, _, _, _, _⟩) rfl (fun K hK => ?_) AllReadyH.nil
              go_simp
              refine (wMul (r := 1 * y * x) hl84 (by omega) rfl).mono ?_
              rintro e w85 ⟨s85, A85, n85, c85, rfl, p85, j85, B⟩
              replace X1 := X1.below B
              replace X2 := X2.below B
              replace X3 := X3.below B
              replace X8 := X8.below B
              replace X9 := X9.below B
              replace X10 := X10.below B
              replace X11 := X11.below B
              replace h0 := h0.below B
              replace h1 := h1.below B
              replace h2 := h2.below B
              replace p8 := p8.below B
              replace p9 := p9.below B
              replace p10 := p10.below B
              replace p11 := p11.below B
              replace p70 := p70.below B
              replace p71 := p71.below B
              replace hl79 := hl79.below B
              replace hl84 := hl84.below B
              replace p80 := p80.below B
              replace HB := Lib.hid (bt HB.out B)
              clear B
              refine hK.out _ _ ?_ (fun hHeld => ?_)
              · exact ⟨X1.cell0, X1.cell1, X2.cell0, X2.cell1, X3.cell0, X3.cell1, X8.cell0, X8.cell1, X9.cell0, X9.cell1, X10.cell0, X10.cell1, X11.cell0, X11.cell1⟩
              clear hK K
              try simp only [Act.put, List.setIfInBounds_toArray, List.set_cons_zero, List.set_cons_succ]
              refine wpAnyH_ready (rs := [27]) (by kernel_rfl) (by simp) ?_
              refine AllReadyH.cons (o := ⟨some 86, _, _, _, _, _⟩) rfl (fun K hK => ?_) AllReadyH.nil
              go_simp
              refine hK.out _ _ ?_ (fun hHeld => ?_)
              · exact ⟨(X1.below (bel1 _ _)).cell0, (X1.below (bel1 _ _)).cell1, (X2.below (bel1 _ _)).cell0, (X2.below (bel1 _ _)).cell1, (X3.below (bel1 _ _)).cell0, (X3.below (bel1 _ _)).cell1, (X8.below (bel1 _ _)).cell0, (X8.below (bel1 _ _)).cell1, (X9.below (bel1 _ _)).cell0, (X9.below (bel1 _ _)).cell1, (X10.below (bel1 _ _)).cell0, (X10.below (bel1 _ _)).cell1, (X11.below (bel1 _ _)).cell0, (X11.below (bel1 _ _)).cell1⟩
              clear hK K
              try simp only [Act.put, List.setIfInBounds_toArray, List.set_cons_zero, List.set_cons_succ]
              refine wpAnyH_ready (rs := [28]) (by kernel_rfl) (by simp) ?_
              refine AllReadyH.cons (o := ⟨some 87, _, _, _, _, _⟩) rfl (fun K hK => ?_) AllReadyH.nil
              go_simp
              refine (wMul (r := 1 * z * (1 * y * x)) (Wl.lit2 (K := 31) (W := w85) (g := w85.heap.size) (by simp) h2 p85.wr (by omega) (by omega)) (by omega) rfl).mono ?_
              rintro e w87 ⟨s87, A87, n87, c87, rfl, p87, j87, B0⟩
              have B := bt (bel1 w85 (.cells #[.bool s2, .slice a2 len2 cap2, .bool s85, .slice A85 n85 c85] 24)) B0
              have hl86 := ((Wl.lit2 (K := 31) (W := w85) (g := w85.heap.size) (by simp) h2 p85.wr (by omega) (by omega))).below B0
              replace X1 := X1.below B
              replace X2 := X2.below B
              replace X3 := X3.below B
              replace X8 := X8.below B
              replace X9 := X9.below B
              replace X10 := X10.below B
              replace X11 := X11.below B
              replace h0 := h0.below B
              replace h1 := h1.below B
              replace h2 := h2.below B
              replace p8 := p8.below B
              replace p9 := p9.below B
              replace p10 := p10.below B
              replace p11 := p11.below B
              replace p70 := p70.below B
              replace p71 := p71.below B
              replace hl79 := hl79.below B
              replace hl84 := hl84.below B
              replace p80 := p80.below B
              replace p85 := p85.below B
              replace HB := Lib.hid (bt HB.out B)
              clear B B0
              refine hK.out _ _ ?_ (fun hHeld => ?_)
              · exact ⟨X1.cell0, X1.cell1, X2.cell0, X2.cell1, X3.cell0, X3.cell1, X8.cell0, X8.cell1, X9.cell0, X9.cell1, X10.cell0, X10.cell1, X11.cell0, X11.cell1⟩
              clear hK K
              try simp only [Act.put, List.setIfInBounds_toArray, List.set_cons_zero, List.set_cons_succ]
              refine wpAnyH_ready (rs := [29]) (by kernel_rfl) (by simp) ?_
              refine AllReadyH.cons (o := ⟨some 88, _, _, _, _, _⟩) rfl (fun K hK => ?_) AllReadyH.nil
              go_simp
              refine (wSame (r := true) p80.wr p87.wr (decide_eq_true HE3.out)).mono ?_
              rintro e w88 ⟨rfl, B⟩
              replace X1 := X1.below B
              replace X2 := X2.below B
              replace X3 := X3.below B
              replace X8 := X8.below B
              replace X9 := X9.below B
              replace X10 := X10.below B
              replace X11 := X11.below B
              replace h0 := h0.below B
              replace h1 := h1.below B
              replace h2 := h2.below B
              replace p8 := p8.below B
              replace p9 := p9.below B
              replace p10 := p10.below B
              replace p11 := p11.below B
              replace p70 := p70.below B
              replace p71 := p71.below B
              replace hl79 := hl79.below B
              replace hl84 := hl84.below B
              replace p80 := p80.below B
              replace p85 := p85.below B
              replace hl86 := hl86.below B
              replace p87 := p87.below B
              replace HB := Lib.hid (bt HB.out B)
              clear B
              refine hK.out _ _ ?_ (fun hHeld => ?_)
              · exact ⟨X1.cell0, X1.cell1, X2.cell0, X2.cell1, X3.cell0, X3.cell1, X8.cell0, X8.cell1, X9.cell0, X9.cell1, X10.cell0, X10.cell1, X11.cell0, X11.cell1⟩
              clear hK K
              try simp only [Act.put, List.setIfInBounds_toArray, List.set_cons_zero, List.set_cons_succ]
              refine wpAnyH_take (i := 30) (oi := ⟨some 89, _, _, _, _, _⟩) (v := ?v37) rfl (by kernel_rfl) (by kernel_rfl) (by kernel_rfl) (fun _ _ _ h => h) (Or.inl ⟨by rfl, ?hy37⟩) (by assumption) ?_
              case hy37 => (intro w hSw; (try dsimp only at hSw); go_simp; try with_reducible rfl)
              try simp only [Act.put, List.setIfInBounds_toArray, List.set_cons_zero, List.set_cons_succ]
              refine wpAnyH_take (i := 31) (oi := ⟨some 90, _, _, _, _, _⟩) (v := ?v38) rfl (by kernel_rfl) (by kernel_rfl) (by kernel_rfl) (fun _ _ _ h => h) (Or.inl ⟨by rfl, ?hy38⟩) (by assumption) ?_
              case hy38 => (intro w hSw; (try dsimp only at hSw); go_simp; try with_reducible rfl)
              try simp only [Act.put, List.setIfInBounds_toArray, List.set_cons_zero, List.set_cons_succ]
              refine wpAnyH_take (i := 32) (oi := ⟨some 91, _, _, _, _, _⟩) (v := ?v39) rfl (by kernel_rfl) (by kernel_rfl) (by kernel_rfl) (fun _ _ _ h => h) (Or.inl ⟨by rfl, ?hy39⟩) (by assumption) ?_
              case hy39 => (intro w hSw; (try dsimp only at hSw); go_simp; try with_reducible rfl)
              try simp only [Act.put, List.setIfInBounds_toArray, List.set_cons_zero, List.set_cons_succ]
              refine wpAnyH_ready (rs := [33]) (by kernel_rfl) (by simp) ?_
              refine AllReadyH.cons (o := ⟨some 92, _, _, _, _, _⟩) rfl (fun K hK => ?_) AllReadyH.nil
              go_simp
              refine (wMay (r := true) p10.1.rd (mayB_wn p10)).mono ?_
              rintro e w92 ⟨rfl, B⟩
              replace X1 := X1.below B
              replace X2 := X2.below B
              replace X3 := X3.below B
              replace X8 := X8.below B
              replace X9 := X9.below B
              replace X10 := X10.below B
              replace X11 := X11.below B
              replace h0 := h0.below B
              replace h1 := h1.below B
              replace h2 := h2.below B
              replace p8 := p8.below B
              replace p9 := p9.below B
              replace p10 := p10.below B
              replace p11 := p11.below B
              replace p70 := p70.below B
              replace p71 := p71.below B
              replace hl79 := hl79.below B
              replace hl84 := hl84.below B
              replace p80 := p80.below B
              replace p85 := p85.below B
              replace hl86 := hl86.below B
              replace p87 := p87.below B
              replace HB := Lib.hid (bt HB.out B)
              clear B
              refine hK.out _ _ ?_ (fun hHeld => ?_)
              · exact ⟨X1.cell0, X1.cell1, X2.cell0, X2.cell1, X3.cell0, X3.cell1, X8.cell0, X8.cell1, X9.cell0, X9.cell1, X10.cell0, X10.cell1, X11.cell0, X11.cell1⟩
              clear hK K
              try simp only [Act.put, List.setIfInBounds_toArray, List.set_cons_zero, List.set_cons_succ]
              refine wpAnyH_take (i := 34) (oi := ⟨some 93, _, _, _, _, _⟩) (v := ?v40) rfl (by kernel_rfl) (by kernel_rfl) (by kernel_rfl) (fun _ _ _ h => h) (Or.inl ⟨by rfl, ?hy40⟩) (by assumption) ?_
              case hy40 => (intro w hSw; (try dsimp only at hSw); go_simp; try with_reducible rfl)
              try simp only [Act.put, List.setIfInBounds_toArray, List.set_cons_zero, List.set_cons_succ]
              refine wpAnyH_take (i := 35) (oi := ⟨some 6, _, _, _, _, _⟩) (v := ?v41) rfl (by kernel_rfl) (by kernel_rfl) (by kernel_rfl) (fun _ _ _ h => h) (Or.inl ⟨by rfl, ?hy41⟩) (by assumption) ?_
              case hy41 => (intro w hSw; (try dsimp only at hSw); go_simp; try with_reducible rfl)
              try simp only [Act.put, List.setIfInBounds_toArray, List.set_cons_zero, List.set_cons_succ]
              refine wpAnyH_done (by kernel_rfl) ?_ _
              refine NoPanic.normal ?_
              go_wp2
              go_ret
              exact ⟨rfl, HB.out⟩
          · go_simp
            refine hK.out _ _ ?_ (fun hHeld => ?_)
            · exact ⟨(X1.below (bel1 _ _)).cell0, (X1.below (bel1 _ _)).cell1, (X2.below (bel1 _ _)).cell0, (X2.below (bel1 _ _)).cell1, (X3.below (bel1 _ _)).cell0, (X3.below (bel1 _ _)).cell1, (X8.below (bel1 _ _)).cell0, (X8.below (bel1 _ _)).cell1, (X9.below (bel1 _ _)).cell0, (X9.below (bel1 _ _)).cell1, (X10.below (bel1 _ _)).cell0, (X10.below (bel1 _ _)).cell1, (X11.below (bel1 _ _)).cell0, (X11.below (bel1 _ _)).cell1⟩
            clear hK K
            try simp only [Act.put, List.setIfInBounds_toArray, List.set_cons_zero, List.set_cons_succ]
            refine wpAnyH_ready (rs := [20]) (by kernel_rfl) (by simp) ?_
            refine AllReadyH.cons (o := ⟨some 79, _, _, _, _, _⟩) rfl (fun K hK => ?_) AllReadyH.nil
            go_simp
            refine hK.out _ _ ?_ (fun hHeld => ?_)
            · exact ⟨(X1.below (bel2 _ _ _)).cell0, (X1.below (bel2 _ _ _)).cell1, (X2.below (bel2 _ _ _)).cell0, (X2.below (bel2 _ _ _)).cell1, (X3.below (bel2 _ _ _)).cell0, (X3.below (bel2 _ _ _)).cell1, (X8.below (bel2 _ _ _)).cell0, (X8.below (bel2 _ _ _)).cell1, (X9.below (bel2 _ _ _)).cell0, (X9.below (bel2 _ _ _)).cell1, (X10.below (bel2 _ _ _)).cell0, (X10.below (bel2 _ _ _)).cell1, (X11.below (bel2 _ _ _)).cell0, (X11.below (bel2 _ _ _)).cell1⟩
            clear hK K
            try simp only [Act.put, List.setIfInBounds_toArray, List.set_cons_zero, List.set_cons_succ]
            refine wpAnyH_ready (rs := [21]) (by kernel_rfl) (by simp) ?_
            refine AllReadyH.cons (o := ⟨some 80, _, _, _, _, _⟩) rfl (fun K hK => ?_) AllReadyH.nil
            go_simp
            refine (wMul (r := 1 * x * y * z) (Wl.lit3 (K := 15) (W := (w72.alloc (.cells #[.bool s1, .slice a1 len1 cap1, .bool s0, .slice a0 len0 cap0] 24))) (g := w72.heap.size + 1) (by simp) (h0.below (bel1 _ _)) (h1.below (bel1 _ _)) (h2.below (bel1 _ _)) (by omega) (by omega) (by omega)) (by omega) rfl).mono ?_
            rintro e w80 ⟨s80, A80, n80, c80, rfl, p80, j80, B0⟩
            have B := bt (bel2 w72 (.cells #[.bool s1, .slice a1 len1 cap1, .bool s0, .slice a0 len0 cap0] 24) (.cells #[.bool s0, .slice a0 len0 cap0, .bool s1, .slice a1 len1 cap1, .bool s2, .slice a2 len2 cap2] 24)) B0
            have hl84 := ((Wl.lit2 (K := 15) (W := w72) (g := w72.heap.size) (by simp) h1 h0 (by omega) (by omega)).below (bel1 _ _)).below B0
            have hl79 := ((Wl.lit3 (K := 15) (W := (w72.alloc (.cells #[.bool s1, .slice a1 len1 cap1, .bool s0, .slice a0 len0 cap0] 24))) (g := w72.heap.size + 1) (by simp) (h0.below (bel1 _ _)) (h1.below (bel1 _ _)) (h2.below (bel1 _ _)) (by omega) (by omega) (by omega))).below B0
            replace X1 := X1.below B
            replace X2 := X2.below B
            replace X3 := X3.below B
            replace X8 := X8.below B
            replace X9 := X9.below B
            replace X10 := X10.below B
            replace X11 := X11.below B
            replace h0 := h0.below B
            replace h1 := h1.below B
            replace h2 := h2.below B
            replace p8 := p8.below B
            replace p9 := p9.below B
            replace p10 := p10.below B
            replace p11 := p11.below B
            replace p70 := p70.below B
            replace p71 := p71.below B
            replace HB := Lib.hid (bt HB.out B)
            clear B B0
            refine hK.out _ _ ?_ (fun hHeld => ?_)
            · exact ⟨X1.cell0, X1.cell1, X2.cell0, X2.cell1, X3.cell0, X3.cell1, X8.cell0, X8.cell1, X9.cell0, X9.cell1, X10.cell0, X10.cell1, X11.cell0, X11.cell1⟩
            clear hK K
            try simp only [Act.put, List.setIfInBounds_toArray, List.set_cons_zero, List.set_cons_succ]
            refine wpAnyH_ready (rs := [26]) (by kernel_rfl) (by simp) ?_
            refine AllReadyH.cons (o := ⟨some 85, _, _, _, _, _⟩) rfl (fun K hK => ?_) AllReadyH.nil
            go_simp
            refine (wMul (r := 1 * y * x) hl84 (by omega) rfl).mono ?_
            rintro e w85 ⟨s85, A85, n85, c85, rfl, p85, j85, B⟩
            replace X1 := X1.below B
            replace X2 := X2.below B
            replace X3 := X3.below B
            replace X8 := X8.below B
            replace X9 := X9.below B
            replace X10 := X10.below B
            replace X11 := X11.below B
            replace h0 := h0.below B
            replace h1 := h1.below B
            replace h2 := h2.below B
            replace p8 := p8.below B
            replace p9 := p9.below B
            replace p10 := p10.below B
            replace p11 := p11.below B
            replace p70 := p70.below B
            replace p71 := p71.below B
            replace hl84 := hl84.below B
            replace hl79 := hl79.below B
            replace p80 := p80.below B
            replace HB := Lib.hid (bt HB.out B)
            clear B
            refine hK.out _ _ ?_ (fun hHeld => ?_)
            · exact ⟨X1.cell0, X1.cell1, X2.cell0, X2.cell1, X3.cell0, X3.cell1, X8.cell0, X8.cell1, X9.cell0, X9.cell1, X10.cell0, X10.cell1, X11.cell0, X11.cell1⟩
            clear hK K
            try simp only [Act.put, List.setIfInBounds_toArray, List.set_cons_zero, List.set_cons_succ]
            refine wpAnyH_ready (rs := [27]) (by kernel_rfl) (by simp) ?_
            refine AllReadyH.cons (o := ⟨some 86, _, _, _, _, _⟩) rfl (fun K hK => ?_) AllReadyH.nil
            go_simp
            refine hK.out _ _ ?_ (fun hHeld => ?_)
            · exact ⟨(X1.below (bel1 _ _)).cell0, (X1.below (bel1 _ _)).cell1, (X2.below (bel1 _ _)).cell0, (X2.below (bel1 _ _)).cell1, (X3.below (bel1 _ _)).cell0, (X3.below (bel1 _ _)).cell1, (X8.below (bel1 _ _)).cell0, (X8.below (bel1 _ _)).cell1, (X9.below (bel1 _ _)).cell0, (X9.below (bel1 _ _)).cell1, (X10.below (bel1 _ _)).cell0, (X10.below (bel1 _ _)).cell1, (X11.below (bel1 _ _)).cell0, (X11.below (bel1 _ _)).cell1⟩
            clear hK K
            try simp only [Act.put, List.setIfInBounds_toArray, List.set_cons_zero, List.set_cons_succ]
            refine wpAnyH_ready (rs := [28]) (by kernel_rfl) (by simp) ?_
            refine AllReadyH.cons (o := ⟨some 87, _, _, _, _, _⟩) rfl (fun K hK => ?_) AllReadyH.nil
            go_simp
            refine (wMul (r := 1 * z * (1 * y * x)) (Wl.lit2 (K := 31) (W := w85) (g := w85.heap.size) (by simp) h2 p85.wr (by omega) (by omega)) (by omega) rfl).mono ?_
            rintro e w87 ⟨s87, A87, n87, c87, rfl, p87, j87, B0⟩
            have B := bt (bel1 w85 (.cells #[.bool s2, .slice a2 len2 cap2, .bool s85, .slice A85 n85 c85] 24)) B0
            have hl86 := ((Wl.lit2 (K := 31) (W := w85) (g := w85.heap.size) (by simp) h2 p85.wr (by omega) (by omega))).below B0
            replace X1 := X1.below B
            replace X2 := X2.below B
            replace X3 := X3.below B
            replace X8 := X8.below B
            replace X9 := X9.below B
            replace X10 := X10.below B
            replace X11 := X11.below B
            replace h0 := h0.below B
            replace h1 := h1.below B
            replace h2 := h2.below B
            replace p8 := p8.below B
            replace p9 := p9.below B
            replace p10 := p10.below B
            replace p11 := p11.below B
            replace p70 := p70.below B
            replace p71 := p71.below B
            replace hl84 := hl84.below B
            replace hl79 := hl79.below B
            replace p80 := p80.below B
            replace p85 := p85.below B
            replace HB := Lib.hid (bt HB.out B)
            clear B B0
            refine hK.out _ _ ?_ (fun hHeld => ?_)
            · exact ⟨X1.cell0, X1.cell1, X2.cell0, X2.cell1, X3.cell0, X3.cell1, X8.cell0, X8.cell1, X9.cell0, X9.cell1, X10.cell0, X10.cell1, X11.cell0, X11.cell1⟩
            clear hK K
            try simp only [Act.put, List.setIfInBounds_toArray, List.set_cons_zero, List.set_cons_succ]
            refine wpAnyH_ready (rs := [29]) (by kernel_rfl) (by simp) ?_
            refine AllReadyH.cons (o := ⟨some 88, _, _, _, _, _⟩) rfl (fun K hK => ?_) AllReadyH.nil
            go_simp
            refine (wSame (r := true) p80.wr p87.wr (decide_eq_true HE3.out)).mono ?_
            rintro e w88 ⟨rfl, B⟩
            replace X1 := X1.below B
            replace X2 := X2.below B
            replace X3 := X3.below B
            replace X8 := X8.below B
            replace X9 := X9.below B
            replace X10 := X10.below B
            replace X11 := X11.below B
            replace h0 := h0.below B
            replace h1 := h1.below B
            replace h2 := h2.below B
            replace p8 := p8.below B
            replace p9 := p9.below B
            replace p10 := p10.below B
            replace p11 := p11.below B
            replace p70 := p70.below B
            replace p71 := p71.below B
            replace hl84 := hl84.below B
            replace hl79 := hl79.below B
            replace p80 := p80.below B
            replace p85 := p85.below B
            replace hl86 := hl86.below B
            replace p87 := p87.below B
            replace HB := Lib.hid (bt HB.out B)
            clear B
            refine hK.out _ _ ?_ (fun hHeld => ?_)
            · exact ⟨X1.cell0, X1.cell1, X2.cell0, X2.cell1, X3.cell0, X3.cell1, X8.cell0, X8.cell1, X9.cell0, X9.cell1, X10.cell0, X10.cell1, X11.cell0, X11.cell1⟩
            clear hK K
            try simp only [Act.put, List.setIfInBounds_toArray, List.set_cons_zero, List.set_cons_succ]
            refine wpAnyH_take (i := 30) (oi := ⟨some 89, _, _, _, _, _⟩) (v := ?v42) rfl (by kernel_rfl) (by kernel_rfl) (by kernel_rfl) (fun _ _ _ h => h) (Or.inl ⟨by rfl, ?hy42⟩) (by assumption) ?_
            case hy42 => (intro w hSw; (try dsimp only at hSw); go_simp; try with_reducible rfl)
            try simp only [Act.put, List.setIfInBounds_toArray, List.set_cons_zero, List.set_cons_succ]
            refine wpAnyH_take (i := 31) (oi := ⟨some 90, _, _, _, _, _⟩) (v := ?v43) rfl (by kernel_rfl) (by kernel_rfl) (by kernel_rfl) (fun _ _ _ h => h) (Or.inl ⟨by rfl, ?hy43⟩) (by assumption) ?_
            case hy43 => (intro w hSw; (try dsimp only at hSw); go_simp; try with_reducible rfl)
            try simp only [Act.put, List.setIfInBounds_toArray, List.set_cons_zero, List.set_cons_succ]
            refine wpAnyH_take (i := 32) (oi := ⟨some 91, _, _, _, _, _⟩) (v := ?v44) rfl (by kernel_rfl) (by kernel_rfl) (by kernel_rfl) (fun _ _ _ h => h) (Or.inl ⟨by rfl, ?hy44⟩) (by assumption) ?_
            case hy44 => (intro w hSw; (try dsimp only at hSw); go_simp; try with_reducible rfl)
            try simp only [Act.put, List.setIfInBounds_toArray, List.set_cons_zero, List.set_cons_succ]
            refine wpAnyH_ready (rs := [33]) (by kernel_rfl) (by simp) ?_
            refine AllReadyH.cons (o := ⟨some 92, _, _, _, _, _⟩) rfl (fun K hK => ?_) AllReadyH.nil
            go_simp
            refine (wMay (r := true) p10.1.rd (mayB_wn p10)).mono ?_
            rintro e w92 ⟨rfl, B⟩
            replace X1 := X1.below B
            replace X2 := X2.below B
            replace X3 := X3.below B
            replace X8 := X8.below B
            replace X9 := X9.below B
            replace X10 := X10.below B
            replace X11 := X11.below B
            replace h0 := h0.below B
            replace h1 := h1.below B
            replace h2 := h2.below B
            replace p8 := p8.below B
            replace p9 := p9.below B
            replace p10 := p10.below B
            replace p11 := p11.below B
            replace p70 := p70.below B
            replace p71 := p71.below B
            replace hl84 := hl84.below B
            replace hl79 := hl79.below B
            replace p80 := p80.below B
            replace p85 := p85.below B
            replace hl86 := hl86.below B
            replace p87 := p87.below B
            replace HB := Lib.hid (bt HB.out B)
            clear B
            refine hK.out _ _ ?_ (fun hHeld => ?_)
            · exact ⟨X1.cell0, X1.cell1, X2.cell0, X2.cell1, X3.cell0, X3.cell1, X8.cell0, X8.cell1, X9.cell0, X9.cell1, X10.cell0, X10.cell1, X11.cell0, X11.cell1⟩
            clear hK K
            try simp only [Act.put, List.setIfInBounds_toArray, List.set_cons_zero, List.set_cons_succ]
            refine wpAnyH_take (i := 34) (oi := ⟨some 93, _, _, _, _, _⟩) (v := ?v45) rfl (by kernel_rfl) (by kernel_rfl) (by kernel_rfl) (fun _ _ _ h => h) (Or.inl ⟨by rfl, ?hy45⟩) (by assumption) ?_
            case hy45 => (intro w hSw; (try dsimp only at hSw); go_simp; try with_reducible rfl)
            try simp only [Act.put, List.setIfInBounds_toArray, List.set_cons_zero, List.set_cons_succ]
            refine wpAnyH_take (i := 35) (oi := ⟨some 6, _, _, _, _, _⟩) (v := ?v46) rfl (by kernel_rfl) (by kernel_rfl) (by kernel_rfl) (fun _ _ _ h => h) (Or.inl ⟨by rfl, ?hy46⟩) (by assumption) ?_
            case hy46 => (intro w hSw; (try dsimp only at hSw); go_simp; try with_reducible rfl)
            try simp only [Act.put, List.setIfInBounds_toArray, List.set_cons_zero, List.set_cons_succ]
            refine wpAnyH_done (by kernel_rfl) ?_ _
            refine NoPanic.normal ?_
            go_wp2
            go_ret
            exact ⟨rfl, HB.out⟩

set_option maxHeartbeats 2000000 in
theorem wholeRing_far (s0 : Bool) (a0 : Option Addr) (len0 cap0 : Nat) (s1 : Bool) (a1 : Option Addr) (len1 cap1 : Nat) (s2 : Bool) (a2 : Option Addr) (len2 cap2 : Nat) (w : World) (q0 : len0 ≤ 9223372036854775807) (q1 : len1 ≤ 9223372036854775807) (q2 : len2 ≤ 9223372036854775807) (hf : ¬ (len0 ≤ 15 ∧ len1 ≤ 15 ∧ len2 ≤ 15)) :
    Calls Try.prog 7 #[.agg #[.bool s0, .slice a0 len0 cap0], .agg #[.bool s1, .slice a1 len1 cap1], .agg #[.bool s2, .slice a2 len2 cap2]] w (PB w true) := by
  by_cases k0 : len0 ≤ 15
  · have t0 : decide ((15 : Int) < len0) = false := by simp; omega
    by_cases k1 : len1 ≤ 15
    · have t1 : decide ((15 : Int) < len1) = false := by simp; omega
      have t2 : decide ((15 : Int) < len2) = true := by simp; omega
      clear hf
      go_enter Try.func7, Try.ntmps7
      go_wp2_with fail
      obtain ⟨X1, X2, X3, B0⟩ := boxes3 w s0 s1 s2 a0 a1 a2 len0 cap0 len1 cap1 len2 cap2 rfl
      have HB := Lib.hid B0
      clear B0
      refine (awake_any _).mono ?_
      rintro e w1 ⟨rfl, B⟩
      replace X1 := X1.below B
      replace X2 := X2.below B
      replace X3 := X3.below B
      replace HB := Lib.hid (bt HB.out B)
      clear B
      have xX10 := X1.cell0
      have xX11 := X1.cell1
      have xX20 := X2.cell0
      have xX21 := X2.cell1
      have xX30 := X3.cell0
      have xX31 := X3.cell1
      go_wp2
      go_ret
      exact ⟨rfl, HB.out⟩
    · have t1 : decide ((15 : Int) < len1) = true := by simp; omega
      clear hf
      go_enter Try.func7, Try.ntmps7
      go_wp2_with fail
      obtain ⟨X1, X2, X3, B0⟩ := boxes3 w s0 s1 s2 a0 a1 a2 len0 cap0 len1 cap1 len2 cap2 rfl
      have HB := Lib.hid B0
      clear B0
      refine (awake_any _).mono ?_
      rintro e w1 ⟨rfl, B⟩
      replace X1 := X1.below B
      replace X2 := X2.below B
      replace X3 := X3.below B
      replace HB := Lib.hid (bt HB.out B)
      clear B
      have xX10 := X1.cell0
      have xX11 := X1.cell1
      have xX20 := X2.cell0
      have xX21 := X2.cell1
      have xX30 := X3.cell0
      have xX31 := X3.cell1
      go_wp2
      go_ret
      exact ⟨rfl, HB.out⟩
  · have t0 : decide ((15 : Int) < len0) = true := by simp; omega
    clear hf
    go_enter Try.func7, Try.ntmps7
    go_wp2_with fail
    obtain ⟨X1, X2, X3, B0⟩ := boxes3 w s0 s1 s2 a0 a1 a2 len0 cap0 len1 cap1 len2 cap2 rfl
    have HB := Lib.hid B0
    clear B0
    refine (awake_any _).mono ?_
    rintro e w1 ⟨rfl, B⟩
    replace X1 := X1.below B
    replace X2 := X2.below B
    replace X3 := X3.below B
    replace HB := Lib.hid (bt HB.out B)
    clear B
    have xX10 := X1.cell0
    have xX11 := X1.cell1
    have xX20 := X2.cell0
    have xX21 := X2.cell1
    have xX30 := X3.cell0
    have xX31 := X3.cell1
    go_wp2
    go_ret
    exact ⟨rfl, HB.out⟩

theorem wholeRing_walk (s0 : Bool) (a0 : Option Addr) (len0 cap0 : Nat) (z0 : List Int) (s1 : Bool) (a1 : Option Addr) (len1 cap1 : Nat) (z1 : List Int) (s2 : Bool) (a2 : Option Addr) (len2 cap2 : Nat) (z2 : List Int) (w : World) (w0 : RowIn w a0 len0 cap0 z0) (w1 : RowIn w a1 len1 cap1 z1) (w2 : RowIn w a2 len2 cap2 z2) :
    Calls Try.prog 7 #[.agg #[.bool s0, .slice a0 len0 cap0], .agg #[.bool s1, .slice a1 len1 cap1], .agg #[.bool s2, .slice a2 len2 cap2]] w fun e w' => e = .returned (.bool true) ∧ Below w.heap.size w w' := by
  by_cases hf : len0 ≤ 15 ∧ len1 ≤ 15 ∧ len2 ≤ 15
  · obtain ⟨u, r0⟩ := w0.rd (by omega)
    obtain ⟨v, r1⟩ := w1.rd (by omega)
    obtain ⟨t, r2⟩ := w2.rd (by omega)
    exact wholeRing_main s0 a0 len0 cap0 s1 a1 len1 cap1 s2 a2 len2 cap2 w _ _ _ (r0.wr s0) (r1.wr s1) (r2.wr s2) hf.1 hf.2.1 hf.2.2
  · exact wholeRing_far s0 a0 len0 cap0 s1 a1 len1 cap1 s2 a2 len2 cap2 w w0.len w1.len w2.len hf
end Go.Proofs.Ytbendmhcimadpaa

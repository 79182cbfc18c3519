/-
  What pelorusref02.Div does, for numbers of at most 2^28 limbs.
-/
import Derived.Test.YtbendmhcimadpaaQb
import Derived.Test.YtbendmhcimadpaaWh
import Derived.Test.YtbendmhcimadpaaRefd
import Derived.StillTailTactics
namespace Go.Proofs.Ytbendmhcimadpaa
open Go.RowKit
set_option linter.unusedVariables false

/-- The five boxes that Div begins with. -/
theorem box5 (w : World) (s t : Bool) (A B : Option Addr) (n c m d : Nat) {W : World} (hW : W = ((((w.alloc (.cells #[.bool s, .slice A n c] 24)).alloc (.cells #[.bool t, .slice B m d] 24)).alloc (.cells #[.bool false, .slice none 0 0] 24)).alloc (.cells #[.bool false, .slice none 0 0] 24)).alloc (.cells #[.bool false, .slice none 0 0] 24)) :
    Bx W w.heap.size s A n c ∧ Bx W (w.heap.size + 1) t B m d ∧ Bx W (w.heap.size + 1 + 1) false none 0 0 ∧ Bx W (w.heap.size + 1 + 1 + 1) false none 0 0 ∧ Bx W (w.heap.size + 1 + 1 + 1 + 1) false none 0 0 ∧ Below w.heap.size w W := by
  subst hW
  obtain ⟨h1, h2, h3, h4⟩ := box3 w s t A B n c m d rfl
  exact ⟨(h1.below (bel1 _ _)).below (bel1 _ _), (h2.below (bel1 _ _)).below (bel1 _ _), (h3.below (bel1 _ _)).below (bel1 _ _), (Bx.newAt _ (by simp) false none 0 0).below (bel1 _ _), Bx.newAt _ (by simp) false none 0 0, bt h4 (bel2 _ _ _)⟩

set_option maxHeartbeats 4000000 in
theorem qDiv_A {w : World} {A B : Option Addr} {n c m d a b : Nat} (s t : Bool) (h : Rd w A n c a) (k : Rd w B m d b) (hn : n ≤ 268435456) (hm : m ≤ 268435456) (h0 : b ≠ 0) {σ τ : Int}
    (HS : Hid (cmpI (sg t b) 0 = σ)) (HT : Hid (cmpI (sg s (a % b)) 0 = τ)) (hσ : (σ == 0) = false) (hb1 : -1 ≤ σ) (hb2 : σ ≤ 1) (hne : (τ == -σ) = false) :
    Calls Try.prog 24 #[.agg #[.bool s, .slice A n c], .agg #[.bool t, .slice B m d]] w (W3 w (n + m + 4) (sg (!(s == t)) (a / b)) (sg s (a % b))) := by
  go_enter Try.func24, Try.ntmps24
  go_wp2_with fail
  obtain ⟨X1, X2, X3, X4, X5, B0⟩ := box5 w s t A B n c m d rfl
  replace h := h.below B0
  replace k := k.below B0
  have HB := Lib.hid B0
  clear B0
  refine (qSign (k.wr t) HS.out).mono ?_
  rintro e w1 ⟨rfl, B1⟩
  replace h := h.below B1
  replace k := k.below B1
  replace X1 := X1.below B1
  replace X2 := X2.below B1
  replace X3 := X3.below B1
  replace X4 := X4.below B1
  replace X5 := X5.below B1
  replace HB := Lib.hid (bt HB.out B1)
  clear B1
  clear X5
  have x10 := X1.cell0
  have x11 := X1.cell1
  have x20 := X2.cell0
  have x21 := X2.cell1
  go_wp2_with fail
  refine (rDiv h k hn hm h0).mono ?_
  rintro e w2 ⟨A1, n1, c1, A2, n2, c2, rfl, h1, h2, k1, k2, B2⟩
  clear x10 x11 x20 x21
  replace k := k.below B2
  replace X1 := X1.below B2
  replace X2 := X2.below B2
  replace X3 := X3.below B2
  replace X4 := X4.below B2
  replace HB := Lib.hid (bt HB.out B2)
  clear B2 h
  have x10 := X1.cell0
  have x20 := X2.cell0
  go_wp2_with fail
  refine (qMake (!(s == t)) h1.rd).mono ?_
  rintro e w3 ⟨s3, A3, n3, c3, rfl, h3, k3, B3⟩
  clear x10 x20
  have g6 : w.heap.size + 1 + 1 + 1 < w3.heap.size := (X4.below B3).lt
  replace B3 := bt B3 (bel1 _ (.cells #[.bool s3, .slice A3 n3 c3] 24))
  replace k := k.below B3
  replace h2 := h2.below B3
  replace X1 := X1.below B3
  replace X2 := X2.below B3
  replace X3 := X3.below B3
  replace X4 := X4.below B3
  replace HB := Lib.hid (bt HB.out B3)
  replace h3 := h3.below (bel1 _ (.cells #[.bool s3, .slice A3 n3 c3] 24))
  have X6 := Bx.new w3 s3 A3 n3 c3
  clear B3 h1
  have x10 := X1.cell0
  go_wp2_with fail
  refine (qMake s h2.rd).mono ?_
  rintro e w4 ⟨s4, A4, n4, c4, rfl, h4, k4, B4⟩
  clear x10
  have g7 : w3.heap.size < w4.heap.size := (X6.below B4).lt
  replace B4 := bt B4 (bel1 _ (.cells #[.bool s4, .slice A4 n4 c4] 24))
  replace k := k.below B4
  replace h3 := h3.below B4
  replace X1 := X1.below B4
  replace X2 := X2.below B4
  replace X3 := X3.below B4
  replace X4 := X4.below B4
  replace X6 := X6.below B4
  replace HB := Lib.hid (bt HB.out B4)
  replace h4 := h4.below (bel1 _ (.cells #[.bool s4, .slice A4 n4 c4] 24))
  have X7 := Bx.new w4 s4 A4 n4 c4
  clear B4 h2
  have x70 := X7.cell0
  have x71 := X7.cell1
  go_wp2_with fail
  refine (qSign h4.wr HT.out).mono ?_
  rintro e w5 ⟨rfl, B5⟩
  clear x70 x71
  replace k := k.below B5
  replace h3 := h3.below B5
  replace h4 := h4.below B5
  replace X2 := X2.below B5
  replace X3 := X3.below B5
  replace X4 := X4.below B5
  replace X6 := X6.below B5
  replace X7 := X7.below B5
  replace HB := Lib.hid (bt HB.out B5)
  clear B5 X1
  clear X2
  have x30 := X3.cell0
  have x31 := X3.cell1
  have f30 := X3.frozen 0
  have f31 := X3.frozen 1
  have x40 := X4.cell0
  have x41 := X4.cell1
  have f40 := X4.frozen 0
  have f41 := X4.frozen 1
  have x60 := X6.cell0
  have x61 := X6.cell1
  have f60 := X6.frozen 0
  have f61 := X6.frozen 1
  have x70 := X7.cell0
  have x71 := X7.cell1
  have f70 := X7.frozen 0
  have f71 := X7.frozen 1
  have d63 : w3.heap.size ≠ w.heap.size + 1 + 1 := by omega
  have d64 : w3.heap.size ≠ w.heap.size + 1 + 1 + 1 := by omega
  have d73 : w4.heap.size ≠ w.heap.size + 1 + 1 := by omega
  have d74 : w4.heap.size ≠ w.heap.size + 1 + 1 + 1 := by omega
  go_wp2
  go_region_held3 (fun w' => w'.cell? ⟨w3.heap.size, 0, none⟩ = some (.bool s3) ∧ w'.cell? ⟨w3.heap.size, 1, none⟩ = some (.slice A3 n3 c3) ∧ w'.cell? ⟨w4.heap.size, 0, none⟩ = some (.bool s4) ∧ w'.cell? ⟨w4.heap.size, 1, none⟩ = some (.slice A4 n4 c4)) (first | with_reducible exact ⟨X6.cell0, X6.cell1, X7.cell0, X7.cell1⟩ | with_reducible exact ⟨X6.drew.cell0, X6.drew.cell1, X7.drew.cell0, X7.drew.cell1⟩ | with_reducible exact ⟨(X6.far d63 _ _).cell0, (X6.far d63 _ _).cell1, (X7.far d73 _ _).cell0, (X7.far d73 _ _).cell1⟩ | with_reducible exact ⟨(X6.far d63 _ _).drew.cell0, (X6.far d63 _ _).drew.cell1, (X7.far d73 _ _).drew.cell0, (X7.far d73 _ _).drew.cell1⟩ | with_reducible exact ⟨((X6.far d63 _ _).far d64 _ _).cell0, ((X6.far d63 _ _).far d64 _ _).cell1, ((X7.far d73 _ _).far d74 _ _).cell0, ((X7.far d73 _ _).far d74 _ _).cell1⟩ | with_reducible exact ⟨((X6.far d63 _ _).far d64 _ _).drew.cell0, ((X6.far d63 _ _).far d64 _ _).drew.cell1, ((X7.far d73 _ _).far d74 _ _).drew.cell0, ((X7.far d73 _ _).far d74 _ _).drew.cell1⟩) (fail)
  go_wp2
  exact bodyPost_ret (v := .tuple #[.agg #[.bool s3, .slice A3 n3 c3], .agg #[.bool s4, .slice A4 n4 c4], .bool true]) (by simp [results, Try.results24, go_sem, X3.cell0, X3.cell1, X4.cell0, X4.cell1]) rfl
    ⟨s3, A3, n3, c3, s4, A4, n4, c4, rfl, ((h3.st X3 _ _).st (X4.far (by omega) _ _) _ _).drew, ((h4.st X3 _ _).st (X4.far (by omega) _ _) _ _).drew, by omega, by omega, (st2 (st2 HB.out (by omega) _ _) (by omega) _ _).drew⟩

set_option maxHeartbeats 4000000 in
theorem qDiv_B {w : World} {A B : Option Addr} {n c m d a b : Nat} (s t : Bool) (h : Rd w A n c a) (k : Rd w B m d b) (hn : n ≤ 268435456) (hm : m ≤ 268435456) (h0 : b ≠ 0) {σ τ : Int}
    (HS : Hid (cmpI (sg t b) 0 = σ)) (HT : Hid (cmpI (sg s (a % b)) 0 = τ)) (hσ : (σ == 0) = false) (hb1 : -1 ≤ σ) (hb2 : σ ≤ 1) (hne : (τ == -σ) = true) :
    Calls Try.prog 24 #[.agg #[.bool s, .slice A n c], .agg #[.bool t, .slice B m d]] w (W3 w (n + m + 4) (sg (!(s == t)) (a / b) + -1) (sg s (a % b) + sg t b)) := by
  go_enter Try.func24, Try.ntmps24
  go_wp2_with fail
  obtain ⟨X1, X2, X3, X4, X5, B0⟩ := box5 w s t A B n c m d rfl
  replace h := h.below B0
  replace k := k.below B0
  have HB := Lib.hid B0
  clear B0
  refine (qSign (k.wr t) HS.out).mono ?_
  rintro e w1 ⟨rfl, B1⟩
  replace h := h.below B1
  replace k := k.below B1
  replace X1 := X1.below B1
  replace X2 := X2.below B1
  replace X3 := X3.below B1
  replace X4 := X4.below B1
  replace X5 := X5.below B1
  replace HB := Lib.hid (bt HB.out B1)
  clear B1
  clear X5
  have x10 := X1.cell0
  have x11 := X1.cell1
  have x20 := X2.cell0
  have x21 := X2.cell1
  go_wp2_with fail
  refine (rDiv h k hn hm h0).mono ?_
  rintro e w2 ⟨A1, n1, c1, A2, n2, c2, rfl, h1, h2, k1, k2, B2⟩
  clear x10 x11 x20 x21
  replace k := k.below B2
  replace X1 := X1.below B2
  replace X2 := X2.below B2
  replace X3 := X3.below B2
  replace X4 := X4.below B2
  replace HB := Lib.hid (bt HB.out B2)
  clear B2 h
  have x10 := X1.cell0
  have x20 := X2.cell0
  go_wp2_with fail
  refine (qMake (!(s == t)) h1.rd).mono ?_
  rintro e w3 ⟨s3, A3, n3, c3, rfl, h3, k3, B3⟩
  clear x10 x20
  have g6 : w.heap.size + 1 + 1 + 1 < w3.heap.size := (X4.below B3).lt
  replace B3 := bt B3 (bel1 _ (.cells #[.bool s3, .slice A3 n3 c3] 24))
  replace k := k.below B3
  replace h2 := h2.below B3
  replace X1 := X1.below B3
  replace X2 := X2.below B3
  replace X3 := X3.below B3
  replace X4 := X4.below B3
  replace HB := Lib.hid (bt HB.out B3)
  replace h3 := h3.below (bel1 _ (.cells #[.bool s3, .slice A3 n3 c3] 24))
  have X6 := Bx.new w3 s3 A3 n3 c3
  clear B3 h1
  have x10 := X1.cell0
  go_wp2_with fail
  refine (qMake s h2.rd).mono ?_
  rintro e w4 ⟨s4, A4, n4, c4, rfl, h4, k4, B4⟩
  clear x10
  have g7 : w3.heap.size < w4.heap.size := (X6.below B4).lt
  replace B4 := bt B4 (bel1 _ (.cells #[.bool s4, .slice A4 n4 c4] 24))
  replace k := k.below B4
  replace h3 := h3.below B4
  replace X1 := X1.below B4
  replace X2 := X2.below B4
  replace X3 := X3.below B4
  replace X4 := X4.below B4
  replace X6 := X6.below B4
  replace HB := Lib.hid (bt HB.out B4)
  replace h4 := h4.below (bel1 _ (.cells #[.bool s4, .slice A4 n4 c4] 24))
  have X7 := Bx.new w4 s4 A4 n4 c4
  clear B4 h2
  have x70 := X7.cell0
  have x71 := X7.cell1
  go_wp2_with fail
  refine (qSign h4.wr HT.out).mono ?_
  rintro e w5 ⟨rfl, B5⟩
  clear x70 x71
  replace k := k.below B5
  replace h3 := h3.below B5
  replace h4 := h4.below B5
  replace X2 := X2.below B5
  replace X3 := X3.below B5
  replace X4 := X4.below B5
  replace X6 := X6.below B5
  replace X7 := X7.below B5
  replace HB := Lib.hid (bt HB.out B5)
  clear B5 X1
  have x60 := X6.cell0
  have x61 := X6.cell1
  have f60 := X6.frozen 0
  have f61 := X6.frozen 1
  go_wp2
  go_region_with (first
    | (go_at_call 32; ((with_reducible refine (qFrom (-1) _ (by omega) (by omega)).mono ?_); rintro e w6 ⟨s6, A6, n6, c6, rfl, h6, k6, B6⟩; clear x60 x61 f60 f61; replace k := k.drew.below B6; replace h3 := h3.drew.below B6; replace h4 := h4.drew.below B6; replace X2 := X2.drew.below B6; replace X3 := X3.drew.below B6; replace X4 := X4.drew.below B6; replace X6 := X6.drew.below B6; replace X7 := X7.drew.below B6; replace HB := Lib.hid (bt HB.out.drew B6); have x60 := X6.cell0; have x61 := X6.cell1; have f60 := X6.frozen 0; have f61 := X6.frozen 1))
    | (go_at_call 13; ((with_reducible refine (qAdd h3.wr h6.wr (by omega) (by omega) rfl).mono ?_); rintro e w7 ⟨s8, A8, n8, c8, rfl, h8, k8, B7⟩; clear x60 x61 f60 f61; replace k := k.below B7; replace h4 := h4.below B7; replace X2 := X2.below B7; replace X3 := X3.below B7; replace X4 := X4.below B7; replace X6 := X6.below B7; replace X7 := X7.below B7; replace HB := Lib.hid (bt HB.out B7); have x60 := X6.cell0; have x61 := X6.cell1; have f60 := X6.frozen 0; have f61 := X6.frozen 1)))
  all_goals
    have X8 : Bx ((w7.setCell ⟨w3.heap.size, 0, none⟩ (.bool s8)).setCell ⟨w3.heap.size, 1, none⟩ (.slice A8 n8 c8)) w3.heap.size s8 A8 n8 c8 := X6.set _ _ _ _
    have e1 : w.heap.size + 1 ≠ w3.heap.size := by omega
    have e2 : w.heap.size + 1 + 1 ≠ w3.heap.size := by omega
    have e3 : w.heap.size + 1 + 1 + 1 ≠ w3.heap.size := by omega
    have e4 : w4.heap.size ≠ w3.heap.size := by omega
    replace X2 := X2.far e1 (.bool s8) (.slice A8 n8 c8)
    replace X3 := X3.far e2 (.bool s8) (.slice A8 n8 c8)
    replace X4 := X4.far e3 (.bool s8) (.slice A8 n8 c8)
    replace X7 := X7.far e4 (.bool s8) (.slice A8 n8 c8)
    replace h8 := h8.st X6 (.bool s8) (.slice A8 n8 c8)
    replace h4 := h4.st X6 (.bool s8) (.slice A8 n8 c8)
    replace k := k.st X6 (.bool s8) (.slice A8 n8 c8)
    replace HB := Lib.hid (st2 (o1 := 0) (o2 := 1) HB.out (show w.heap.size ≤ w3.heap.size by omega) (.bool s8) (.slice A8 n8 c8))
    clear x60 x61 f60 f61 X6 h3 h6
    revert X2 X3 X4 X7 X8 h8 h4 k HB
    generalize (w7.setCell ⟨w3.heap.size, 0, none⟩ (.bool s8)).setCell ⟨w3.heap.size, 1, none⟩ (.slice A8 n8 c8) = w8
    intro X6 X2 X3 X4 X7 h3 h4 k HB
    have x20 := X2.cell0
    have x21 := X2.cell1
    have f20 := X2.frozen 0
    have f21 := X2.frozen 1
    have x70 := X7.cell0
    have x71 := X7.cell1
    have f70 := X7.frozen 0
    have f71 := X7.frozen 1
    go_wp2_with (first
      | (go_at_call 13; ((with_reducible refine (qAdd h4.wr (k.wr t) (by omega) (by omega) rfl).mono ?_); rintro e w9 ⟨s9, A9, n9, c9, rfl, h9, k9, B9⟩; clear x20 x21 f20 f21 x70 x71 f70 f71; replace h3 := h3.below B9; replace X3 := X3.below B9; replace X4 := X4.below B9; replace X6 := X6.below B9; replace X7 := X7.below B9; replace HB := Lib.hid (bt HB.out B9); have x70 := X7.cell0; have x71 := X7.cell1; have f70 := X7.frozen 0; have f71 := X7.frozen 1; clear B9)))
    clear x70 x71 f70 f71 h4 k X2
    have X8 : Bx ((w9.setCell ⟨w4.heap.size, 0, none⟩ (.bool s9)).setCell ⟨w4.heap.size, 1, none⟩ (.slice A9 n9 c9)) w4.heap.size s9 A9 n9 c9 := X7.set _ _ _ _
    have e5 : w.heap.size + 1 + 1 ≠ w4.heap.size := by omega
    have e6 : w.heap.size + 1 + 1 + 1 ≠ w4.heap.size := by omega
    have e7 : w3.heap.size ≠ w4.heap.size := by omega
    replace X3 := X3.far e5 (.bool s9) (.slice A9 n9 c9)
    replace X4 := X4.far e6 (.bool s9) (.slice A9 n9 c9)
    replace X6 := X6.far e7 (.bool s9) (.slice A9 n9 c9)
    replace h3 := h3.st X7 (.bool s9) (.slice A9 n9 c9)
    replace h9 := h9.st X7 (.bool s9) (.slice A9 n9 c9)
    replace HB := Lib.hid (st2 (o1 := 0) (o2 := 1) HB.out (show w.heap.size ≤ w4.heap.size by omega) (.bool s9) (.slice A9 n9 c9))
    clear X7
    revert X8 X3 X4 X6 h3 h9 HB
    generalize (w9.setCell ⟨w4.heap.size, 0, none⟩ (.bool s9)).setCell ⟨w4.heap.size, 1, none⟩ (.slice A9 n9 c9) = w10
    intro X7 X3 X4 X6 h3 h4 HB
    have x30 := X3.cell0
    have x31 := X3.cell1
    have f30 := X3.frozen 0
    have f31 := X3.frozen 1
    have x40 := X4.cell0
    have x41 := X4.cell1
    have f40 := X4.frozen 0
    have f41 := X4.frozen 1
    have x60 := X6.cell0
    have x61 := X6.cell1
    have f60 := X6.frozen 0
    have f61 := X6.frozen 1
    have x70 := X7.cell0
    have x71 := X7.cell1
    have f70 := X7.frozen 0
    have f71 := X7.frozen 1
    have d63 : w3.heap.size ≠ w.heap.size + 1 + 1 := by omega
    have d64 : w3.heap.size ≠ w.heap.size + 1 + 1 + 1 := by omega
    have d73 : w4.heap.size ≠ w.heap.size + 1 + 1 := by omega
    have d74 : w4.heap.size ≠ w.heap.size + 1 + 1 + 1 := by omega
    go_region_held3 (fun w' => w'.cell? ⟨w3.heap.size, 0, none⟩ = some (.bool s8) ∧ w'.cell? ⟨w3.heap.size, 1, none⟩ = some (.slice A8 n8 c8) ∧ w'.cell? ⟨w4.heap.size, 0, none⟩ = some (.bool s9) ∧ w'.cell? ⟨w4.heap.size, 1, none⟩ = some (.slice A9 n9 c9)) (first | with_reducible exact ⟨X6.cell0, X6.cell1, X7.cell0, X7.cell1⟩ | with_reducible exact ⟨X6.drew.cell0, X6.drew.cell1, X7.drew.cell0, X7.drew.cell1⟩ | with_reducible exact ⟨(X6.far d63 _ _).cell0, (X6.far d63 _ _).cell1, (X7.far d73 _ _).cell0, (X7.far d73 _ _).cell1⟩ | with_reducible exact ⟨(X6.far d63 _ _).drew.cell0, (X6.far d63 _ _).drew.cell1, (X7.far d73 _ _).drew.cell0, (X7.far d73 _ _).drew.cell1⟩ | with_reducible exact ⟨((X6.far d63 _ _).far d64 _ _).cell0, ((X6.far d63 _ _).far d64 _ _).cell1, ((X7.far d73 _ _).far d74 _ _).cell0, ((X7.far d73 _ _).far d74 _ _).cell1⟩ | with_reducible exact ⟨((X6.far d63 _ _).far d64 _ _).drew.cell0, ((X6.far d63 _ _).far d64 _ _).drew.cell1, ((X7.far d73 _ _).far d74 _ _).drew.cell0, ((X7.far d73 _ _).far d74 _ _).drew.cell1⟩) (fail)
    go_wp2
    exact bodyPost_ret (v := .tuple #[.agg #[.bool s8, .slice A8 n8 c8], .agg #[.bool s9, .slice A9 n9 c9], .bool true]) (by simp [results, Try.results24, go_sem, X3.cell0, X3.cell1, X4.cell0, X4.cell1]) rfl
      ⟨s8, A8, n8, c8, s9, A9, n9, c9, rfl, ((h3.st X3 _ _).st (X4.far (by omega) _ _) _ _).drew, ((h4.st X3 _ _).st (X4.far (by omega) _ _) _ _).drew, by omega, by omega, (st2 (st2 HB.out (by omega) _ _) (by omega) _ _).drew⟩

theorem qDiv {w : World} {A B : Option Addr} {n c m d : Nat} {s t : Bool} {x y q r : Int} (h : Wr w s A n c x) (k : Wr w t B m d y) (hn : n ≤ 268435456) (hm : m ≤ 268435456) (h0 : y ≠ 0) (hq : x.fdiv y = q) (hr : x.fmod y = r) :
    Calls Try.prog 24 #[.agg #[.bool s, .slice A n c], .agg #[.bool t, .slice B m d]] w (W3 w (n + m + 4) q r) := by
  obtain ⟨a, h, rfl⟩ := h
  obtain ⟨b, k, rfl⟩ := k
  have hb : b ≠ 0 := by rintro rfl; exact h0 (sg_zero _)
  have bσ := cmpI_bd (sg t b) 0
  have hσ : (cmpI (sg t b) 0 == 0) = false := by
    have : cmpI (sg t b) 0 ≠ 0 := fun e => h0 (cmpI_zero.1 e)
    simpa using this
  subst hq; subst hr
  by_cases hs : s = t
  · subst hs
    rw [← (div_same s hb).1, ← (div_same s hb).2]
    have := qDiv_A s s h k hn hm hb (Lib.hid rfl) (Lib.hid rfl) hσ bσ.1 bσ.2 (by
      rcases sg_cases s b with ⟨e, _⟩ | ⟨_, rfl, e⟩ | ⟨_, rfl, e⟩
      · exact absurd e hb
      · rw [e]; rcases sg_cases true (a % b) with ⟨_, e'⟩ | ⟨_, _, e'⟩ | ⟨_, e2, _⟩
        · rw [e']; rfl
        · rw [e']; rfl
        · cases e2
      · rw [e]; rcases sg_cases false (a % b) with ⟨_, e'⟩ | ⟨_, e2, _⟩ | ⟨_, _, e'⟩
        · rw [e']; rfl
        · cases e2
        · rw [e']; rfl)
    simpa using this
  · have hst : (s == t) = false := by simpa using hs
    by_cases h2 : a % b = 0
    · rw [← (div_zero' s t hst hb h2).1, ← (div_zero' s t hst hb h2).2]
      have := qDiv_A s t h k hn hm hb (Lib.hid rfl) (Lib.hid rfl) hσ bσ.1 bσ.2 (by
        rw [h2, sg_zero, cmpI_eq rfl]
        have : cmpI (sg t b) 0 ≠ 0 := fun e => h0 (cmpI_zero.1 e)
        simp; omega)
      rw [hst, h2, sg_zero] at this
      rw [sg_zero]
      exact this
    · rw [← (div_left s t hst hb h2).1, ← (div_left s t hst hb h2).2]
      have := qDiv_B s t h k hn hm hb (Lib.hid rfl) (Lib.hid rfl) hσ bσ.1 bσ.2 (by
        rcases sg_cases t b with ⟨e, _⟩ | ⟨_, rfl, e⟩ | ⟨_, rfl, e⟩
        · exact absurd e hb
        · obtain rfl : s = false := by cases s <;> simp_all
          rcases sg_cases false (a % b) with ⟨e2, _⟩ | ⟨_, e2, _⟩ | ⟨_, _, e'⟩
          · exact absurd e2 h2
          · cases e2
          · rw [e, e']; rfl
        · obtain rfl : s = true := by cases s <;> simp_all
          rcases sg_cases true (a % b) with ⟨e2, _⟩ | ⟨_, _, e'⟩ | ⟨_, e2, _⟩
          · exact absurd e2 h2
          · rw [e, e']; rfl
          · cases e2)
      rw [hst] at this
      have e1 : sg (!false) (a / b) + -1 = sg true (a / b + 1) := by simp [sg]; omega
      have e2 : sg s (a % b) + sg t b = sg t (b - a % b) := by
        have := Nat.mod_lt a (Nat.pos_of_ne_zero hb)
        revert hst
        cases s <;> cases t <;> simp [sg] <;> omega
      rw [e1, e2] at this
      exact this

set_option maxHeartbeats 2000000 in
theorem qDiv0 {w : World} {A B : Option Addr} {n c m d : Nat} {s t : Bool} {x : Int} (h : Wr w s A n c x) (k : Wr w t B m d 0) :
    Calls Try.prog 24 #[.agg #[.bool s, .slice A n c], .agg #[.bool t, .slice B m d]] w fun e w' => e = .returned (.tuple #[.agg #[.bool false, .slice none 0 0], .agg #[.bool false, .slice none 0 0], .bool false]) ∧ Below w.heap.size w w' := by
  go_enter Try.func24, Try.ntmps24
  go_wp2_with fail
  obtain ⟨X1, X2, X3, X4, X5, B0⟩ := box5 w s t A B n c m d rfl
  replace k := k.below B0
  have HB := Lib.hid B0
  clear B0
  refine (qSign k (cmpI_eq rfl)).mono ?_
  rintro e w1 ⟨rfl, B1⟩
  replace X3 := X3.below B1
  replace X4 := X4.below B1
  replace X5 := X5.below B1
  replace HB := Lib.hid (bt HB.out B1)
  clear B1 X1 X2 h k
  have x30 := X3.cell0
  have x31 := X3.cell1
  have f30 := X3.frozen 0
  have f31 := X3.frozen 1
  have x40 := X4.cell0
  have x41 := X4.cell1
  have f40 := X4.frozen 0
  have f41 := X4.frozen 1
  have x50 := X5.cell0
  have x51 := X5.cell1
  have f50 := X5.frozen 0
  have f51 := X5.frozen 1
  have d63 : w.heap.size + 1 + 1 + 1 + 1 ≠ w.heap.size + 1 + 1 := by omega
  have d64 : w.heap.size + 1 + 1 + 1 + 1 ≠ w.heap.size + 1 + 1 + 1 := by omega
  go_wp2
  go_region_held3 (fun w' => w'.cell? ⟨w.heap.size + 1 + 1 + 1 + 1, 0, none⟩ = some (.bool false) ∧ w'.cell? ⟨w.heap.size + 1 + 1 + 1 + 1, 1, none⟩ = some (.slice none 0 0)) (first | with_reducible exact ⟨X5.cell0, X5.cell1⟩ | with_reducible exact ⟨X5.drew.cell0, X5.drew.cell1⟩ | with_reducible exact ⟨(X5.far d63 _ _).cell0, (X5.far d63 _ _).cell1⟩ | with_reducible exact ⟨(X5.far d63 _ _).drew.cell0, (X5.far d63 _ _).drew.cell1⟩ | with_reducible exact ⟨((X5.far d63 _ _).far d64 _ _).cell0, ((X5.far d63 _ _).far d64 _ _).cell1⟩ | with_reducible exact ⟨((X5.far d63 _ _).far d64 _ _).drew.cell0, ((X5.far d63 _ _).far d64 _ _).drew.cell1⟩) (fail)
  go_wp2
  exact bodyPost_ret (v := .tuple #[.agg #[.bool false, .slice none 0 0], .agg #[.bool false, .slice none 0 0], .bool false]) (by simp [results, Try.results24, go_sem, X3.cell0, X3.cell1, X4.cell0, X4.cell1]) rfl
    ⟨rfl, (st2 (st2 HB.out (by omega) _ _) (by omega) _ _).drew⟩
end Go.Proofs.Ytbendmhcimadpaa

/-
  The walk of WholeProducts: for all arguments, the call answers true, and nothing that was there has turned.
-/
import Derived.Test.YtbendmhcimadpaaLw
import Derived.Test.YtbendmhcimadpaaMany
import Derived.Test.YtbendmhcimadpaaQc
import Derived.Test.YtbendmhcimadpaaQd
namespace Go.Proofs.Ytbendmhcimadpaa
open Go.RowKit
set_option linter.unusedVariables false

set_option maxRecDepth 100000 in
set_option maxHeartbeats 8000000 in
theorem wholeProducts_main (s0 : Bool) (a0 : Option Addr) (len0 cap0 : Nat) (s1 : Bool) (a1 : Option Addr) (len1 cap1 : Nat) (a2 : Option Addr) (len2 cap2 : Nat) (w : World) (x y : Int) (h0 : Wr w s0 a0 len0 cap0 x) (h1 : Wr w s1 a1 len1 cap1 y) (h2 : Wq w a2 len2 cap2) (k0 : len0 ≤ 40) (k1 : len1 ≤ 40) (k2 : len2 ≤ 6) :
    Calls Try.prog 4 #[.agg #[.bool s0, .slice a0 len0 cap0], .agg #[.bool s1, .slice a1 len1 cap1], .slice a2 len2 cap2] w (PB w true) := by
  have t2 : decide ((6 : Int) < len2) = false := by simp; omega
  obtain ⟨bb, oo, haddr⟩ : ∃ b o, 0 < len2 → a2 = some ⟨b, o, none⟩ := by
    rcases Nat.eq_zero_or_pos len2 with e | e
    · exact ⟨0, 0, fun h => by omega⟩
    · obtain ⟨b, o, e, _⟩ := h2.2.2 e
      exact ⟨b, o, fun _ => e⟩
  have HA := Lib.hid haddr
  clear haddr
  go_enter Try.func4, Try.ntmps4
  go_wp2_with fail
  obtain ⟨X1, X2, B0⟩ := box2 w s0 s1 a0 a1 len0 cap0 len1 cap1 rfl
  have HB := Lib.hid B0
  replace h0 := h0.below B0
  replace h1 := h1.below B0
  replace h2 := h2.below B0
  clear B0
  refine (awake_any _).mono ?_
  rintro e w1 ⟨rfl, B⟩
  replace X1 := X1.below B
  replace X2 := X2.below B
  replace h0 := h0.below B
  replace h1 := h1.below B
  replace h2 := h2.below B
  replace HB := Lib.hid (bt HB.out B)
  clear B
  have xX10 := X1.cell0
  have xX11 := X1.cell1
  have xX20 := X2.cell0
  have xX21 := X2.cell1
  go_wp2_with fail
  refine (few_yes _ _ _ _ _ k0).mono ?_
  rintro e w2 ⟨rfl, B⟩
  clear xX10 xX11 xX20 xX21
  replace X1 := X1.below B
  replace X2 := X2.below B
  replace h0 := h0.below B
  replace h1 := h1.below B
  replace h2 := h2.below B
  replace HB := Lib.hid (bt HB.out B)
  clear B
  have xX10 := X1.cell0
  have xX11 := X1.cell1
  have xX20 := X2.cell0
  have xX21 := X2.cell1
  go_wp2_with fail
  refine (few_yes _ _ _ _ _ k1).mono ?_
  rintro e w3 ⟨rfl, B⟩
  clear xX10 xX11 xX20 xX21
  replace X1 := X1.below B
  replace X2 := X2.below B
  replace h0 := h0.below B
  replace h1 := h1.below B
  replace h2 := h2.below B
  replace HB := Lib.hid (bt HB.out B)
  clear B
  have xX10 := X1.cell0
  have xX11 := X1.cell1
  have xX20 := X2.cell0
  have xX21 := X2.cell1
  clear xX10 xX11 xX20 xX21
  go_wp2
  go_loop [10] (fun i => ∃ k : Nat, k ≤ len2 ∧ i = .int .i64 k ∧ Upto w3 bb oo k) (fun i => len2 - (intOf i).toNat)
  case atStart => exact ⟨0, Nat.zero_le _, rfl, Upto.zero _ _ _⟩
  case round =>
    obtain ⟨k, hk, rfl, hU⟩ := hrel
    have HU := Lib.hid hU
    clear hU
    by_cases hlt : k < len2
    · obtain ⟨b, o, e, hcell⟩ := h2.2.2 (by omega)
      have e2 := HA.out (by omega)
      rw [e] at e2
      cases e2
      subst e
      obtain ⟨s, B, m, d, c0, c1, hm, _⟩ := hcell k hlt
      clear hcell
      have hcap := h2.1
      by_cases hm10 : m ≤ 10
      · have HN : Hid (Upto w3 bb oo (k + 1)) := Lib.hid (HU.out.succ c1 hm10)
        have t3 : decide ((10 : Int) < m) = false := by simp; omega
        go_wp2
        go_round
        case rel => exact ⟨k + 1, by omega, by go_num, HN.out⟩
        case measure => simp [intOf]; omega
      · have t3 : decide ((10 : Int) < m) = true := by simp; omega
        go_wp2
        go_ret
        exact ⟨rfl, HB.out⟩
    · obtain rfl : k = len2 := by omega
      obtain ⟨zs, hl⟩ := h2.wl HA.out (fun _ => HU.out)
      clear h2 HU HA
      obtain ⟨π, hπ⟩ : ∃ z, prd zs = z := ⟨_, rfl⟩
      have HP := Lib.hid hπ
      clear hπ
      by_cases hy : y = 0
      · subst hy
        have xX10 := X1.cell0
        have xX11 := X1.cell1
        have xX20 := X2.cell0
        have xX21 := X2.cell1
        go_wp2_with fail
        refine (wDiv0 h0 h1).mono ?_
        rintro e w4 ⟨rfl, B⟩
        clear xX10 xX11 xX20 xX21
        have X3a := Bx.new w4 false none 0 0
        have X3 := X3a.below (bel1 _ (.cells #[.bool false, .slice none 0 0] 24))
        clear X3a
        have X4a := Bx.newAt (w4.alloc (.cells #[.bool false, .slice none 0 0] 24)) (g := w4.heap.size + 1) (by simp) false none 0 0
        have X4 := X4a
        clear X4a
        replace B := bt B (bel2 _ (.cells #[.bool false, .slice none 0 0] 24) (.cells #[.bool false, .slice none 0 0] 24))
        replace X1 := X1.below B
        replace X2 := X2.below B
        replace h0 := h0.below B
        replace h1 := h1.below B
        replace hl := hl.below B
        replace HB := Lib.hid (bt HB.out B)
        clear B
        have xX10 := X1.cell0
        have xX11 := X1.cell1
        have xX20 := X2.cell0
        have xX21 := X2.cell1
        have xX30 := X3.cell0
        have xX31 := X3.cell1
        have xX40 := X4.cell0
        have xX41 := X4.cell1
        go_wp2_with fail
        refine (qDiv0 h0 h1).mono ?_
        rintro e w5 ⟨rfl, B⟩
        clear xX10 xX11 xX20 xX21 xX30 xX31 xX40 xX41
        have X5a := Bx.new w5 false none 0 0
        have X5 := X5a.below (bel1 _ (.cells #[.bool false, .slice none 0 0] 24))
        clear X5a
        have X6a := Bx.newAt (w5.alloc (.cells #[.bool false, .slice none 0 0] 24)) (g := w5.heap.size + 1) (by simp) false none 0 0
        have X6 := X6a
        clear X6a
        replace B := bt B (bel2 _ (.cells #[.bool false, .slice none 0 0] 24) (.cells #[.bool false, .slice none 0 0] 24))
        replace X1 := X1.below B
        replace X2 := X2.below B
        replace X3 := X3.below B
        replace X4 := X4.below B
        replace h0 := h0.below B
        replace h1 := h1.below B
        replace hl := hl.below B
        replace HB := Lib.hid (bt HB.out B)
        clear B
        have xX10 := X1.cell0
        have xX11 := X1.cell1
        have xX20 := X2.cell0
        have xX21 := X2.cell1
        have xX30 := X3.cell0
        have xX31 := X3.cell1
        have xX40 := X4.cell0
        have xX41 := X4.cell1
        have xX50 := X5.cell0
        have xX51 := X5.cell1
        have xX60 := X6.cell0
        have xX61 := X6.cell1
        go_wp2_with fail
        refine (qAlike Wn.zero Wn.zero).mono ?_
        rintro e w6 ⟨rfl, B⟩
        clear xX10 xX11 xX20 xX21 xX30 xX31 xX40 xX41 xX50 xX51 xX60 xX61
        replace X1 := X1.below B
        replace X2 := X2.below B
        replace X3 := X3.below B
        replace X4 := X4.below B
        replace X5 := X5.below B
        replace X6 := X6.below B
        replace h0 := h0.below B
        replace h1 := h1.below B
        replace hl := hl.below B
        replace HB := Lib.hid (bt HB.out B)
        clear B
        have xX10 := X1.cell0
        have xX11 := X1.cell1
        have xX20 := X2.cell0
        have xX21 := X2.cell1
        have xX30 := X3.cell0
        have xX31 := X3.cell1
        have xX40 := X4.cell0
        have xX41 := X4.cell1
        have xX50 := X5.cell0
        have xX51 := X5.cell1
        have xX60 := X6.cell0
        have xX61 := X6.cell1
        go_wp2_with fail
        refine (qAlike Wn.zero Wn.zero).mono ?_
        rintro e w7 ⟨rfl, B⟩
        clear xX10 xX11 xX20 xX21 xX30 xX31 xX40 xX41 xX50 xX51 xX60 xX61
        replace X1 := X1.below B
        replace X2 := X2.below B
        replace X3 := X3.below B
        replace X4 := X4.below B
        replace X5 := X5.below B
        replace X6 := X6.below B
        replace h0 := h0.below B
        replace h1 := h1.below B
        replace hl := hl.below B
        replace HB := Lib.hid (bt HB.out B)
        clear B
        have xX10 := X1.cell0
        have xX11 := X1.cell1
        have xX20 := X2.cell0
        have xX21 := X2.cell1
        have xX30 := X3.cell0
        have xX31 := X3.cell1
        have xX40 := X4.cell0
        have xX41 := X4.cell1
        have xX50 := X5.cell0
        have xX51 := X5.cell1
        have xX60 := X6.cell0
        have xX61 := X6.cell1
        clear xX10 xX11 xX20 xX21 xX30 xX31 xX40 xX41 xX50 xX51 xX60 xX61
        go_wp2_with fail
        refine (wMul hl (by omega) HP.out).mono ?_
        rintro e w8 ⟨s8, A8, n8, c8, rfl, p8, j8, B⟩
        replace h0 := h0.below B
        replace h1 := h1.below B
        replace hl := hl.below B
        replace HB := Lib.hid (bt HB.out B)
        clear B
        go_wp2_with fail
        refine (qMul hl (by omega) (by omega) HP.out).mono ?_
        rintro e w9 ⟨s9, A9, n9, c9, rfl, p9, j9, B⟩
        replace h0 := h0.below B
        replace h1 := h1.below B
        replace hl := hl.below B
        replace p8 := p8.below B
        replace HB := Lib.hid (bt HB.out B)
        clear B
        go_wp2_with fail
        refine (qAlike p8 p9).mono ?_
        rintro e w10 ⟨rfl, B⟩
        replace h0 := h0.below B
        replace h1 := h1.below B
        replace hl := hl.below B
        replace p8 := p8.below B
        replace p9 := p9.below B
        replace HB := Lib.hid (bt HB.out B)
        clear B
        go_wp2
        go_ret
        exact ⟨rfl, HB.out⟩
      · have xX10 := X1.cell0
        have xX11 := X1.cell1
        have xX20 := X2.cell0
        have xX21 := X2.cell1
        go_wp2_with fail
        refine (wDiv h0 h1 (by omega) (by omega) hy rfl rfl).mono ?_
        rintro e w4 ⟨s3, A3, n3, c3, s4, A4, n4, c4, rfl, p3, p4, j3, j4, B⟩
        clear xX10 xX11 xX20 xX21
        have X3a := Bx.new w4 s3 A3 n3 c3
        have X3 := X3a.below (bel1 _ (.cells #[.bool s4, .slice A4 n4 c4] 24))
        clear X3a
        have X4a := Bx.newAt (w4.alloc (.cells #[.bool s3, .slice A3 n3 c3] 24)) (g := w4.heap.size + 1) (by simp) s4 A4 n4 c4
        have X4 := X4a
        clear X4a
        replace p3 := p3.below (bel2 _ (.cells #[.bool s3, .slice A3 n3 c3] 24) (.cells #[.bool s4, .slice A4 n4 c4] 24))
        replace p4 := p4.below (bel2 _ (.cells #[.bool s3, .slice A3 n3 c3] 24) (.cells #[.bool s4, .slice A4 n4 c4] 24))
        replace B := bt B (bel2 _ (.cells #[.bool s3, .slice A3 n3 c3] 24) (.cells #[.bool s4, .slice A4 n4 c4] 24))
        replace X1 := X1.below B
        replace X2 := X2.below B
        replace h0 := h0.below B
        replace h1 := h1.below B
        replace hl := hl.below B
        replace HB := Lib.hid (bt HB.out B)
        clear B
        have xX10 := X1.cell0
        have xX11 := X1.cell1
        have xX20 := X2.cell0
        have xX21 := X2.cell1
        have xX30 := X3.cell0
        have xX31 := X3.cell1
        have xX40 := X4.cell0
        have xX41 := X4.cell1
        go_wp2_with fail
        refine (qDiv h0 h1 (by omega) (by omega) hy rfl rfl).mono ?_
        rintro e w5 ⟨s5, A5, n5, c5, s6, A6, n6, c6, rfl, p5, p6, j5, j6, B⟩
        clear xX10 xX11 xX20 xX21 xX30 xX31 xX40 xX41
        have X5a := Bx.new w5 s5 A5 n5 c5
        have X5 := X5a.below (bel1 _ (.cells #[.bool s6, .slice A6 n6 c6] 24))
        clear X5a
        have X6a := Bx.newAt (w5.alloc (.cells #[.bool s5, .slice A5 n5 c5] 24)) (g := w5.heap.size + 1) (by simp) s6 A6 n6 c6
        have X6 := X6a
        clear X6a
        replace p5 := p5.below (bel2 _ (.cells #[.bool s5, .slice A5 n5 c5] 24) (.cells #[.bool s6, .slice A6 n6 c6] 24))
        replace p6 := p6.below (bel2 _ (.cells #[.bool s5, .slice A5 n5 c5] 24) (.cells #[.bool s6, .slice A6 n6 c6] 24))
        replace B := bt B (bel2 _ (.cells #[.bool s5, .slice A5 n5 c5] 24) (.cells #[.bool s6, .slice A6 n6 c6] 24))
        replace X1 := X1.below B
        replace X2 := X2.below B
        replace X3 := X3.below B
        replace X4 := X4.below B
        replace h0 := h0.below B
        replace h1 := h1.below B
        replace hl := hl.below B
        replace p3 := p3.below B
        replace p4 := p4.below B
        replace HB := Lib.hid (bt HB.out B)
        clear B
        have xX10 := X1.cell0
        have xX11 := X1.cell1
        have xX20 := X2.cell0
        have xX21 := X2.cell1
        have xX30 := X3.cell0
        have xX31 := X3.cell1
        have xX40 := X4.cell0
        have xX41 := X4.cell1
        have xX50 := X5.cell0
        have xX51 := X5.cell1
        have xX60 := X6.cell0
        have xX61 := X6.cell1
        go_wp2_with fail
        refine (qAlike p3 p5).mono ?_
        rintro e w6 ⟨rfl, B⟩
        clear xX10 xX11 xX20 xX21 xX30 xX31 xX40 xX41 xX50 xX51 xX60 xX61
        replace X1 := X1.below B
        replace X2 := X2.below B
        replace X3 := X3.below B
        replace X4 := X4.below B
        replace X5 := X5.below B
        replace X6 := X6.below B
        replace h0 := h0.below B
        replace h1 := h1.below B
        replace hl := hl.below B
        replace p4 := p4.below B
        replace p6 := p6.below B
        replace HB := Lib.hid (bt HB.out B)
        clear B p3 p5
        have xX10 := X1.cell0
        have xX11 := X1.cell1
        have xX20 := X2.cell0
        have xX21 := X2.cell1
        have xX30 := X3.cell0
        have xX31 := X3.cell1
        have xX40 := X4.cell0
        have xX41 := X4.cell1
        have xX50 := X5.cell0
        have xX51 := X5.cell1
        have xX60 := X6.cell0
        have xX61 := X6.cell1
        go_wp2_with fail
        refine (qAlike p4 p6).mono ?_
        rintro e w7 ⟨rfl, B⟩
        clear xX10 xX11 xX20 xX21 xX30 xX31 xX40 xX41 xX50 xX51 xX60 xX61
        replace X1 := X1.below B
        replace X2 := X2.below B
        replace X3 := X3.below B
        replace X4 := X4.below B
        replace X5 := X5.below B
        replace X6 := X6.below B
        replace h0 := h0.below B
        replace h1 := h1.below B
        replace hl := hl.below B
        replace HB := Lib.hid (bt HB.out B)
        clear B p4 p6
        have xX10 := X1.cell0
        have xX11 := X1.cell1
        have xX20 := X2.cell0
        have xX21 := X2.cell1
        have xX30 := X3.cell0
        have xX31 := X3.cell1
        have xX40 := X4.cell0
        have xX41 := X4.cell1
        have xX50 := X5.cell0
        have xX51 := X5.cell1
        have xX60 := X6.cell0
        have xX61 := X6.cell1
        clear xX10 xX11 xX20 xX21 xX30 xX31 xX40 xX41 xX50 xX51 xX60 xX61
        go_wp2_with fail
        refine (wMul hl (by omega) HP.out).mono ?_
        rintro e w8 ⟨s8, A8, n8, c8, rfl, p8, j8, B⟩
        replace h0 := h0.below B
        replace h1 := h1.below B
        replace hl := hl.below B
        replace HB := Lib.hid (bt HB.out B)
        clear B
        go_wp2_with fail
        refine (qMul hl (by omega) (by omega) HP.out).mono ?_
        rintro e w9 ⟨s9, A9, n9, c9, rfl, p9, j9, B⟩
        replace h0 := h0.below B
        replace h1 := h1.below B
        replace hl := hl.below B
        replace p8 := p8.below B
        replace HB := Lib.hid (bt HB.out B)
        clear B
        go_wp2_with fail
        refine (qAlike p8 p9).mono ?_
        rintro e w10 ⟨rfl, B⟩
        replace h0 := h0.below B
        replace h1 := h1.below B
        replace hl := hl.below B
        replace p8 := p8.below B
        replace p9 := p9.below B
        replace HB := Lib.hid (bt HB.out B)
        clear B
        go_wp2
        go_ret
        exact ⟨rfl, HB.out⟩

set_option maxHeartbeats 2000000 in
theorem wholeProducts_long (s0 : Bool) (a0 : Option Addr) (len0 cap0 : Nat) (s1 : Bool) (a1 : Option Addr) (len1 cap1 : Nat) (a2 : Option Addr) (len2 cap2 : Nat) (w : World) (k0 : len0 ≤ 40) (k1 : len1 ≤ 40) (k2 : ¬ len2 ≤ 6) (k3 : len2 ≤ 9223372036854775807) :
    Calls Try.prog 4 #[.agg #[.bool s0, .slice a0 len0 cap0], .agg #[.bool s1, .slice a1 len1 cap1], .slice a2 len2 cap2] w (PB w true) := by
  have t2 : decide ((6 : Int) < len2) = true := by simp; omega
  go_enter Try.func4, Try.ntmps4
  go_wp2_with fail
  obtain ⟨X1, X2, B0⟩ := box2 w s0 s1 a0 a1 len0 cap0 len1 cap1 rfl
  have HB := Lib.hid B0
  clear B0
  refine (awake_any _).mono ?_
  rintro e w1 ⟨rfl, B⟩
  replace X1 := X1.below B
  replace X2 := X2.below B
  replace HB := Lib.hid (bt HB.out B)
  clear B
  have xX10 := X1.cell0
  have xX11 := X1.cell1
  have xX20 := X2.cell0
  have xX21 := X2.cell1
  go_wp2_with fail
  refine (few_yes _ _ _ _ _ k0).mono ?_
  rintro e w2 ⟨rfl, B⟩
  clear xX10 xX11 xX20 xX21
  replace X1 := X1.below B
  replace X2 := X2.below B
  replace HB := Lib.hid (bt HB.out B)
  clear B
  have xX10 := X1.cell0
  have xX11 := X1.cell1
  have xX20 := X2.cell0
  have xX21 := X2.cell1
  go_wp2_with fail
  refine (few_yes _ _ _ _ _ k1).mono ?_
  rintro e w3 ⟨rfl, B⟩
  clear xX10 xX11 xX20 xX21
  replace X1 := X1.below B
  replace X2 := X2.below B
  replace HB := Lib.hid (bt HB.out B)
  clear B
  have xX10 := X1.cell0
  have xX11 := X1.cell1
  have xX20 := X2.cell0
  have xX21 := X2.cell1
  go_wp2
  go_ret
  exact ⟨rfl, HB.out⟩

set_option maxHeartbeats 2000000 in
theorem wholeProducts_far (s0 : Bool) (a0 : Option Addr) (len0 cap0 : Nat) (s1 : Bool) (a1 : Option Addr) (len1 cap1 : Nat) (a2 : Option Addr) (len2 cap2 : Nat) (w : World) (hf : ¬ (len0 ≤ 40 ∧ len1 ≤ 40)) :
    Calls Try.prog 4 #[.agg #[.bool s0, .slice a0 len0 cap0], .agg #[.bool s1, .slice a1 len1 cap1], .slice a2 len2 cap2] w (PB w true) := by
  by_cases k0 : len0 ≤ 40
  · have k1 : ¬ len1 ≤ 40 := fun h => hf ⟨k0, h⟩
    clear hf
    go_enter Try.func4, Try.ntmps4
    go_wp2_with fail
    obtain ⟨X1, X2, B0⟩ := box2 w s0 s1 a0 a1 len0 cap0 len1 cap1 rfl
    have HB := Lib.hid B0
    clear B0
    refine (awake_any _).mono ?_
    rintro e w1 ⟨rfl, B⟩
    replace X1 := X1.below B
    replace X2 := X2.below B
    replace HB := Lib.hid (bt HB.out B)
    clear B
    have xX10 := X1.cell0
    have xX11 := X1.cell1
    have xX20 := X2.cell0
    have xX21 := X2.cell1
    go_wp2_with fail
    refine (few_yes _ _ _ _ _ k0).mono ?_
    rintro e w2 ⟨rfl, B⟩
    clear xX10 xX11 xX20 xX21
    replace X1 := X1.below B
    replace X2 := X2.below B
    replace HB := Lib.hid (bt HB.out B)
    clear B
    have xX10 := X1.cell0
    have xX11 := X1.cell1
    have xX20 := X2.cell0
    have xX21 := X2.cell1
    go_wp2_with fail
    refine (few_no _ _ _ _ _ k1).mono ?_
    rintro e w3 ⟨rfl, B⟩
    clear xX10 xX11 xX20 xX21
    replace X1 := X1.below B
    replace X2 := X2.below B
    replace HB := Lib.hid (bt HB.out B)
    clear B
    have xX10 := X1.cell0
    have xX11 := X1.cell1
    have xX20 := X2.cell0
    have xX21 := X2.cell1
    go_wp2
    go_ret
    exact ⟨rfl, HB.out⟩
  · clear hf
    go_enter Try.func4, Try.ntmps4
    go_wp2_with fail
    obtain ⟨X1, X2, B0⟩ := box2 w s0 s1 a0 a1 len0 cap0 len1 cap1 rfl
    have HB := Lib.hid B0
    clear B0
    refine (awake_any _).mono ?_
    rintro e w1 ⟨rfl, B⟩
    replace X1 := X1.below B
    replace X2 := X2.below B
    replace HB := Lib.hid (bt HB.out B)
    clear B
    have xX10 := X1.cell0
    have xX11 := X1.cell1
    have xX20 := X2.cell0
    have xX21 := X2.cell1
    go_wp2_with fail
    refine (few_no _ _ _ _ _ k0).mono ?_
    rintro e w2 ⟨rfl, B⟩
    clear xX10 xX11 xX20 xX21
    replace X1 := X1.below B
    replace X2 := X2.below B
    replace HB := Lib.hid (bt HB.out B)
    clear B
    have xX10 := X1.cell0
    have xX11 := X1.cell1
    have xX20 := X2.cell0
    have xX21 := X2.cell1
    by_cases k1 : len1 ≤ 40
    · go_wp2_with fail
      refine (few_yes _ _ _ _ _ k1).mono ?_
      rintro e w3 ⟨rfl, B⟩
      clear xX10 xX11 xX20 xX21
      replace X1 := X1.below B
      replace X2 := X2.below B
      replace HB := Lib.hid (bt HB.out B)
      clear B
      have xX10 := X1.cell0
      have xX11 := X1.cell1
      have xX20 := X2.cell0
      have xX21 := X2.cell1
      go_wp2
      go_ret
      exact ⟨rfl, HB.out⟩
    · go_wp2_with fail
      refine (few_no _ _ _ _ _ k1).mono ?_
      rintro e w3 ⟨rfl, B⟩
      clear xX10 xX11 xX20 xX21
      replace X1 := X1.below B
      replace X2 := X2.below B
      replace HB := Lib.hid (bt HB.out B)
      clear B
      have xX10 := X1.cell0
      have xX11 := X1.cell1
      have xX20 := X2.cell0
      have xX21 := X2.cell1
      go_wp2
      go_ret
      exact ⟨rfl, HB.out⟩

theorem wholeProducts_walk (s0 : Bool) (a0 : Option Addr) (len0 cap0 : Nat) (z0 : List Int) (s1 : Bool) (a1 : Option Addr) (len1 cap1 : Nat) (z1 : List Int) (a2 : Option Addr) (len2 cap2 : Nat) (w : World) (w0 : RowIn w a0 len0 cap0 z0) (w1 : RowIn w a1 len1 cap1 z1) (w2 : RowsW w a2 len2 cap2) :
    Calls Try.prog 4 #[.agg #[.bool s0, .slice a0 len0 cap0], .agg #[.bool s1, .slice a1 len1 cap1], .slice a2 len2 cap2] w fun e w' => e = .returned (.bool true) ∧ Below w.heap.size w w' := by
  by_cases hf : len0 ≤ 40 ∧ len1 ≤ 40
  · by_cases hl : len2 ≤ 6
    · obtain ⟨u, r0⟩ := w0.rd (by omega)
      obtain ⟨v, r1⟩ := w1.rd (by omega)
      exact wholeProducts_main s0 a0 len0 cap0 s1 a1 len1 cap1 a2 len2 cap2 w _ _ (r0.wr s0) (r1.wr s1) (w2.wq (by omega)) hf.1 hf.2 hl
    · exact wholeProducts_long s0 a0 len0 cap0 s1 a1 len1 cap1 a2 len2 cap2 w hf.1 hf.2 hl w2.len
  · exact wholeProducts_far s0 a0 len0 cap0 s1 a1 len1 cap1 a2 len2 cap2 w hf
end Go.Proofs.Ytbendmhcimadpaa

/-
  Contracts and words that the statement's proof rests on, several texts in one: Hg.
-/
import Derived.Test.YtbhnpmkdmnnclaaDoorYCav
/-
  What the sum and the product of two finite numbers within 128 bits are.
-/
namespace Go.Proofs.YtbhnpmkdmnnclaaDoor
open Go.RowKit
set_option linter.unusedVariables false
set_option linter.unusedSimpArgs false
set_option maxRecDepth 100000

theorem wd_of {s : Bool} {H L e V : Int} {f : Bool → Int} (hH : 0 ≤ H) (hH2 : H < 18446744073709551616) (hL : 0 ≤ L) (hL2 : L < 18446744073709551616) (hV : H * 18446744073709551616 + L = V) (e1 : -2900000 ≤ e) (e2 : e ≤ 2900000) (h : ∀ up, rnd up (mk (sgi s V) (e - 64)).1 (mk (sgi s V) (e - 64)).2 = f up) : Wd s H L e f := by
  obtain ⟨a, rfl⟩ := Int.eq_ofNat_of_zero_le hH
  obtain ⟨b, rfl⟩ := Int.eq_ofNat_of_zero_le hL
  refine ⟨a, b, by omega, by omega, rfl, rfl, e1, e2, fun up => ?_⟩
  have e : ((a * 18446744073709551616 + b : Nat) : Int) = V := by omega
  rw [e]
  exact h up
/-- The lowest words' sum, the highest ones'. -/
theorem add_words {H1 L1 H2 L2 V1 V2 : Int} (h1 : 0 ≤ H1 ∧ H1 < 18446744073709551616 ∧ 0 ≤ L1 ∧ L1 < 18446744073709551616 ∧ H1 * 18446744073709551616 + L1 = V1) (h2 : 0 ≤ H2 ∧ H2 < 18446744073709551616 ∧ 0 ≤ L2 ∧ L2 < 18446744073709551616 ∧ H2 * 18446744073709551616 + L2 = V2) (h : V1 + V2 < 340282366920938463463374607431768211456) :
    ∃ S c T d, (L1 + L2 + 0) % 18446744073709551616 = S ∧ (L1 + L2 + 0) / 18446744073709551616 = c ∧ (H1 + H2 + c) % 18446744073709551616 = T ∧ (H1 + H2 + c) / 18446744073709551616 = d ∧ 0 ≤ c ∧ c ≤ 1 ∧ 0 ≤ S ∧ S < 18446744073709551616 ∧ 0 ≤ T ∧ T < 18446744073709551616 ∧ T * 18446744073709551616 + S = V1 + V2 := by
  refine ⟨_, _, _, _, rfl, rfl, rfl, rfl, ?_⟩
  omega
theorem sub_words {H1 L1 H2 L2 V1 V2 : Int} (h1 : 0 ≤ H1 ∧ H1 < 18446744073709551616 ∧ 0 ≤ L1 ∧ L1 < 18446744073709551616 ∧ H1 * 18446744073709551616 + L1 = V1) (h2 : 0 ≤ H2 ∧ H2 < 18446744073709551616 ∧ 0 ≤ L2 ∧ L2 < 18446744073709551616 ∧ H2 * 18446744073709551616 + L2 = V2) (h : 0 ≤ V1 - V2) :
    ∃ S c T d, (L1 - L2 - 0) % 18446744073709551616 = S ∧ (if L1 < L2 + 0 then (1 : Int) else 0) = c ∧ (H1 - H2 - c) % 18446744073709551616 = T ∧ (if H1 < H2 + c then (1 : Int) else 0) = d ∧ 0 ≤ c ∧ c ≤ 1 ∧ 0 ≤ S ∧ S < 18446744073709551616 ∧ 0 ≤ T ∧ T < 18446744073709551616 ∧ T * 18446744073709551616 + S = V1 - V2 := by
  by_cases q : L1 < L2 + 0
  · exact ⟨_, 1, _, _, rfl, if_pos q, rfl, rfl, by omega, by omega, by omega, by omega, by omega, by omega, by omega⟩
  · exact ⟨_, 0, _, _, rfl, if_neg q, rfl, rfl, by omega, by omega, by omega, by omega, by omega, by omega, by omega⟩
set_option maxHeartbeats 8000000 in
theorem sum_lt {w : World} {s1 s2 : Bool} {M1 M2 E1 E2 x y : Int} (hT : Tb w) (q1 : Fq 1 s1 M1 E1 x) (q2 : Fq 1 s2 M2 E2 y) (h : E1 < E2) : Calls Tryd.prog 37 #[.agg #[.int .i64 1, .bool s1, .int .u64 M1, .int .i64 E1], .agg #[.int .i64 1, .bool s2, .int .u64 M2, .int .i64 E2]] w (PW6 w fun up => addp up x y) := by
  obtain ⟨a1, a2, a3, a4, _⟩ := fq_vr q1
  obtain ⟨b1, b2, b3, b4, _⟩ := fq_vr q2
  have HO := Lib.hid (h)
  obtain ⟨n, hn⟩ : ∃ n : Nat, (n : Int) = E2 - E1 + 1 := ⟨(E2 - E1 + 1).toNat, by omega⟩
  have hsw : ∀ (S : Int) up, S = M2 * 9223372036854775808 + sgi (s2 != s1) (mvd M1 n) → 0 ≤ S ∧ S < 340282366920938463463374607431768211456 ∧ rnd up (mk (sgi s2 S) (E2 + 1 - 64)).1 (mk (sgi s2 S) (E2 + 1 - 64)).2 = addp up x y := fun S up hS => by
    obtain ⟨u1, u2, u3⟩ := sum_wide up q2 q1 (by omega) hn hS
    refine ⟨u1, u2, ?_⟩
    rw [show E2 + 1 - 64 = E2 - 63 by omega, u3]
    exact addp_comm up
  have HSW := Lib.hid hsw
  obtain ⟨N, hN⟩ : ∃ N, (n : Int) = N := ⟨_, rfl⟩
  obtain ⟨D, hD⟩ : ∃ D, E2 - E1 = D := ⟨_, rfl⟩
  have n1 : 1 ≤ n := by omega
  have n3 : n ≤ 4000000 := by omega
  have HN := Lib.hid hN
  have HD := Lib.hid (show IntKind.i64.wrap (E2 - E1) = D by rw [hD]; exact IntWalk.i64_in _ (by omega))
  have HD2 := Lib.hid (show IntKind.i64.wrap (D + 1) = N by rw [show D + 1 = N by omega]; exact IntWalk.i64_in _ (by omega))
  obtain ⟨Y, hY⟩ : ∃ Y, E1 + N = Y := ⟨_, rfl⟩
  have HY := Lib.hid hY
  obtain ⟨Z, hZ⟩ : ∃ Z, E2 + 1 = Z := ⟨_, rfl⟩
  have HZ := Lib.hid hZ
  have z1 : -2900000 ≤ Z := by omega
  have z2 : Z ≤ 2900000 := by omega
  have v1 : mvd M2 1 = M2 * 9223372036854775808 := by
    unfold mvd
    rw [if_pos (by decide)]
    rfl
  have HV1 := Lib.hid v1
  have g1 : 9223372036854775808 ≤ M2 := by omega
  have g2 : M2 < 18446744073709551616 := by omega
  have g3 : -2000000 ≤ E2 := by omega
  have g4 : E2 ≤ 2000000 := by omega
  have k1 : 9223372036854775808 ≤ M1 := by omega
  have k2 : M1 < 18446744073709551616 := by omega
  have k3 : -2000000 ≤ E1 := by omega
  have k4 : E1 ≤ 2000000 := by omega
  clear hn hN hD hY hZ v1 hsw h q1 q2 a1 a2 a3 a4 b1 b2 b3 b4
  go_enter Tryd.func37, Tryd.ntmps37
  go_upto_region 1 with (fail)
  have X2 := (Bo.newAt w (g := w.heap.size) (by simp) #[.int .i64 1, .bool s1, .int .u64 M1, .int .i64 E1] 24).below (bel2 _ (.cells #[.int .i64 1, .bool s2, .int .u64 M2, .int .i64 E2] 24) (.cells #[.bool false, .int .u64 0, .int .u64 0, .int .i64 0] 53))
  have X3 := (Bo.newAt (w.alloc (.cells #[.int .i64 1, .bool s1, .int .u64 M1, .int .i64 E1] 24)) (g := w.heap.size + 1) (by simp) #[.int .i64 1, .bool s2, .int .u64 M2, .int .i64 E2] 24).below (bel1 _ (.cells #[.bool false, .int .u64 0, .int .u64 0, .int .i64 0] 53))
  have XR := (Bo.newAt ((w.alloc (.cells #[.int .i64 1, .bool s1, .int .u64 M1, .int .i64 E1] 24)).alloc (.cells #[.int .i64 1, .bool s2, .int .u64 M2, .int .i64 E2] 24)) (g := w.heap.size + 1 + 1) (by simp) #[.bool false, .int .u64 0, .int .u64 0, .int .i64 0] 53)
  have HB := Lib.hid (bel3 w (.cells #[.int .i64 1, .bool s1, .int .u64 M1, .int .i64 E1] 24) (.cells #[.int .i64 1, .bool s2, .int .u64 M2, .int .i64 E2] 24) (.cells #[.bool false, .int .u64 0, .int .u64 0, .int .i64 0] 53))
  replace hT := hT.below HB.out
  generalize hW1 : (((w.alloc (.cells #[.int .i64 1, .bool s1, .int .u64 M1, .int .i64 E1] 24)).alloc (.cells #[.int .i64 1, .bool s2, .int .u64 M2, .int .i64 E2] 24)).alloc (.cells #[.bool false, .int .u64 0, .int .u64 0, .int .i64 0] 53)) = w1 at *
  clear hW1
  have xX20 := X2.at (i := 0) (v := .int .i64 1) rfl
  have xX21 := X2.at (i := 1) (v := .bool s1) rfl
  have xX22 := X2.at (i := 2) (v := .int .u64 M1) rfl
  have xX23 := X2.at (i := 3) (v := .int .i64 E1) rfl
  have xX30 := X3.at (i := 0) (v := .int .i64 1) rfl
  have xX31 := X3.at (i := 1) (v := .bool s2) rfl
  have xX32 := X3.at (i := 2) (v := .int .u64 M2) rfl
  have xX33 := X3.at (i := 3) (v := .int .i64 E2) rfl
  go_wp2_with fail
  refine (order_lt HO.out).mono ?_
  rintro ee w2 ⟨rfl, B⟩
  clear xX20 xX21 xX22 xX23 xX30 xX31 xX32 xX33
  replace X2 := X2.below B
  replace X3 := X3.below B
  replace XR := XR.below B
  replace hT := hT.below B
  replace HB := Lib.hid (bt HB.out B)
  clear B
  go_upto_region 2 with (fail)
  clear X2 X3
  have hsz : (World.alloc w2 (.cells #[.int .i64 1, .bool s2, .int .u64 M2, .int .i64 E2] 24)).heap.size = w2.heap.size + 1 := by simp
  have lX5 := Nat.le_refl (World.heap w2).size
  have nX5XR := XR.lt
  replace XR := XR.below (bel1 _ (.cells #[.int .i64 1, .bool s2, .int .u64 M2, .int .i64 E2] 24))
  replace hT := hT.below (bel1 _ (.cells #[.int .i64 1, .bool s2, .int .u64 M2, .int .i64 E2] 24))
  replace HB := Lib.hid (bt HB.out (bel1 _ (.cells #[.int .i64 1, .bool s2, .int .u64 M2, .int .i64 E2] 24)))
  have X5 := Bo.new w2 #[.int .i64 1, .bool s2, .int .u64 M2, .int .i64 E2] 24
  generalize hWn : World.alloc w2 (.cells #[.int .i64 1, .bool s2, .int .u64 M2, .int .i64 E2] 24) = w3 at *
  clear hWn
  have lX6 := Nat.le_refl (World.heap w3).size
  have nX6XR := XR.lt
  have nX6X5 := X5.lt
  replace XR := XR.below (bel1 _ (.cells #[.int .i64 1, .bool s1, .int .u64 M1, .int .i64 E1] 24))
  replace X5 := X5.below (bel1 _ (.cells #[.int .i64 1, .bool s1, .int .u64 M1, .int .i64 E1] 24))
  replace hT := hT.below (bel1 _ (.cells #[.int .i64 1, .bool s1, .int .u64 M1, .int .i64 E1] 24))
  replace HB := Lib.hid (bt HB.out (bel1 _ (.cells #[.int .i64 1, .bool s1, .int .u64 M1, .int .i64 E1] 24)))
  have X6 := Bo.new w3 #[.int .i64 1, .bool s1, .int .u64 M1, .int .i64 E1] 24
  generalize hWn : World.alloc w3 (.cells #[.int .i64 1, .bool s1, .int .u64 M1, .int .i64 E1] 24) = w4 at *
  clear hWn
  rw [hsz] at X6 nX6X5 nX6XR
  clear lX5 lX6 hsz
  have xX50 := X5.at (i := 0) (v := .int .i64 1) rfl
  have xX51 := X5.at (i := 1) (v := .bool s2) rfl
  have xX52 := X5.at (i := 2) (v := .int .u64 M2) rfl
  have xX53 := X5.at (i := 3) (v := .int .i64 E2) rfl
  go_wp2_with fail
  refine (aMoved (n := 1) (s := s2) hT g1 g2 (by rfl) HZ.out g3 g4 (by decide) (by decide)).mono ?_
  rintro ee w5 ⟨H1, L1, rfl, p1, B⟩
  clear xX50 xX51 xX52 xX53
  replace XR := XR.below B
  replace X5 := X5.below B
  replace X6 := X6.below B
  replace hT := hT.below B
  replace HB := Lib.hid (bt HB.out B)
  clear B
  rw [HV1.out] at p1
  go_upto_region 3 with (fail)
  have lX7 := Nat.le_refl (World.heap w5).size
  have nX7XR := XR.lt
  have nX7X5 := X5.lt
  have nX7X6 := X6.lt
  replace XR := XR.below (bel1 _ (.cells #[.bool s2, .int .u64 H1, .int .u64 L1, .int .i64 Z] 53))
  replace X5 := X5.below (bel1 _ (.cells #[.bool s2, .int .u64 H1, .int .u64 L1, .int .i64 Z] 53))
  replace X6 := X6.below (bel1 _ (.cells #[.bool s2, .int .u64 H1, .int .u64 L1, .int .i64 Z] 53))
  replace hT := hT.below (bel1 _ (.cells #[.bool s2, .int .u64 H1, .int .u64 L1, .int .i64 Z] 53))
  replace HB := Lib.hid (bt HB.out (bel1 _ (.cells #[.bool s2, .int .u64 H1, .int .u64 L1, .int .i64 Z] 53)))
  have X7 := Bo.new w5 #[.bool s2, .int .u64 H1, .int .u64 L1, .int .i64 Z] 53
  generalize hWn : World.alloc w5 (.cells #[.bool s2, .int .u64 H1, .int .u64 L1, .int .i64 Z] 53) = w6 at *
  clear hWn
  clear lX7
  have xX50 := X5.at (i := 0) (v := .int .i64 1) rfl
  have xX51 := X5.at (i := 1) (v := .bool s2) rfl
  have xX52 := X5.at (i := 2) (v := .int .u64 M2) rfl
  have xX53 := X5.at (i := 3) (v := .int .i64 E2) rfl
  have xX60 := X6.at (i := 0) (v := .int .i64 1) rfl
  have xX61 := X6.at (i := 1) (v := .bool s1) rfl
  have xX62 := X6.at (i := 2) (v := .int .u64 M1) rfl
  have xX63 := X6.at (i := 3) (v := .int .i64 E1) rfl
  have hd := HD.out
  have hd2 := HD2.out
  go_wp2_with fail
  refine (aMoved (s := s1) hT k1 k2 HN.out HY.out k3 k4 n1 n3).mono ?_
  rintro ee w7 ⟨H2, L2, rfl, p2, B⟩
  clear xX50 xX51 xX52 xX53 xX60 xX61 xX62 xX63
  replace XR := XR.below B
  replace X5 := X5.below B
  replace X6 := X6.below B
  replace X7 := X7.below B
  replace hT := hT.below B
  replace HB := Lib.hid (bt HB.out B)
  clear B
  clear hd hd2
  go_upto_region 5 with (fail)
  have lX8 := Nat.le_refl (World.heap w7).size
  have nX8XR := XR.lt
  have nX8X5 := X5.lt
  have nX8X6 := X6.lt
  have nX8X7 := X7.lt
  replace XR := XR.below (bel1 _ (.cells #[.bool s1, .int .u64 H2, .int .u64 L2, .int .i64 Y] 53))
  replace X5 := X5.below (bel1 _ (.cells #[.bool s1, .int .u64 H2, .int .u64 L2, .int .i64 Y] 53))
  replace X6 := X6.below (bel1 _ (.cells #[.bool s1, .int .u64 H2, .int .u64 L2, .int .i64 Y] 53))
  replace X7 := X7.below (bel1 _ (.cells #[.bool s1, .int .u64 H2, .int .u64 L2, .int .i64 Y] 53))
  replace hT := hT.below (bel1 _ (.cells #[.bool s1, .int .u64 H2, .int .u64 L2, .int .i64 Y] 53))
  replace HB := Lib.hid (bt HB.out (bel1 _ (.cells #[.bool s1, .int .u64 H2, .int .u64 L2, .int .i64 Y] 53)))
  have X8 := Bo.new w7 #[.bool s1, .int .u64 H2, .int .u64 L2, .int .i64 Y] 53
  generalize hWn : World.alloc w7 (.cells #[.bool s1, .int .u64 H2, .int .u64 L2, .int .i64 Y] 53) = w8 at *
  clear hWn
  clear lX8
  by_cases hs : s2 = s1
  · subst hs
    have hxor : (s2 != s2) = false := by cases s2 <;> rfl
    have hswv := HSW.out (M2 * 9223372036854775808 + mvd M1 n)
    rw [hxor, wsg_f] at hswv
    have hb := (hswv true rfl).2.1
    obtain ⟨S, c, T, d, f1, f2, f3, f4, c0, c1, o1, o2, o3, o4, o5⟩ := add_words p1 p2 hb
    have ha1 := fun W : World => aAdd64 W p1.2.2.1 p2.2.2.1 (by decide) (by decide) f1 f2
    have ha2 := fun W : World => aAdd64 W p1.1 p2.1 c0 c1 f3 f4
    have OO := Lib.hid (And.intro o5 hswv)
    clear f1 f2 f3 f4 p1 p2 hb hswv o5
    have xX50 := X5.at (i := 0) (v := .int .i64 1) rfl
    have xX51 := X5.at (i := 1) (v := .bool s2) rfl
    have xX52 := X5.at (i := 2) (v := .int .u64 M2) rfl
    have xX53 := X5.at (i := 3) (v := .int .i64 E2) rfl
    have xX60 := X6.at (i := 0) (v := .int .i64 1) rfl
    have xX61 := X6.at (i := 1) (v := .bool s2) rfl
    have xX62 := X6.at (i := 2) (v := .int .u64 M1) rfl
    have xX63 := X6.at (i := 3) (v := .int .i64 E1) rfl
    have xX70 := X7.at (i := 0) (v := .bool s2) rfl
    have zX70 := X7.frozen 0
    have xX71 := X7.at (i := 1) (v := .int .u64 H1) rfl
    have zX71 := X7.frozen 1
    have xX72 := X7.at (i := 2) (v := .int .u64 L1) rfl
    have zX72 := X7.frozen 2
    have xX73 := X7.at (i := 3) (v := .int .i64 Z) rfl
    have zX73 := X7.frozen 3
    have xX80 := X8.at (i := 0) (v := .bool s2) rfl
    have xX81 := X8.at (i := 1) (v := .int .u64 H2) rfl
    have xX82 := X8.at (i := 2) (v := .int .u64 L2) rfl
    have xX83 := X8.at (i := 3) (v := .int .i64 Y) rfl
    go_upto_region 7 with (simp only [ha1])
    clear xX50 xX51 xX52 xX53 xX60 xX61 xX62 xX63 xX70 zX70 xX71 zX71 xX72 zX72 xX73 zX73 xX80 xX81 xX82 xX83
    have SX : StN w8 (World.setCell w8 ⟨w5.heap.size, 2, none⟩ (.int .u64 S)) _ _ #[.bool s2, .int .u64 H1, .int .u64 S, .int .i64 Z] _ := StN.at4 X7 2 (.int .u64 S)
    replace XR := XR.stn SX (by omega)
    replace X5 := X5.stn SX (by omega)
    replace X6 := X6.stn SX (by omega)
    replace X8 := X8.stn SX (by omega)
    replace HB := Lib.hid (SX.below HB.out (by omega))
    replace X7 := SX.box
    clear SX
    generalize World.setCell w8 ⟨w5.heap.size, 2, none⟩ (.int .u64 S) = w9 at *
    have xX70 := X7.at (i := 0) (v := .bool s2) rfl
    have zX70 := X7.frozen 0
    have xX71 := X7.at (i := 1) (v := .int .u64 H1) rfl
    have zX71 := X7.frozen 1
    have xX72 := X7.at (i := 2) (v := .int .u64 S) rfl
    have zX72 := X7.frozen 2
    have xX73 := X7.at (i := 3) (v := .int .i64 Z) rfl
    have zX73 := X7.frozen 3
    have xX80 := X8.at (i := 0) (v := .bool s2) rfl
    have xX81 := X8.at (i := 1) (v := .int .u64 H2) rfl
    have xX82 := X8.at (i := 2) (v := .int .u64 L2) rfl
    have xX83 := X8.at (i := 3) (v := .int .i64 Y) rfl
    go_upto_region 10 with (simp only [ha2])
    clear xX70 zX70 xX71 zX71 xX72 zX72 xX73 zX73 xX80 xX81 xX82 xX83
    have SX : StN w9 (World.setCell w9 ⟨w5.heap.size, 1, none⟩ (.int .u64 T)) _ _ #[.bool s2, .int .u64 T, .int .u64 S, .int .i64 Z] _ := StN.at4 X7 1 (.int .u64 T)
    replace XR := XR.stn SX (by omega)
    replace X5 := X5.stn SX (by omega)
    replace X6 := X6.stn SX (by omega)
    replace X8 := X8.stn SX (by omega)
    replace HB := Lib.hid (SX.below HB.out (by omega))
    replace X7 := SX.box
    clear SX
    generalize World.setCell w9 ⟨w5.heap.size, 1, none⟩ (.int .u64 T) = wA at *
    have xXR0 := XR.at (i := 0) (v := .bool false) rfl
    have zXR0 := XR.frozen 0
    have xXR1 := XR.at (i := 1) (v := .int .u64 0) rfl
    have zXR1 := XR.frozen 1
    have xXR2 := XR.at (i := 2) (v := .int .u64 0) rfl
    have zXR2 := XR.frozen 2
    have xXR3 := XR.at (i := 3) (v := .int .i64 0) rfl
    have zXR3 := XR.frozen 3
    have xX70 := X7.at (i := 0) (v := .bool s2) rfl
    have xX71 := X7.at (i := 1) (v := .int .u64 T) rfl
    have xX72 := X7.at (i := 2) (v := .int .u64 S) rfl
    have xX73 := X7.at (i := 3) (v := .int .i64 Z) rfl
    go_wp2
    clear xXR0 zXR0 xXR1 zXR1 xXR2 zXR2 xXR3 zXR3 xX70 xX71 xX72 xX73
    have SX := StN.mk4 XR (.bool s2) (.int .u64 T) (.int .u64 S) (.int .i64 Z)
    replace X5 := X5.stn SX (by omega)
    replace X6 := X6.stn SX (by omega)
    replace X7 := X7.stn SX (by omega)
    replace X8 := X8.stn SX (by omega)
    replace HB := Lib.hid (SX.below HB.out (by omega))
    replace XR := SX.box
    clear SX
    generalize (World.setCell (World.setCell (World.setCell (World.setCell wA ⟨w.heap.size + 1 + 1, 0, none⟩ (.bool s2)) ⟨w.heap.size + 1 + 1, 1, none⟩ (.int .u64 T)) ⟨w.heap.size + 1 + 1, 2, none⟩ (.int .u64 S)) ⟨w.heap.size + 1 + 1, 3, none⟩ (.int .i64 Z)) = wB at *
    have r0 := XR.cell 0
    have r1 := XR.cell 1
    have r2 := XR.cell 2
    have r3 := XR.cell 3
    exact bodyPost_ret (v := .agg #[.bool s2, .int .u64 T, .int .u64 S, .int .i64 Z]) (by simp [results, Tryd.results37, go_sem, r0, r1, r2, r3]) rfl ⟨_, _, _, _, rfl, wd_of o3 o4 o1 o2 OO.out.1 z1 z2 fun up => by rw [← HZ.out]; exact (OO.out.2 up (by first | rfl | trivial)).2.2, HB.out⟩
  · have hxor : (s2 != s1) = true := by cases s2 <;> cases s1 <;> first | rfl | exact absurd rfl hs
    have hne : (s2 == s1) = false := by cases s2 <;> cases s1 <;> first | rfl | exact absurd rfl hs
    have hswv := HSW.out (M2 * 9223372036854775808 - mvd M1 n)
    rw [hxor, wsg_t] at hswv
    have hb := (hswv true (by omega)).1
    obtain ⟨S, c, T, d, f1, f2, f3, f4, c0, c1, o1, o2, o3, o4, o5⟩ := sub_words p1 p2 hb
    have ha1 := fun W : World => aSub64 W p1.2.2.1 p1.2.2.2.1 p2.2.2.1 p2.2.2.2.1 (by decide) (by decide) f1 f2
    have ha2 := fun W : World => aSub64 W p1.1 p1.2.1 p2.1 p2.2.1 c0 c1 f3 f4
    have OO := Lib.hid (And.intro o5 hswv)
    clear f1 f2 f3 f4 p1 p2 hb hswv o5
    have xX50 := X5.at (i := 0) (v := .int .i64 1) rfl
    have xX51 := X5.at (i := 1) (v := .bool s2) rfl
    have xX52 := X5.at (i := 2) (v := .int .u64 M2) rfl
    have xX53 := X5.at (i := 3) (v := .int .i64 E2) rfl
    have xX60 := X6.at (i := 0) (v := .int .i64 1) rfl
    have xX61 := X6.at (i := 1) (v := .bool s1) rfl
    have xX62 := X6.at (i := 2) (v := .int .u64 M1) rfl
    have xX63 := X6.at (i := 3) (v := .int .i64 E1) rfl
    have xX70 := X7.at (i := 0) (v := .bool s2) rfl
    have zX70 := X7.frozen 0
    have xX71 := X7.at (i := 1) (v := .int .u64 H1) rfl
    have zX71 := X7.frozen 1
    have xX72 := X7.at (i := 2) (v := .int .u64 L1) rfl
    have zX72 := X7.frozen 2
    have xX73 := X7.at (i := 3) (v := .int .i64 Z) rfl
    have zX73 := X7.frozen 3
    have xX80 := X8.at (i := 0) (v := .bool s1) rfl
    have xX81 := X8.at (i := 1) (v := .int .u64 H2) rfl
    have xX82 := X8.at (i := 2) (v := .int .u64 L2) rfl
    have xX83 := X8.at (i := 3) (v := .int .i64 Y) rfl
    go_upto_region 9 with (simp only [ha1])
    clear xX50 xX51 xX52 xX53 xX60 xX61 xX62 xX63 xX70 zX70 xX71 zX71 xX72 zX72 xX73 zX73 xX80 xX81 xX82 xX83
    have SX : StN w8 (World.setCell w8 ⟨w5.heap.size, 2, none⟩ (.int .u64 S)) _ _ #[.bool s2, .int .u64 H1, .int .u64 S, .int .i64 Z] _ := StN.at4 X7 2 (.int .u64 S)
    replace XR := XR.stn SX (by omega)
    replace X5 := X5.stn SX (by omega)
    replace X6 := X6.stn SX (by omega)
    replace X8 := X8.stn SX (by omega)
    replace HB := Lib.hid (SX.below HB.out (by omega))
    replace X7 := SX.box
    clear SX
    generalize World.setCell w8 ⟨w5.heap.size, 2, none⟩ (.int .u64 S) = w9 at *
    have xX70 := X7.at (i := 0) (v := .bool s2) rfl
    have zX70 := X7.frozen 0
    have xX71 := X7.at (i := 1) (v := .int .u64 H1) rfl
    have zX71 := X7.frozen 1
    have xX72 := X7.at (i := 2) (v := .int .u64 S) rfl
    have zX72 := X7.frozen 2
    have xX73 := X7.at (i := 3) (v := .int .i64 Z) rfl
    have zX73 := X7.frozen 3
    have xX80 := X8.at (i := 0) (v := .bool s1) rfl
    have xX81 := X8.at (i := 1) (v := .int .u64 H2) rfl
    have xX82 := X8.at (i := 2) (v := .int .u64 L2) rfl
    have xX83 := X8.at (i := 3) (v := .int .i64 Y) rfl
    go_upto_region 10 with (simp only [ha2])
    clear xX70 zX70 xX71 zX71 xX72 zX72 xX73 zX73 xX80 xX81 xX82 xX83
    have SX : StN w9 (World.setCell w9 ⟨w5.heap.size, 1, none⟩ (.int .u64 T)) _ _ #[.bool s2, .int .u64 T, .int .u64 S, .int .i64 Z] _ := StN.at4 X7 1 (.int .u64 T)
    replace XR := XR.stn SX (by omega)
    replace X5 := X5.stn SX (by omega)
    replace X6 := X6.stn SX (by omega)
    replace X8 := X8.stn SX (by omega)
    replace HB := Lib.hid (SX.below HB.out (by omega))
    replace X7 := SX.box
    clear SX
    generalize World.setCell w9 ⟨w5.heap.size, 1, none⟩ (.int .u64 T) = wA at *
    have xXR0 := XR.at (i := 0) (v := .bool false) rfl
    have zXR0 := XR.frozen 0
    have xXR1 := XR.at (i := 1) (v := .int .u64 0) rfl
    have zXR1 := XR.frozen 1
    have xXR2 := XR.at (i := 2) (v := .int .u64 0) rfl
    have zXR2 := XR.frozen 2
    have xXR3 := XR.at (i := 3) (v := .int .i64 0) rfl
    have zXR3 := XR.frozen 3
    have xX70 := X7.at (i := 0) (v := .bool s2) rfl
    have xX71 := X7.at (i := 1) (v := .int .u64 T) rfl
    have xX72 := X7.at (i := 2) (v := .int .u64 S) rfl
    have xX73 := X7.at (i := 3) (v := .int .i64 Z) rfl
    go_wp2
    clear xXR0 zXR0 xXR1 zXR1 xXR2 zXR2 xXR3 zXR3 xX70 xX71 xX72 xX73
    have SX := StN.mk4 XR (.bool s2) (.int .u64 T) (.int .u64 S) (.int .i64 Z)
    replace X5 := X5.stn SX (by omega)
    replace X6 := X6.stn SX (by omega)
    replace X7 := X7.stn SX (by omega)
    replace X8 := X8.stn SX (by omega)
    replace HB := Lib.hid (SX.below HB.out (by omega))
    replace XR := SX.box
    clear SX
    generalize (World.setCell (World.setCell (World.setCell (World.setCell wA ⟨w.heap.size + 1 + 1, 0, none⟩ (.bool s2)) ⟨w.heap.size + 1 + 1, 1, none⟩ (.int .u64 T)) ⟨w.heap.size + 1 + 1, 2, none⟩ (.int .u64 S)) ⟨w.heap.size + 1 + 1, 3, none⟩ (.int .i64 Z)) = wB at *
    have r0 := XR.cell 0
    have r1 := XR.cell 1
    have r2 := XR.cell 2
    have r3 := XR.cell 3
    exact bodyPost_ret (v := .agg #[.bool s2, .int .u64 T, .int .u64 S, .int .i64 Z]) (by simp [results, Tryd.results37, go_sem, r0, r1, r2, r3]) rfl ⟨_, _, _, _, rfl, wd_of o3 o4 o1 o2 OO.out.1 z1 z2 fun up => by rw [← HZ.out]; exact (OO.out.2 up (by omega)).2.2, HB.out⟩
set_option maxHeartbeats 8000000 in
theorem sum_eqlt {w : World} {s1 s2 : Bool} {M1 M2 E1 E2 x y : Int} (hT : Tb w) (q1 : Fq 1 s1 M1 E1 x) (q2 : Fq 1 s2 M2 E2 y) (h : E1 = E2) (hm : M1 < M2) : Calls Tryd.prog 37 #[.agg #[.int .i64 1, .bool s1, .int .u64 M1, .int .i64 E1], .agg #[.int .i64 1, .bool s2, .int .u64 M2, .int .i64 E2]] w (PW6 w fun up => addp up x y) := by
  obtain ⟨a1, a2, a3, a4, _⟩ := fq_vr q1
  obtain ⟨b1, b2, b3, b4, _⟩ := fq_vr q2
  have HO := Lib.hid (And.intro h hm)
  obtain ⟨n, hn⟩ : ∃ n : Nat, (n : Int) = E2 - E1 + 1 := ⟨(E2 - E1 + 1).toNat, by omega⟩
  have hsw : ∀ (S : Int) up, S = M2 * 9223372036854775808 + sgi (s2 != s1) (mvd M1 n) → 0 ≤ S ∧ S < 340282366920938463463374607431768211456 ∧ rnd up (mk (sgi s2 S) (E2 + 1 - 64)).1 (mk (sgi s2 S) (E2 + 1 - 64)).2 = addp up x y := fun S up hS => by
    obtain ⟨u1, u2, u3⟩ := sum_wide up q2 q1 (by omega) hn hS
    refine ⟨u1, u2, ?_⟩
    rw [show E2 + 1 - 64 = E2 - 63 by omega, u3]
    exact addp_comm up
  have HSW := Lib.hid hsw
  obtain ⟨N, hN⟩ : ∃ N, (n : Int) = N := ⟨_, rfl⟩
  obtain ⟨D, hD⟩ : ∃ D, E2 - E1 = D := ⟨_, rfl⟩
  have n1 : 1 ≤ n := by omega
  have n3 : n ≤ 4000000 := by omega
  have HN := Lib.hid hN
  have HD := Lib.hid (show IntKind.i64.wrap (E2 - E1) = D by rw [hD]; exact IntWalk.i64_in _ (by omega))
  have HD2 := Lib.hid (show IntKind.i64.wrap (D + 1) = N by rw [show D + 1 = N by omega]; exact IntWalk.i64_in _ (by omega))
  obtain ⟨Y, hY⟩ : ∃ Y, E1 + N = Y := ⟨_, rfl⟩
  have HY := Lib.hid hY
  obtain ⟨Z, hZ⟩ : ∃ Z, E2 + 1 = Z := ⟨_, rfl⟩
  have HZ := Lib.hid hZ
  have z1 : -2900000 ≤ Z := by omega
  have z2 : Z ≤ 2900000 := by omega
  have v1 : mvd M2 1 = M2 * 9223372036854775808 := by
    unfold mvd
    rw [if_pos (by decide)]
    rfl
  have HV1 := Lib.hid v1
  have g1 : 9223372036854775808 ≤ M2 := by omega
  have g2 : M2 < 18446744073709551616 := by omega
  have g3 : -2000000 ≤ E2 := by omega
  have g4 : E2 ≤ 2000000 := by omega
  have k1 : 9223372036854775808 ≤ M1 := by omega
  have k2 : M1 < 18446744073709551616 := by omega
  have k3 : -2000000 ≤ E1 := by omega
  have k4 : E1 ≤ 2000000 := by omega
  clear hn hN hD hY hZ v1 hsw h hm q1 q2 a1 a2 a3 a4 b1 b2 b3 b4
  go_enter Tryd.func37, Tryd.ntmps37
  go_upto_region 1 with (fail)
  have X2 := (Bo.newAt w (g := w.heap.size) (by simp) #[.int .i64 1, .bool s1, .int .u64 M1, .int .i64 E1] 24).below (bel2 _ (.cells #[.int .i64 1, .bool s2, .int .u64 M2, .int .i64 E2] 24) (.cells #[.bool false, .int .u64 0, .int .u64 0, .int .i64 0] 53))
  have X3 := (Bo.newAt (w.alloc (.cells #[.int .i64 1, .bool s1, .int .u64 M1, .int .i64 E1] 24)) (g := w.heap.size + 1) (by simp) #[.int .i64 1, .bool s2, .int .u64 M2, .int .i64 E2] 24).below (bel1 _ (.cells #[.bool false, .int .u64 0, .int .u64 0, .int .i64 0] 53))
  have XR := (Bo.newAt ((w.alloc (.cells #[.int .i64 1, .bool s1, .int .u64 M1, .int .i64 E1] 24)).alloc (.cells #[.int .i64 1, .bool s2, .int .u64 M2, .int .i64 E2] 24)) (g := w.heap.size + 1 + 1) (by simp) #[.bool false, .int .u64 0, .int .u64 0, .int .i64 0] 53)
  have HB := Lib.hid (bel3 w (.cells #[.int .i64 1, .bool s1, .int .u64 M1, .int .i64 E1] 24) (.cells #[.int .i64 1, .bool s2, .int .u64 M2, .int .i64 E2] 24) (.cells #[.bool false, .int .u64 0, .int .u64 0, .int .i64 0] 53))
  replace hT := hT.below HB.out
  generalize hW1 : (((w.alloc (.cells #[.int .i64 1, .bool s1, .int .u64 M1, .int .i64 E1] 24)).alloc (.cells #[.int .i64 1, .bool s2, .int .u64 M2, .int .i64 E2] 24)).alloc (.cells #[.bool false, .int .u64 0, .int .u64 0, .int .i64 0] 53)) = w1 at *
  clear hW1
  have xX20 := X2.at (i := 0) (v := .int .i64 1) rfl
  have xX21 := X2.at (i := 1) (v := .bool s1) rfl
  have xX22 := X2.at (i := 2) (v := .int .u64 M1) rfl
  have xX23 := X2.at (i := 3) (v := .int .i64 E1) rfl
  have xX30 := X3.at (i := 0) (v := .int .i64 1) rfl
  have xX31 := X3.at (i := 1) (v := .bool s2) rfl
  have xX32 := X3.at (i := 2) (v := .int .u64 M2) rfl
  have xX33 := X3.at (i := 3) (v := .int .i64 E2) rfl
  go_wp2_with fail
  refine (order_eqlt HO.out.1 (by have := HO.out.2; omega)).mono ?_
  rintro ee w2 ⟨rfl, B⟩
  clear xX20 xX21 xX22 xX23 xX30 xX31 xX32 xX33
  replace X2 := X2.below B
  replace X3 := X3.below B
  replace XR := XR.below B
  replace hT := hT.below B
  replace HB := Lib.hid (bt HB.out B)
  clear B
  go_upto_region 2 with (fail)
  clear X2 X3
  have hsz : (World.alloc w2 (.cells #[.int .i64 1, .bool s2, .int .u64 M2, .int .i64 E2] 24)).heap.size = w2.heap.size + 1 := by simp
  have lX5 := Nat.le_refl (World.heap w2).size
  have nX5XR := XR.lt
  replace XR := XR.below (bel1 _ (.cells #[.int .i64 1, .bool s2, .int .u64 M2, .int .i64 E2] 24))
  replace hT := hT.below (bel1 _ (.cells #[.int .i64 1, .bool s2, .int .u64 M2, .int .i64 E2] 24))
  replace HB := Lib.hid (bt HB.out (bel1 _ (.cells #[.int .i64 1, .bool s2, .int .u64 M2, .int .i64 E2] 24)))
  have X5 := Bo.new w2 #[.int .i64 1, .bool s2, .int .u64 M2, .int .i64 E2] 24
  generalize hWn : World.alloc w2 (.cells #[.int .i64 1, .bool s2, .int .u64 M2, .int .i64 E2] 24) = w3 at *
  clear hWn
  have lX6 := Nat.le_refl (World.heap w3).size
  have nX6XR := XR.lt
  have nX6X5 := X5.lt
  replace XR := XR.below (bel1 _ (.cells #[.int .i64 1, .bool s1, .int .u64 M1, .int .i64 E1] 24))
  replace X5 := X5.below (bel1 _ (.cells #[.int .i64 1, .bool s1, .int .u64 M1, .int .i64 E1] 24))
  replace hT := hT.below (bel1 _ (.cells #[.int .i64 1, .bool s1, .int .u64 M1, .int .i64 E1] 24))
  replace HB := Lib.hid (bt HB.out (bel1 _ (.cells #[.int .i64 1, .bool s1, .int .u64 M1, .int .i64 E1] 24)))
  have X6 := Bo.new w3 #[.int .i64 1, .bool s1, .int .u64 M1, .int .i64 E1] 24
  generalize hWn : World.alloc w3 (.cells #[.int .i64 1, .bool s1, .int .u64 M1, .int .i64 E1] 24) = w4 at *
  clear hWn
  rw [hsz] at X6 nX6X5 nX6XR
  clear lX5 lX6 hsz
  have xX50 := X5.at (i := 0) (v := .int .i64 1) rfl
  have xX51 := X5.at (i := 1) (v := .bool s2) rfl
  have xX52 := X5.at (i := 2) (v := .int .u64 M2) rfl
  have xX53 := X5.at (i := 3) (v := .int .i64 E2) rfl
  go_wp2_with fail
  refine (aMoved (n := 1) (s := s2) hT g1 g2 (by rfl) HZ.out g3 g4 (by decide) (by decide)).mono ?_
  rintro ee w5 ⟨H1, L1, rfl, p1, B⟩
  clear xX50 xX51 xX52 xX53
  replace XR := XR.below B
  replace X5 := X5.below B
  replace X6 := X6.below B
  replace hT := hT.below B
  replace HB := Lib.hid (bt HB.out B)
  clear B
  rw [HV1.out] at p1
  go_upto_region 3 with (fail)
  have lX7 := Nat.le_refl (World.heap w5).size
  have nX7XR := XR.lt
  have nX7X5 := X5.lt
  have nX7X6 := X6.lt
  replace XR := XR.below (bel1 _ (.cells #[.bool s2, .int .u64 H1, .int .u64 L1, .int .i64 Z] 53))
  replace X5 := X5.below (bel1 _ (.cells #[.bool s2, .int .u64 H1, .int .u64 L1, .int .i64 Z] 53))
  replace X6 := X6.below (bel1 _ (.cells #[.bool s2, .int .u64 H1, .int .u64 L1, .int .i64 Z] 53))
  replace hT := hT.below (bel1 _ (.cells #[.bool s2, .int .u64 H1, .int .u64 L1, .int .i64 Z] 53))
  replace HB := Lib.hid (bt HB.out (bel1 _ (.cells #[.bool s2, .int .u64 H1, .int .u64 L1, .int .i64 Z] 53)))
  have X7 := Bo.new w5 #[.bool s2, .int .u64 H1, .int .u64 L1, .int .i64 Z] 53
  generalize hWn : World.alloc w5 (.cells #[.bool s2, .int .u64 H1, .int .u64 L1, .int .i64 Z] 53) = w6 at *
  clear hWn
  clear lX7
  have xX50 := X5.at (i := 0) (v := .int .i64 1) rfl
  have xX51 := X5.at (i := 1) (v := .bool s2) rfl
  have xX52 := X5.at (i := 2) (v := .int .u64 M2) rfl
  have xX53 := X5.at (i := 3) (v := .int .i64 E2) rfl
  have xX60 := X6.at (i := 0) (v := .int .i64 1) rfl
  have xX61 := X6.at (i := 1) (v := .bool s1) rfl
  have xX62 := X6.at (i := 2) (v := .int .u64 M1) rfl
  have xX63 := X6.at (i := 3) (v := .int .i64 E1) rfl
  have hd := HD.out
  have hd2 := HD2.out
  go_wp2_with fail
  refine (aMoved (s := s1) hT k1 k2 HN.out HY.out k3 k4 n1 n3).mono ?_
  rintro ee w7 ⟨H2, L2, rfl, p2, B⟩
  clear xX50 xX51 xX52 xX53 xX60 xX61 xX62 xX63
  replace XR := XR.below B
  replace X5 := X5.below B
  replace X6 := X6.below B
  replace X7 := X7.below B
  replace hT := hT.below B
  replace HB := Lib.hid (bt HB.out B)
  clear B
  clear hd hd2
  go_upto_region 5 with (fail)
  have lX8 := Nat.le_refl (World.heap w7).size
  have nX8XR := XR.lt
  have nX8X5 := X5.lt
  have nX8X6 := X6.lt
  have nX8X7 := X7.lt
  replace XR := XR.below (bel1 _ (.cells #[.bool s1, .int .u64 H2, .int .u64 L2, .int .i64 Y] 53))
  replace X5 := X5.below (bel1 _ (.cells #[.bool s1, .int .u64 H2, .int .u64 L2, .int .i64 Y] 53))
  replace X6 := X6.below (bel1 _ (.cells #[.bool s1, .int .u64 H2, .int .u64 L2, .int .i64 Y] 53))
  replace X7 := X7.below (bel1 _ (.cells #[.bool s1, .int .u64 H2, .int .u64 L2, .int .i64 Y] 53))
  replace hT := hT.below (bel1 _ (.cells #[.bool s1, .int .u64 H2, .int .u64 L2, .int .i64 Y] 53))
  replace HB := Lib.hid (bt HB.out (bel1 _ (.cells #[.bool s1, .int .u64 H2, .int .u64 L2, .int .i64 Y] 53)))
  have X8 := Bo.new w7 #[.bool s1, .int .u64 H2, .int .u64 L2, .int .i64 Y] 53
  generalize hWn : World.alloc w7 (.cells #[.bool s1, .int .u64 H2, .int .u64 L2, .int .i64 Y] 53) = w8 at *
  clear hWn
  clear lX8
  by_cases hs : s2 = s1
  · subst hs
    have hxor : (s2 != s2) = false := by cases s2 <;> rfl
    have hswv := HSW.out (M2 * 9223372036854775808 + mvd M1 n)
    rw [hxor, wsg_f] at hswv
    have hb := (hswv true rfl).2.1
    obtain ⟨S, c, T, d, f1, f2, f3, f4, c0, c1, o1, o2, o3, o4, o5⟩ := add_words p1 p2 hb
    have ha1 := fun W : World => aAdd64 W p1.2.2.1 p2.2.2.1 (by decide) (by decide) f1 f2
    have ha2 := fun W : World => aAdd64 W p1.1 p2.1 c0 c1 f3 f4
    have OO := Lib.hid (And.intro o5 hswv)
    clear f1 f2 f3 f4 p1 p2 hb hswv o5
    have xX50 := X5.at (i := 0) (v := .int .i64 1) rfl
    have xX51 := X5.at (i := 1) (v := .bool s2) rfl
    have xX52 := X5.at (i := 2) (v := .int .u64 M2) rfl
    have xX53 := X5.at (i := 3) (v := .int .i64 E2) rfl
    have xX60 := X6.at (i := 0) (v := .int .i64 1) rfl
    have xX61 := X6.at (i := 1) (v := .bool s2) rfl
    have xX62 := X6.at (i := 2) (v := .int .u64 M1) rfl
    have xX63 := X6.at (i := 3) (v := .int .i64 E1) rfl
    have xX70 := X7.at (i := 0) (v := .bool s2) rfl
    have zX70 := X7.frozen 0
    have xX71 := X7.at (i := 1) (v := .int .u64 H1) rfl
    have zX71 := X7.frozen 1
    have xX72 := X7.at (i := 2) (v := .int .u64 L1) rfl
    have zX72 := X7.frozen 2
    have xX73 := X7.at (i := 3) (v := .int .i64 Z) rfl
    have zX73 := X7.frozen 3
    have xX80 := X8.at (i := 0) (v := .bool s2) rfl
    have xX81 := X8.at (i := 1) (v := .int .u64 H2) rfl
    have xX82 := X8.at (i := 2) (v := .int .u64 L2) rfl
    have xX83 := X8.at (i := 3) (v := .int .i64 Y) rfl
    go_upto_region 7 with (simp only [ha1])
    clear xX50 xX51 xX52 xX53 xX60 xX61 xX62 xX63 xX70 zX70 xX71 zX71 xX72 zX72 xX73 zX73 xX80 xX81 xX82 xX83
    have SX : StN w8 (World.setCell w8 ⟨w5.heap.size, 2, none⟩ (.int .u64 S)) _ _ #[.bool s2, .int .u64 H1, .int .u64 S, .int .i64 Z] _ := StN.at4 X7 2 (.int .u64 S)
    replace XR := XR.stn SX (by omega)
    replace X5 := X5.stn SX (by omega)
    replace X6 := X6.stn SX (by omega)
    replace X8 := X8.stn SX (by omega)
    replace HB := Lib.hid (SX.below HB.out (by omega))
    replace X7 := SX.box
    clear SX
    generalize World.setCell w8 ⟨w5.heap.size, 2, none⟩ (.int .u64 S) = w9 at *
    have xX70 := X7.at (i := 0) (v := .bool s2) rfl
    have zX70 := X7.frozen 0
    have xX71 := X7.at (i := 1) (v := .int .u64 H1) rfl
    have zX71 := X7.frozen 1
    have xX72 := X7.at (i := 2) (v := .int .u64 S) rfl
    have zX72 := X7.frozen 2
    have xX73 := X7.at (i := 3) (v := .int .i64 Z) rfl
    have zX73 := X7.frozen 3
    have xX80 := X8.at (i := 0) (v := .bool s2) rfl
    have xX81 := X8.at (i := 1) (v := .int .u64 H2) rfl
    have xX82 := X8.at (i := 2) (v := .int .u64 L2) rfl
    have xX83 := X8.at (i := 3) (v := .int .i64 Y) rfl
    go_upto_region 10 with (simp only [ha2])
    clear xX70 zX70 xX71 zX71 xX72 zX72 xX73 zX73 xX80 xX81 xX82 xX83
    have SX : StN w9 (World.setCell w9 ⟨w5.heap.size, 1, none⟩ (.int .u64 T)) _ _ #[.bool s2, .int .u64 T, .int .u64 S, .int .i64 Z] _ := StN.at4 X7 1 (.int .u64 T)
    replace XR := XR.stn SX (by omega)
    replace X5 := X5.stn SX (by omega)
    replace X6 := X6.stn SX (by omega)
    replace X8 := X8.stn SX (by omega)
    replace HB := Lib.hid (SX.below HB.out (by omega))
    replace X7 := SX.box
    clear SX
    generalize World.setCell w9 ⟨w5.heap.size, 1, none⟩ (.int .u64 T) = wA at *
    have xXR0 := XR.at (i := 0) (v := .bool false) rfl
    have zXR0 := XR.frozen 0
    have xXR1 := XR.at (i := 1) (v := .int .u64 0) rfl
    have zXR1 := XR.frozen 1
    have xXR2 := XR.at (i := 2) (v := .int .u64 0) rfl
    have zXR2 := XR.frozen 2
    have xXR3 := XR.at (i := 3) (v := .int .i64 0) rfl
    have zXR3 := XR.frozen 3
    have xX70 := X7.at (i := 0) (v := .bool s2) rfl
    have xX71 := X7.at (i := 1) (v := .int .u64 T) rfl
    have xX72 := X7.at (i := 2) (v := .int .u64 S) rfl
    have xX73 := X7.at (i := 3) (v := .int .i64 Z) rfl
    go_wp2
    clear xXR0 zXR0 xXR1 zXR1 xXR2 zXR2 xXR3 zXR3 xX70 xX71 xX72 xX73
    have SX := StN.mk4 XR (.bool s2) (.int .u64 T) (.int .u64 S) (.int .i64 Z)
    replace X5 := X5.stn SX (by omega)
    replace X6 := X6.stn SX (by omega)
    replace X7 := X7.stn SX (by omega)
    replace X8 := X8.stn SX (by omega)
    replace HB := Lib.hid (SX.below HB.out (by omega))
    replace XR := SX.box
    clear SX
    generalize (World.setCell (World.setCell (World.setCell (World.setCell wA ⟨w.heap.size + 1 + 1, 0, none⟩ (.bool s2)) ⟨w.heap.size + 1 + 1, 1, none⟩ (.int .u64 T)) ⟨w.heap.size + 1 + 1, 2, none⟩ (.int .u64 S)) ⟨w.heap.size + 1 + 1, 3, none⟩ (.int .i64 Z)) = wB at *
    have r0 := XR.cell 0
    have r1 := XR.cell 1
    have r2 := XR.cell 2
    have r3 := XR.cell 3
    exact bodyPost_ret (v := .agg #[.bool s2, .int .u64 T, .int .u64 S, .int .i64 Z]) (by simp [results, Tryd.results37, go_sem, r0, r1, r2, r3]) rfl ⟨_, _, _, _, rfl, wd_of o3 o4 o1 o2 OO.out.1 z1 z2 fun up => by rw [← HZ.out]; exact (OO.out.2 up (by first | rfl | trivial)).2.2, HB.out⟩
  · have hxor : (s2 != s1) = true := by cases s2 <;> cases s1 <;> first | rfl | exact absurd rfl hs
    have hne : (s2 == s1) = false := by cases s2 <;> cases s1 <;> first | rfl | exact absurd rfl hs
    have hswv := HSW.out (M2 * 9223372036854775808 - mvd M1 n)
    rw [hxor, wsg_t] at hswv
    have hb := (hswv true (by omega)).1
    obtain ⟨S, c, T, d, f1, f2, f3, f4, c0, c1, o1, o2, o3, o4, o5⟩ := sub_words p1 p2 hb
    have ha1 := fun W : World => aSub64 W p1.2.2.1 p1.2.2.2.1 p2.2.2.1 p2.2.2.2.1 (by decide) (by decide) f1 f2
    have ha2 := fun W : World => aSub64 W p1.1 p1.2.1 p2.1 p2.2.1 c0 c1 f3 f4
    have OO := Lib.hid (And.intro o5 hswv)
    clear f1 f2 f3 f4 p1 p2 hb hswv o5
    have xX50 := X5.at (i := 0) (v := .int .i64 1) rfl
    have xX51 := X5.at (i := 1) (v := .bool s2) rfl
    have xX52 := X5.at (i := 2) (v := .int .u64 M2) rfl
    have xX53 := X5.at (i := 3) (v := .int .i64 E2) rfl
    have xX60 := X6.at (i := 0) (v := .int .i64 1) rfl
    have xX61 := X6.at (i := 1) (v := .bool s1) rfl
    have xX62 := X6.at (i := 2) (v := .int .u64 M1) rfl
    have xX63 := X6.at (i := 3) (v := .int .i64 E1) rfl
    have xX70 := X7.at (i := 0) (v := .bool s2) rfl
    have zX70 := X7.frozen 0
    have xX71 := X7.at (i := 1) (v := .int .u64 H1) rfl
    have zX71 := X7.frozen 1
    have xX72 := X7.at (i := 2) (v := .int .u64 L1) rfl
    have zX72 := X7.frozen 2
    have xX73 := X7.at (i := 3) (v := .int .i64 Z) rfl
    have zX73 := X7.frozen 3
    have xX80 := X8.at (i := 0) (v := .bool s1) rfl
    have xX81 := X8.at (i := 1) (v := .int .u64 H2) rfl
    have xX82 := X8.at (i := 2) (v := .int .u64 L2) rfl
    have xX83 := X8.at (i := 3) (v := .int .i64 Y) rfl
    go_upto_region 9 with (simp only [ha1])
    clear xX50 xX51 xX52 xX53 xX60 xX61 xX62 xX63 xX70 zX70 xX71 zX71 xX72 zX72 xX73 zX73 xX80 xX81 xX82 xX83
    have SX : StN w8 (World.setCell w8 ⟨w5.heap.size, 2, none⟩ (.int .u64 S)) _ _ #[.bool s2, .int .u64 H1, .int .u64 S, .int .i64 Z] _ := StN.at4 X7 2 (.int .u64 S)
    replace XR := XR.stn SX (by omega)
    replace X5 := X5.stn SX (by omega)
    replace X6 := X6.stn SX (by omega)
    replace X8 := X8.stn SX (by omega)
    replace HB := Lib.hid (SX.below HB.out (by omega))
    replace X7 := SX.box
    clear SX
    generalize World.setCell w8 ⟨w5.heap.size, 2, none⟩ (.int .u64 S) = w9 at *
    have xX70 := X7.at (i := 0) (v := .bool s2) rfl
    have zX70 := X7.frozen 0
    have xX71 := X7.at (i := 1) (v := .int .u64 H1) rfl
    have zX71 := X7.frozen 1
    have xX72 := X7.at (i := 2) (v := .int .u64 S) rfl
    have zX72 := X7.frozen 2
    have xX73 := X7.at (i := 3) (v := .int .i64 Z) rfl
    have zX73 := X7.frozen 3
    have xX80 := X8.at (i := 0) (v := .bool s1) rfl
    have xX81 := X8.at (i := 1) (v := .int .u64 H2) rfl
    have xX82 := X8.at (i := 2) (v := .int .u64 L2) rfl
    have xX83 := X8.at (i := 3) (v := .int .i64 Y) rfl
    go_upto_region 10 with (simp only [ha2])
    clear xX70 zX70 xX71 zX71 xX72 zX72 xX73 zX73 xX80 xX81 xX82 xX83
    have SX : StN w9 (World.setCell w9 ⟨w5.heap.size, 1, none⟩ (.int .u64 T)) _ _ #[.bool s2, .int .u64 T, .int .u64 S, .int .i64 Z] _ := StN.at4 X7 1 (.int .u64 T)
    replace XR := XR.stn SX (by omega)
    replace X5 := X5.stn SX (by omega)
    replace X6 := X6.stn SX (by omega)
    replace X8 := X8.stn SX (by omega)
    replace HB := Lib.hid (SX.below HB.out (by omega))
    replace X7 := SX.box
    clear SX
    generalize World.setCell w9 ⟨w5.heap.size, 1, none⟩ (.int .u64 T) = wA at *
    have xXR0 := XR.at (i := 0) (v := .bool false) rfl
    have zXR0 := XR.frozen 0
    have xXR1 := XR.at (i := 1) (v := .int .u64 0) rfl
    have zXR1 := XR.frozen 1
    have xXR2 := XR.at (i := 2) (v := .int .u64 0) rfl
    have zXR2 := XR.frozen 2
    have xXR3 := XR.at (i := 3) (v := .int .i64 0) rfl
    have zXR3 := XR.frozen 3
    have xX70 := X7.at (i := 0) (v := .bool s2) rfl
    have xX71 := X7.at (i := 1) (v := .int .u64 T) rfl
    have xX72 := X7.at (i := 2) (v := .int .u64 S) rfl
    have xX73 := X7.at (i := 3) (v := .int .i64 Z) rfl
    go_wp2
    clear xXR0 zXR0 xXR1 zXR1 xXR2 zXR2 xXR3 zXR3 xX70 xX71 xX72 xX73
    have SX := StN.mk4 XR (.bool s2) (.int .u64 T) (.int .u64 S) (.int .i64 Z)
    replace X5 := X5.stn SX (by omega)
    replace X6 := X6.stn SX (by omega)
    replace X7 := X7.stn SX (by omega)
    replace X8 := X8.stn SX (by omega)
    replace HB := Lib.hid (SX.below HB.out (by omega))
    replace XR := SX.box
    clear SX
    generalize (World.setCell (World.setCell (World.setCell (World.setCell wA ⟨w.heap.size + 1 + 1, 0, none⟩ (.bool s2)) ⟨w.heap.size + 1 + 1, 1, none⟩ (.int .u64 T)) ⟨w.heap.size + 1 + 1, 2, none⟩ (.int .u64 S)) ⟨w.heap.size + 1 + 1, 3, none⟩ (.int .i64 Z)) = wB at *
    have r0 := XR.cell 0
    have r1 := XR.cell 1
    have r2 := XR.cell 2
    have r3 := XR.cell 3
    exact bodyPost_ret (v := .agg #[.bool s2, .int .u64 T, .int .u64 S, .int .i64 Z]) (by simp [results, Tryd.results37, go_sem, r0, r1, r2, r3]) rfl ⟨_, _, _, _, rfl, wd_of o3 o4 o1 o2 OO.out.1 z1 z2 fun up => by rw [← HZ.out]; exact (OO.out.2 up (by omega)).2.2, HB.out⟩
set_option maxHeartbeats 8000000 in
theorem sum_eqge {w : World} {s1 s2 : Bool} {M1 M2 E1 E2 x y : Int} (hT : Tb w) (q1 : Fq 1 s1 M1 E1 x) (q2 : Fq 1 s2 M2 E2 y) (h : E1 = E2) (hm : ¬ M1 < M2) : Calls Tryd.prog 37 #[.agg #[.int .i64 1, .bool s1, .int .u64 M1, .int .i64 E1], .agg #[.int .i64 1, .bool s2, .int .u64 M2, .int .i64 E2]] w (PW6 w fun up => addp up x y) := by
  obtain ⟨a1, a2, a3, a4, _⟩ := fq_vr q1
  obtain ⟨b1, b2, b3, b4, _⟩ := fq_vr q2
  have HO := Lib.hid (And.intro h hm)
  obtain ⟨n, hn⟩ : ∃ n : Nat, (n : Int) = E1 - E2 + 1 := ⟨(E1 - E2 + 1).toNat, by omega⟩
  have hsw : ∀ (S : Int) up, S = M1 * 9223372036854775808 + sgi (s1 != s2) (mvd M2 n) → 0 ≤ S ∧ S < 340282366920938463463374607431768211456 ∧ rnd up (mk (sgi s1 S) (E1 + 1 - 64)).1 (mk (sgi s1 S) (E1 + 1 - 64)).2 = addp up x y := fun S up hS => by
    obtain ⟨u1, u2, u3⟩ := sum_wide up q1 q2 (by omega) hn hS
    refine ⟨u1, u2, ?_⟩
    rw [show E1 + 1 - 64 = E1 - 63 by omega, u3]
  have HSW := Lib.hid hsw
  obtain ⟨N, hN⟩ : ∃ N, (n : Int) = N := ⟨_, rfl⟩
  obtain ⟨D, hD⟩ : ∃ D, E1 - E2 = D := ⟨_, rfl⟩
  have n1 : 1 ≤ n := by omega
  have n3 : n ≤ 4000000 := by omega
  have HN := Lib.hid hN
  have HD := Lib.hid (show IntKind.i64.wrap (E1 - E2) = D by rw [hD]; exact IntWalk.i64_in _ (by omega))
  have HD2 := Lib.hid (show IntKind.i64.wrap (D + 1) = N by rw [show D + 1 = N by omega]; exact IntWalk.i64_in _ (by omega))
  obtain ⟨Y, hY⟩ : ∃ Y, E2 + N = Y := ⟨_, rfl⟩
  have HY := Lib.hid hY
  obtain ⟨Z, hZ⟩ : ∃ Z, E1 + 1 = Z := ⟨_, rfl⟩
  have HZ := Lib.hid hZ
  have z1 : -2900000 ≤ Z := by omega
  have z2 : Z ≤ 2900000 := by omega
  have v1 : mvd M1 1 = M1 * 9223372036854775808 := by
    unfold mvd
    rw [if_pos (by decide)]
    rfl
  have HV1 := Lib.hid v1
  have g1 : 9223372036854775808 ≤ M1 := by omega
  have g2 : M1 < 18446744073709551616 := by omega
  have g3 : -2000000 ≤ E1 := by omega
  have g4 : E1 ≤ 2000000 := by omega
  have k1 : 9223372036854775808 ≤ M2 := by omega
  have k2 : M2 < 18446744073709551616 := by omega
  have k3 : -2000000 ≤ E2 := by omega
  have k4 : E2 ≤ 2000000 := by omega
  clear hn hN hD hY hZ v1 hsw h hm q1 q2 a1 a2 a3 a4 b1 b2 b3 b4
  go_enter Tryd.func37, Tryd.ntmps37
  go_upto_region 1 with (fail)
  have X2 := (Bo.newAt w (g := w.heap.size) (by simp) #[.int .i64 1, .bool s1, .int .u64 M1, .int .i64 E1] 24).below (bel2 _ (.cells #[.int .i64 1, .bool s2, .int .u64 M2, .int .i64 E2] 24) (.cells #[.bool false, .int .u64 0, .int .u64 0, .int .i64 0] 53))
  have X3 := (Bo.newAt (w.alloc (.cells #[.int .i64 1, .bool s1, .int .u64 M1, .int .i64 E1] 24)) (g := w.heap.size + 1) (by simp) #[.int .i64 1, .bool s2, .int .u64 M2, .int .i64 E2] 24).below (bel1 _ (.cells #[.bool false, .int .u64 0, .int .u64 0, .int .i64 0] 53))
  have XR := (Bo.newAt ((w.alloc (.cells #[.int .i64 1, .bool s1, .int .u64 M1, .int .i64 E1] 24)).alloc (.cells #[.int .i64 1, .bool s2, .int .u64 M2, .int .i64 E2] 24)) (g := w.heap.size + 1 + 1) (by simp) #[.bool false, .int .u64 0, .int .u64 0, .int .i64 0] 53)
  have HB := Lib.hid (bel3 w (.cells #[.int .i64 1, .bool s1, .int .u64 M1, .int .i64 E1] 24) (.cells #[.int .i64 1, .bool s2, .int .u64 M2, .int .i64 E2] 24) (.cells #[.bool false, .int .u64 0, .int .u64 0, .int .i64 0] 53))
  replace hT := hT.below HB.out
  generalize hW1 : (((w.alloc (.cells #[.int .i64 1, .bool s1, .int .u64 M1, .int .i64 E1] 24)).alloc (.cells #[.int .i64 1, .bool s2, .int .u64 M2, .int .i64 E2] 24)).alloc (.cells #[.bool false, .int .u64 0, .int .u64 0, .int .i64 0] 53)) = w1 at *
  clear hW1
  have xX20 := X2.at (i := 0) (v := .int .i64 1) rfl
  have xX21 := X2.at (i := 1) (v := .bool s1) rfl
  have xX22 := X2.at (i := 2) (v := .int .u64 M1) rfl
  have xX23 := X2.at (i := 3) (v := .int .i64 E1) rfl
  have xX30 := X3.at (i := 0) (v := .int .i64 1) rfl
  have xX31 := X3.at (i := 1) (v := .bool s2) rfl
  have xX32 := X3.at (i := 2) (v := .int .u64 M2) rfl
  have xX33 := X3.at (i := 3) (v := .int .i64 E2) rfl
  go_wp2_with fail
  refine (order_eqge HO.out.1 (by have := HO.out.2; omega)).mono ?_
  rintro ee w2 ⟨rfl, B⟩
  clear xX20 xX21 xX22 xX23 xX30 xX31 xX32 xX33
  replace X2 := X2.below B
  replace X3 := X3.below B
  replace XR := XR.below B
  replace hT := hT.below B
  replace HB := Lib.hid (bt HB.out B)
  clear B
  go_upto_region 2 with (fail)
  clear X2 X3
  have hsz : (World.alloc w2 (.cells #[.int .i64 1, .bool s1, .int .u64 M1, .int .i64 E1] 24)).heap.size = w2.heap.size + 1 := by simp
  have lX5 := Nat.le_refl (World.heap w2).size
  have nX5XR := XR.lt
  replace XR := XR.below (bel1 _ (.cells #[.int .i64 1, .bool s1, .int .u64 M1, .int .i64 E1] 24))
  replace hT := hT.below (bel1 _ (.cells #[.int .i64 1, .bool s1, .int .u64 M1, .int .i64 E1] 24))
  replace HB := Lib.hid (bt HB.out (bel1 _ (.cells #[.int .i64 1, .bool s1, .int .u64 M1, .int .i64 E1] 24)))
  have X5 := Bo.new w2 #[.int .i64 1, .bool s1, .int .u64 M1, .int .i64 E1] 24
  generalize hWn : World.alloc w2 (.cells #[.int .i64 1, .bool s1, .int .u64 M1, .int .i64 E1] 24) = w3 at *
  clear hWn
  have lX6 := Nat.le_refl (World.heap w3).size
  have nX6XR := XR.lt
  have nX6X5 := X5.lt
  replace XR := XR.below (bel1 _ (.cells #[.int .i64 1, .bool s2, .int .u64 M2, .int .i64 E2] 24))
  replace X5 := X5.below (bel1 _ (.cells #[.int .i64 1, .bool s2, .int .u64 M2, .int .i64 E2] 24))
  replace hT := hT.below (bel1 _ (.cells #[.int .i64 1, .bool s2, .int .u64 M2, .int .i64 E2] 24))
  replace HB := Lib.hid (bt HB.out (bel1 _ (.cells #[.int .i64 1, .bool s2, .int .u64 M2, .int .i64 E2] 24)))
  have X6 := Bo.new w3 #[.int .i64 1, .bool s2, .int .u64 M2, .int .i64 E2] 24
  generalize hWn : World.alloc w3 (.cells #[.int .i64 1, .bool s2, .int .u64 M2, .int .i64 E2] 24) = w4 at *
  clear hWn
  rw [hsz] at X6 nX6X5 nX6XR
  clear lX5 lX6 hsz
  have xX50 := X5.at (i := 0) (v := .int .i64 1) rfl
  have xX51 := X5.at (i := 1) (v := .bool s1) rfl
  have xX52 := X5.at (i := 2) (v := .int .u64 M1) rfl
  have xX53 := X5.at (i := 3) (v := .int .i64 E1) rfl
  go_wp2_with fail
  refine (aMoved (n := 1) (s := s1) hT g1 g2 (by rfl) HZ.out g3 g4 (by decide) (by decide)).mono ?_
  rintro ee w5 ⟨H1, L1, rfl, p1, B⟩
  clear xX50 xX51 xX52 xX53
  replace XR := XR.below B
  replace X5 := X5.below B
  replace X6 := X6.below B
  replace hT := hT.below B
  replace HB := Lib.hid (bt HB.out B)
  clear B
  rw [HV1.out] at p1
  go_upto_region 3 with (fail)
  have lX7 := Nat.le_refl (World.heap w5).size
  have nX7XR := XR.lt
  have nX7X5 := X5.lt
  have nX7X6 := X6.lt
  replace XR := XR.below (bel1 _ (.cells #[.bool s1, .int .u64 H1, .int .u64 L1, .int .i64 Z] 53))
  replace X5 := X5.below (bel1 _ (.cells #[.bool s1, .int .u64 H1, .int .u64 L1, .int .i64 Z] 53))
  replace X6 := X6.below (bel1 _ (.cells #[.bool s1, .int .u64 H1, .int .u64 L1, .int .i64 Z] 53))
  replace hT := hT.below (bel1 _ (.cells #[.bool s1, .int .u64 H1, .int .u64 L1, .int .i64 Z] 53))
  replace HB := Lib.hid (bt HB.out (bel1 _ (.cells #[.bool s1, .int .u64 H1, .int .u64 L1, .int .i64 Z] 53)))
  have X7 := Bo.new w5 #[.bool s1, .int .u64 H1, .int .u64 L1, .int .i64 Z] 53
  generalize hWn : World.alloc w5 (.cells #[.bool s1, .int .u64 H1, .int .u64 L1, .int .i64 Z] 53) = w6 at *
  clear hWn
  clear lX7
  have xX50 := X5.at (i := 0) (v := .int .i64 1) rfl
  have xX51 := X5.at (i := 1) (v := .bool s1) rfl
  have xX52 := X5.at (i := 2) (v := .int .u64 M1) rfl
  have xX53 := X5.at (i := 3) (v := .int .i64 E1) rfl
  have xX60 := X6.at (i := 0) (v := .int .i64 1) rfl
  have xX61 := X6.at (i := 1) (v := .bool s2) rfl
  have xX62 := X6.at (i := 2) (v := .int .u64 M2) rfl
  have xX63 := X6.at (i := 3) (v := .int .i64 E2) rfl
  have hd := HD.out
  have hd2 := HD2.out
  go_wp2_with fail
  refine (aMoved (s := s2) hT k1 k2 HN.out HY.out k3 k4 n1 n3).mono ?_
  rintro ee w7 ⟨H2, L2, rfl, p2, B⟩
  clear xX50 xX51 xX52 xX53 xX60 xX61 xX62 xX63
  replace XR := XR.below B
  replace X5 := X5.below B
  replace X6 := X6.below B
  replace X7 := X7.below B
  replace hT := hT.below B
  replace HB := Lib.hid (bt HB.out B)
  clear B
  clear hd hd2
  go_upto_region 5 with (fail)
  have lX8 := Nat.le_refl (World.heap w7).size
  have nX8XR := XR.lt
  have nX8X5 := X5.lt
  have nX8X6 := X6.lt
  have nX8X7 := X7.lt
  replace XR := XR.below (bel1 _ (.cells #[.bool s2, .int .u64 H2, .int .u64 L2, .int .i64 Y] 53))
  replace X5 := X5.below (bel1 _ (.cells #[.bool s2, .int .u64 H2, .int .u64 L2, .int .i64 Y] 53))
  replace X6 := X6.below (bel1 _ (.cells #[.bool s2, .int .u64 H2, .int .u64 L2, .int .i64 Y] 53))
  replace X7 := X7.below (bel1 _ (.cells #[.bool s2, .int .u64 H2, .int .u64 L2, .int .i64 Y] 53))
  replace hT := hT.below (bel1 _ (.cells #[.bool s2, .int .u64 H2, .int .u64 L2, .int .i64 Y] 53))
  replace HB := Lib.hid (bt HB.out (bel1 _ (.cells #[.bool s2, .int .u64 H2, .int .u64 L2, .int .i64 Y] 53)))
  have X8 := Bo.new w7 #[.bool s2, .int .u64 H2, .int .u64 L2, .int .i64 Y] 53
  generalize hWn : World.alloc w7 (.cells #[.bool s2, .int .u64 H2, .int .u64 L2, .int .i64 Y] 53) = w8 at *
  clear hWn
  clear lX8
  by_cases hs : s1 = s2
  · subst hs
    have hxor : (s1 != s1) = false := by cases s1 <;> rfl
    have hswv := HSW.out (M1 * 9223372036854775808 + mvd M2 n)
    rw [hxor, wsg_f] at hswv
    have hb := (hswv true rfl).2.1
    obtain ⟨S, c, T, d, f1, f2, f3, f4, c0, c1, o1, o2, o3, o4, o5⟩ := add_words p1 p2 hb
    have ha1 := fun W : World => aAdd64 W p1.2.2.1 p2.2.2.1 (by decide) (by decide) f1 f2
    have ha2 := fun W : World => aAdd64 W p1.1 p2.1 c0 c1 f3 f4
    have OO := Lib.hid (And.intro o5 hswv)
    clear f1 f2 f3 f4 p1 p2 hb hswv o5
    have xX50 := X5.at (i := 0) (v := .int .i64 1) rfl
    have xX51 := X5.at (i := 1) (v := .bool s1) rfl
    have xX52 := X5.at (i := 2) (v := .int .u64 M1) rfl
    have xX53 := X5.at (i := 3) (v := .int .i64 E1) rfl
    have xX60 := X6.at (i := 0) (v := .int .i64 1) rfl
    have xX61 := X6.at (i := 1) (v := .bool s1) rfl
    have xX62 := X6.at (i := 2) (v := .int .u64 M2) rfl
    have xX63 := X6.at (i := 3) (v := .int .i64 E2) rfl
    have xX70 := X7.at (i := 0) (v := .bool s1) rfl
    have zX70 := X7.frozen 0
    have xX71 := X7.at (i := 1) (v := .int .u64 H1) rfl
    have zX71 := X7.frozen 1
    have xX72 := X7.at (i := 2) (v := .int .u64 L1) rfl
    have zX72 := X7.frozen 2
    have xX73 := X7.at (i := 3) (v := .int .i64 Z) rfl
    have zX73 := X7.frozen 3
    have xX80 := X8.at (i := 0) (v := .bool s1) rfl
    have xX81 := X8.at (i := 1) (v := .int .u64 H2) rfl
    have xX82 := X8.at (i := 2) (v := .int .u64 L2) rfl
    have xX83 := X8.at (i := 3) (v := .int .i64 Y) rfl
    go_upto_region 7 with (simp only [ha1])
    clear xX50 xX51 xX52 xX53 xX60 xX61 xX62 xX63 xX70 zX70 xX71 zX71 xX72 zX72 xX73 zX73 xX80 xX81 xX82 xX83
    have SX : StN w8 (World.setCell w8 ⟨w5.heap.size, 2, none⟩ (.int .u64 S)) _ _ #[.bool s1, .int .u64 H1, .int .u64 S, .int .i64 Z] _ := StN.at4 X7 2 (.int .u64 S)
    replace XR := XR.stn SX (by omega)
    replace X5 := X5.stn SX (by omega)
    replace X6 := X6.stn SX (by omega)
    replace X8 := X8.stn SX (by omega)
    replace HB := Lib.hid (SX.below HB.out (by omega))
    replace X7 := SX.box
    clear SX
    generalize World.setCell w8 ⟨w5.heap.size, 2, none⟩ (.int .u64 S) = w9 at *
    have xX70 := X7.at (i := 0) (v := .bool s1) rfl
    have zX70 := X7.frozen 0
    have xX71 := X7.at (i := 1) (v := .int .u64 H1) rfl
    have zX71 := X7.frozen 1
    have xX72 := X7.at (i := 2) (v := .int .u64 S) rfl
    have zX72 := X7.frozen 2
    have xX73 := X7.at (i := 3) (v := .int .i64 Z) rfl
    have zX73 := X7.frozen 3
    have xX80 := X8.at (i := 0) (v := .bool s1) rfl
    have xX81 := X8.at (i := 1) (v := .int .u64 H2) rfl
    have xX82 := X8.at (i := 2) (v := .int .u64 L2) rfl
    have xX83 := X8.at (i := 3) (v := .int .i64 Y) rfl
    go_upto_region 10 with (simp only [ha2])
    clear xX70 zX70 xX71 zX71 xX72 zX72 xX73 zX73 xX80 xX81 xX82 xX83
    have SX : StN w9 (World.setCell w9 ⟨w5.heap.size, 1, none⟩ (.int .u64 T)) _ _ #[.bool s1, .int .u64 T, .int .u64 S, .int .i64 Z] _ := StN.at4 X7 1 (.int .u64 T)
    replace XR := XR.stn SX (by omega)
    replace X5 := X5.stn SX (by omega)
    replace X6 := X6.stn SX (by omega)
    replace X8 := X8.stn SX (by omega)
    replace HB := Lib.hid (SX.below HB.out (by omega))
    replace X7 := SX.box
    clear SX
    generalize World.setCell w9 ⟨w5.heap.size, 1, none⟩ (.int .u64 T) = wA at *
    have xXR0 := XR.at (i := 0) (v := .bool false) rfl
    have zXR0 := XR.frozen 0
    have xXR1 := XR.at (i := 1) (v := .int .u64 0) rfl
    have zXR1 := XR.frozen 1
    have xXR2 := XR.at (i := 2) (v := .int .u64 0) rfl
    have zXR2 := XR.frozen 2
    have xXR3 := XR.at (i := 3) (v := .int .i64 0) rfl
    have zXR3 := XR.frozen 3
    have xX70 := X7.at (i := 0) (v := .bool s1) rfl
    have xX71 := X7.at (i := 1) (v := .int .u64 T) rfl
    have xX72 := X7.at (i := 2) (v := .int .u64 S) rfl
    have xX73 := X7.at (i := 3) (v := .int .i64 Z) rfl
    go_wp2
    clear xXR0 zXR0 xXR1 zXR1 xXR2 zXR2 xXR3 zXR3 xX70 xX71 xX72 xX73
    have SX := StN.mk4 XR (.bool s1) (.int .u64 T) (.int .u64 S) (.int .i64 Z)
    replace X5 := X5.stn SX (by omega)
    replace X6 := X6.stn SX (by omega)
    replace X7 := X7.stn SX (by omega)
    replace X8 := X8.stn SX (by omega)
    replace HB := Lib.hid (SX.below HB.out (by omega))
    replace XR := SX.box
    clear SX
    generalize (World.setCell (World.setCell (World.setCell (World.setCell wA ⟨w.heap.size + 1 + 1, 0, none⟩ (.bool s1)) ⟨w.heap.size + 1 + 1, 1, none⟩ (.int .u64 T)) ⟨w.heap.size + 1 + 1, 2, none⟩ (.int .u64 S)) ⟨w.heap.size + 1 + 1, 3, none⟩ (.int .i64 Z)) = wB at *
    have r0 := XR.cell 0
    have r1 := XR.cell 1
    have r2 := XR.cell 2
    have r3 := XR.cell 3
    exact bodyPost_ret (v := .agg #[.bool s1, .int .u64 T, .int .u64 S, .int .i64 Z]) (by simp [results, Tryd.results37, go_sem, r0, r1, r2, r3]) rfl ⟨_, _, _, _, rfl, wd_of o3 o4 o1 o2 OO.out.1 z1 z2 fun up => by rw [← HZ.out]; exact (OO.out.2 up (by first | rfl | trivial)).2.2, HB.out⟩
  · have hxor : (s1 != s2) = true := by cases s1 <;> cases s2 <;> first | rfl | exact absurd rfl hs
    have hne : (s1 == s2) = false := by cases s1 <;> cases s2 <;> first | rfl | exact absurd rfl hs
    have hswv := HSW.out (M1 * 9223372036854775808 - mvd M2 n)
    rw [hxor, wsg_t] at hswv
    have hb := (hswv true (by omega)).1
    obtain ⟨S, c, T, d, f1, f2, f3, f4, c0, c1, o1, o2, o3, o4, o5⟩ := sub_words p1 p2 hb
    have ha1 := fun W : World => aSub64 W p1.2.2.1 p1.2.2.2.1 p2.2.2.1 p2.2.2.2.1 (by decide) (by decide) f1 f2
    have ha2 := fun W : World => aSub64 W p1.1 p1.2.1 p2.1 p2.2.1 c0 c1 f3 f4
    have OO := Lib.hid (And.intro o5 hswv)
    clear f1 f2 f3 f4 p1 p2 hb hswv o5
    have xX50 := X5.at (i := 0) (v := .int .i64 1) rfl
    have xX51 := X5.at (i := 1) (v := .bool s1) rfl
    have xX52 := X5.at (i := 2) (v := .int .u64 M1) rfl
    have xX53 := X5.at (i := 3) (v := .int .i64 E1) rfl
    have xX60 := X6.at (i := 0) (v := .int .i64 1) rfl
    have xX61 := X6.at (i := 1) (v := .bool s2) rfl
    have xX62 := X6.at (i := 2) (v := .int .u64 M2) rfl
    have xX63 := X6.at (i := 3) (v := .int .i64 E2) rfl
    have xX70 := X7.at (i := 0) (v := .bool s1) rfl
    have zX70 := X7.frozen 0
    have xX71 := X7.at (i := 1) (v := .int .u64 H1) rfl
    have zX71 := X7.frozen 1
    have xX72 := X7.at (i := 2) (v := .int .u64 L1) rfl
    have zX72 := X7.frozen 2
    have xX73 := X7.at (i := 3) (v := .int .i64 Z) rfl
    have zX73 := X7.frozen 3
    have xX80 := X8.at (i := 0) (v := .bool s2) rfl
    have xX81 := X8.at (i := 1) (v := .int .u64 H2) rfl
    have xX82 := X8.at (i := 2) (v := .int .u64 L2) rfl
    have xX83 := X8.at (i := 3) (v := .int .i64 Y) rfl
    go_upto_region 9 with (simp only [ha1])
    clear xX50 xX51 xX52 xX53 xX60 xX61 xX62 xX63 xX70 zX70 xX71 zX71 xX72 zX72 xX73 zX73 xX80 xX81 xX82 xX83
    have SX : StN w8 (World.setCell w8 ⟨w5.heap.size, 2, none⟩ (.int .u64 S)) _ _ #[.bool s1, .int .u64 H1, .int .u64 S, .int .i64 Z] _ := StN.at4 X7 2 (.int .u64 S)
    replace XR := XR.stn SX (by omega)
    replace X5 := X5.stn SX (by omega)
    replace X6 := X6.stn SX (by omega)
    replace X8 := X8.stn SX (by omega)
    replace HB := Lib.hid (SX.below HB.out (by omega))
    replace X7 := SX.box
    clear SX
    generalize World.setCell w8 ⟨w5.heap.size, 2, none⟩ (.int .u64 S) = w9 at *
    have xX70 := X7.at (i := 0) (v := .bool s1) rfl
    have zX70 := X7.frozen 0
    have xX71 := X7.at (i := 1) (v := .int .u64 H1) rfl
    have zX71 := X7.frozen 1
    have xX72 := X7.at (i := 2) (v := .int .u64 S) rfl
    have zX72 := X7.frozen 2
    have xX73 := X7.at (i := 3) (v := .int .i64 Z) rfl
    have zX73 := X7.frozen 3
    have xX80 := X8.at (i := 0) (v := .bool s2) rfl
    have xX81 := X8.at (i := 1) (v := .int .u64 H2) rfl
    have xX82 := X8.at (i := 2) (v := .int .u64 L2) rfl
    have xX83 := X8.at (i := 3) (v := .int .i64 Y) rfl
    go_upto_region 10 with (simp only [ha2])
    clear xX70 zX70 xX71 zX71 xX72 zX72 xX73 zX73 xX80 xX81 xX82 xX83
    have SX : StN w9 (World.setCell w9 ⟨w5.heap.size, 1, none⟩ (.int .u64 T)) _ _ #[.bool s1, .int .u64 T, .int .u64 S, .int .i64 Z] _ := StN.at4 X7 1 (.int .u64 T)
    replace XR := XR.stn SX (by omega)
    replace X5 := X5.stn SX (by omega)
    replace X6 := X6.stn SX (by omega)
    replace X8 := X8.stn SX (by omega)
    replace HB := Lib.hid (SX.below HB.out (by omega))
    replace X7 := SX.box
    clear SX
    generalize World.setCell w9 ⟨w5.heap.size, 1, none⟩ (.int .u64 T) = wA at *
    have xXR0 := XR.at (i := 0) (v := .bool false) rfl
    have zXR0 := XR.frozen 0
    have xXR1 := XR.at (i := 1) (v := .int .u64 0) rfl
    have zXR1 := XR.frozen 1
    have xXR2 := XR.at (i := 2) (v := .int .u64 0) rfl
    have zXR2 := XR.frozen 2
    have xXR3 := XR.at (i := 3) (v := .int .i64 0) rfl
    have zXR3 := XR.frozen 3
    have xX70 := X7.at (i := 0) (v := .bool s1) rfl
    have xX71 := X7.at (i := 1) (v := .int .u64 T) rfl
    have xX72 := X7.at (i := 2) (v := .int .u64 S) rfl
    have xX73 := X7.at (i := 3) (v := .int .i64 Z) rfl
    go_wp2
    clear xXR0 zXR0 xXR1 zXR1 xXR2 zXR2 xXR3 zXR3 xX70 xX71 xX72 xX73
    have SX := StN.mk4 XR (.bool s1) (.int .u64 T) (.int .u64 S) (.int .i64 Z)
    replace X5 := X5.stn SX (by omega)
    replace X6 := X6.stn SX (by omega)
    replace X7 := X7.stn SX (by omega)
    replace X8 := X8.stn SX (by omega)
    replace HB := Lib.hid (SX.below HB.out (by omega))
    replace XR := SX.box
    clear SX
    generalize (World.setCell (World.setCell (World.setCell (World.setCell wA ⟨w.heap.size + 1 + 1, 0, none⟩ (.bool s1)) ⟨w.heap.size + 1 + 1, 1, none⟩ (.int .u64 T)) ⟨w.heap.size + 1 + 1, 2, none⟩ (.int .u64 S)) ⟨w.heap.size + 1 + 1, 3, none⟩ (.int .i64 Z)) = wB at *
    have r0 := XR.cell 0
    have r1 := XR.cell 1
    have r2 := XR.cell 2
    have r3 := XR.cell 3
    exact bodyPost_ret (v := .agg #[.bool s1, .int .u64 T, .int .u64 S, .int .i64 Z]) (by simp [results, Tryd.results37, go_sem, r0, r1, r2, r3]) rfl ⟨_, _, _, _, rfl, wd_of o3 o4 o1 o2 OO.out.1 z1 z2 fun up => by rw [← HZ.out]; exact (OO.out.2 up (by omega)).2.2, HB.out⟩
set_option maxHeartbeats 8000000 in
theorem sum_gt {w : World} {s1 s2 : Bool} {M1 M2 E1 E2 x y : Int} (hT : Tb w) (q1 : Fq 1 s1 M1 E1 x) (q2 : Fq 1 s2 M2 E2 y) (h : E2 < E1) : Calls Tryd.prog 37 #[.agg #[.int .i64 1, .bool s1, .int .u64 M1, .int .i64 E1], .agg #[.int .i64 1, .bool s2, .int .u64 M2, .int .i64 E2]] w (PW6 w fun up => addp up x y) := by
  obtain ⟨a1, a2, a3, a4, _⟩ := fq_vr q1
  obtain ⟨b1, b2, b3, b4, _⟩ := fq_vr q2
  have HO := Lib.hid (h)
  obtain ⟨n, hn⟩ : ∃ n : Nat, (n : Int) = E1 - E2 + 1 := ⟨(E1 - E2 + 1).toNat, by omega⟩
  have hsw : ∀ (S : Int) up, S = M1 * 9223372036854775808 + sgi (s1 != s2) (mvd M2 n) → 0 ≤ S ∧ S < 340282366920938463463374607431768211456 ∧ rnd up (mk (sgi s1 S) (E1 + 1 - 64)).1 (mk (sgi s1 S) (E1 + 1 - 64)).2 = addp up x y := fun S up hS => by
    obtain ⟨u1, u2, u3⟩ := sum_wide up q1 q2 (by omega) hn hS
    refine ⟨u1, u2, ?_⟩
    rw [show E1 + 1 - 64 = E1 - 63 by omega, u3]
  have HSW := Lib.hid hsw
  obtain ⟨N, hN⟩ : ∃ N, (n : Int) = N := ⟨_, rfl⟩
  obtain ⟨D, hD⟩ : ∃ D, E1 - E2 = D := ⟨_, rfl⟩
  have n1 : 1 ≤ n := by omega
  have n3 : n ≤ 4000000 := by omega
  have HN := Lib.hid hN
  have HD := Lib.hid (show IntKind.i64.wrap (E1 - E2) = D by rw [hD]; exact IntWalk.i64_in _ (by omega))
  have HD2 := Lib.hid (show IntKind.i64.wrap (D + 1) = N by rw [show D + 1 = N by omega]; exact IntWalk.i64_in _ (by omega))
  obtain ⟨Y, hY⟩ : ∃ Y, E2 + N = Y := ⟨_, rfl⟩
  have HY := Lib.hid hY
  obtain ⟨Z, hZ⟩ : ∃ Z, E1 + 1 = Z := ⟨_, rfl⟩
  have HZ := Lib.hid hZ
  have z1 : -2900000 ≤ Z := by omega
  have z2 : Z ≤ 2900000 := by omega
  have v1 : mvd M1 1 = M1 * 9223372036854775808 := by
    unfold mvd
    rw [if_pos (by decide)]
    rfl
  have HV1 := Lib.hid v1
  have g1 : 9223372036854775808 ≤ M1 := by omega
  have g2 : M1 < 18446744073709551616 := by omega
  have g3 : -2000000 ≤ E1 := by omega
  have g4 : E1 ≤ 2000000 := by omega
  have k1 : 9223372036854775808 ≤ M2 := by omega
  have k2 : M2 < 18446744073709551616 := by omega
  have k3 : -2000000 ≤ E2 := by omega
  have k4 : E2 ≤ 2000000 := by omega
  clear hn hN hD hY hZ v1 hsw h q1 q2 a1 a2 a3 a4 b1 b2 b3 b4
  go_enter Tryd.func37, Tryd.ntmps37
  go_upto_region 1 with (fail)
  have X2 := (Bo.newAt w (g := w.heap.size) (by simp) #[.int .i64 1, .bool s1, .int .u64 M1, .int .i64 E1] 24).below (bel2 _ (.cells #[.int .i64 1, .bool s2, .int .u64 M2, .int .i64 E2] 24) (.cells #[.bool false, .int .u64 0, .int .u64 0, .int .i64 0] 53))
  have X3 := (Bo.newAt (w.alloc (.cells #[.int .i64 1, .bool s1, .int .u64 M1, .int .i64 E1] 24)) (g := w.heap.size + 1) (by simp) #[.int .i64 1, .bool s2, .int .u64 M2, .int .i64 E2] 24).below (bel1 _ (.cells #[.bool false, .int .u64 0, .int .u64 0, .int .i64 0] 53))
  have XR := (Bo.newAt ((w.alloc (.cells #[.int .i64 1, .bool s1, .int .u64 M1, .int .i64 E1] 24)).alloc (.cells #[.int .i64 1, .bool s2, .int .u64 M2, .int .i64 E2] 24)) (g := w.heap.size + 1 + 1) (by simp) #[.bool false, .int .u64 0, .int .u64 0, .int .i64 0] 53)
  have HB := Lib.hid (bel3 w (.cells #[.int .i64 1, .bool s1, .int .u64 M1, .int .i64 E1] 24) (.cells #[.int .i64 1, .bool s2, .int .u64 M2, .int .i64 E2] 24) (.cells #[.bool false, .int .u64 0, .int .u64 0, .int .i64 0] 53))
  replace hT := hT.below HB.out
  generalize hW1 : (((w.alloc (.cells #[.int .i64 1, .bool s1, .int .u64 M1, .int .i64 E1] 24)).alloc (.cells #[.int .i64 1, .bool s2, .int .u64 M2, .int .i64 E2] 24)).alloc (.cells #[.bool false, .int .u64 0, .int .u64 0, .int .i64 0] 53)) = w1 at *
  clear hW1
  have xX20 := X2.at (i := 0) (v := .int .i64 1) rfl
  have xX21 := X2.at (i := 1) (v := .bool s1) rfl
  have xX22 := X2.at (i := 2) (v := .int .u64 M1) rfl
  have xX23 := X2.at (i := 3) (v := .int .i64 E1) rfl
  have xX30 := X3.at (i := 0) (v := .int .i64 1) rfl
  have xX31 := X3.at (i := 1) (v := .bool s2) rfl
  have xX32 := X3.at (i := 2) (v := .int .u64 M2) rfl
  have xX33 := X3.at (i := 3) (v := .int .i64 E2) rfl
  go_wp2_with fail
  refine (order_gt HO.out).mono ?_
  rintro ee w2 ⟨rfl, B⟩
  clear xX20 xX21 xX22 xX23 xX30 xX31 xX32 xX33
  replace X2 := X2.below B
  replace X3 := X3.below B
  replace XR := XR.below B
  replace hT := hT.below B
  replace HB := Lib.hid (bt HB.out B)
  clear B
  go_upto_region 2 with (fail)
  clear X2 X3
  have hsz : (World.alloc w2 (.cells #[.int .i64 1, .bool s1, .int .u64 M1, .int .i64 E1] 24)).heap.size = w2.heap.size + 1 := by simp
  have lX5 := Nat.le_refl (World.heap w2).size
  have nX5XR := XR.lt
  replace XR := XR.below (bel1 _ (.cells #[.int .i64 1, .bool s1, .int .u64 M1, .int .i64 E1] 24))
  replace hT := hT.below (bel1 _ (.cells #[.int .i64 1, .bool s1, .int .u64 M1, .int .i64 E1] 24))
  replace HB := Lib.hid (bt HB.out (bel1 _ (.cells #[.int .i64 1, .bool s1, .int .u64 M1, .int .i64 E1] 24)))
  have X5 := Bo.new w2 #[.int .i64 1, .bool s1, .int .u64 M1, .int .i64 E1] 24
  generalize hWn : World.alloc w2 (.cells #[.int .i64 1, .bool s1, .int .u64 M1, .int .i64 E1] 24) = w3 at *
  clear hWn
  have lX6 := Nat.le_refl (World.heap w3).size
  have nX6XR := XR.lt
  have nX6X5 := X5.lt
  replace XR := XR.below (bel1 _ (.cells #[.int .i64 1, .bool s2, .int .u64 M2, .int .i64 E2] 24))
  replace X5 := X5.below (bel1 _ (.cells #[.int .i64 1, .bool s2, .int .u64 M2, .int .i64 E2] 24))
  replace hT := hT.below (bel1 _ (.cells #[.int .i64 1, .bool s2, .int .u64 M2, .int .i64 E2] 24))
  replace HB := Lib.hid (bt HB.out (bel1 _ (.cells #[.int .i64 1, .bool s2, .int .u64 M2, .int .i64 E2] 24)))
  have X6 := Bo.new w3 #[.int .i64 1, .bool s2, .int .u64 M2, .int .i64 E2] 24
  generalize hWn : World.alloc w3 (.cells #[.int .i64 1, .bool s2, .int .u64 M2, .int .i64 E2] 24) = w4 at *
  clear hWn
  rw [hsz] at X6 nX6X5 nX6XR
  clear lX5 lX6 hsz
  have xX50 := X5.at (i := 0) (v := .int .i64 1) rfl
  have xX51 := X5.at (i := 1) (v := .bool s1) rfl
  have xX52 := X5.at (i := 2) (v := .int .u64 M1) rfl
  have xX53 := X5.at (i := 3) (v := .int .i64 E1) rfl
  go_wp2_with fail
  refine (aMoved (n := 1) (s := s1) hT g1 g2 (by rfl) HZ.out g3 g4 (by decide) (by decide)).mono ?_
  rintro ee w5 ⟨H1, L1, rfl, p1, B⟩
  clear xX50 xX51 xX52 xX53
  replace XR := XR.below B
  replace X5 := X5.below B
  replace X6 := X6.below B
  replace hT := hT.below B
  replace HB := Lib.hid (bt HB.out B)
  clear B
  rw [HV1.out] at p1
  go_upto_region 3 with (fail)
  have lX7 := Nat.le_refl (World.heap w5).size
  have nX7XR := XR.lt
  have nX7X5 := X5.lt
  have nX7X6 := X6.lt
  replace XR := XR.below (bel1 _ (.cells #[.bool s1, .int .u64 H1, .int .u64 L1, .int .i64 Z] 53))
  replace X5 := X5.below (bel1 _ (.cells #[.bool s1, .int .u64 H1, .int .u64 L1, .int .i64 Z] 53))
  replace X6 := X6.below (bel1 _ (.cells #[.bool s1, .int .u64 H1, .int .u64 L1, .int .i64 Z] 53))
  replace hT := hT.below (bel1 _ (.cells #[.bool s1, .int .u64 H1, .int .u64 L1, .int .i64 Z] 53))
  replace HB := Lib.hid (bt HB.out (bel1 _ (.cells #[.bool s1, .int .u64 H1, .int .u64 L1, .int .i64 Z] 53)))
  have X7 := Bo.new w5 #[.bool s1, .int .u64 H1, .int .u64 L1, .int .i64 Z] 53
  generalize hWn : World.alloc w5 (.cells #[.bool s1, .int .u64 H1, .int .u64 L1, .int .i64 Z] 53) = w6 at *
  clear hWn
  clear lX7
  have xX50 := X5.at (i := 0) (v := .int .i64 1) rfl
  have xX51 := X5.at (i := 1) (v := .bool s1) rfl
  have xX52 := X5.at (i := 2) (v := .int .u64 M1) rfl
  have xX53 := X5.at (i := 3) (v := .int .i64 E1) rfl
  have xX60 := X6.at (i := 0) (v := .int .i64 1) rfl
  have xX61 := X6.at (i := 1) (v := .bool s2) rfl
  have xX62 := X6.at (i := 2) (v := .int .u64 M2) rfl
  have xX63 := X6.at (i := 3) (v := .int .i64 E2) rfl
  have hd := HD.out
  have hd2 := HD2.out
  go_wp2_with fail
  refine (aMoved (s := s2) hT k1 k2 HN.out HY.out k3 k4 n1 n3).mono ?_
  rintro ee w7 ⟨H2, L2, rfl, p2, B⟩
  clear xX50 xX51 xX52 xX53 xX60 xX61 xX62 xX63
  replace XR := XR.below B
  replace X5 := X5.below B
  replace X6 := X6.below B
  replace X7 := X7.below B
  replace hT := hT.below B
  replace HB := Lib.hid (bt HB.out B)
  clear B
  clear hd hd2
  go_upto_region 5 with (fail)
  have lX8 := Nat.le_refl (World.heap w7).size
  have nX8XR := XR.lt
  have nX8X5 := X5.lt
  have nX8X6 := X6.lt
  have nX8X7 := X7.lt
  replace XR := XR.below (bel1 _ (.cells #[.bool s2, .int .u64 H2, .int .u64 L2, .int .i64 Y] 53))
  replace X5 := X5.below (bel1 _ (.cells #[.bool s2, .int .u64 H2, .int .u64 L2, .int .i64 Y] 53))
  replace X6 := X6.below (bel1 _ (.cells #[.bool s2, .int .u64 H2, .int .u64 L2, .int .i64 Y] 53))
  replace X7 := X7.below (bel1 _ (.cells #[.bool s2, .int .u64 H2, .int .u64 L2, .int .i64 Y] 53))
  replace hT := hT.below (bel1 _ (.cells #[.bool s2, .int .u64 H2, .int .u64 L2, .int .i64 Y] 53))
  replace HB := Lib.hid (bt HB.out (bel1 _ (.cells #[.bool s2, .int .u64 H2, .int .u64 L2, .int .i64 Y] 53)))
  have X8 := Bo.new w7 #[.bool s2, .int .u64 H2, .int .u64 L2, .int .i64 Y] 53
  generalize hWn : World.alloc w7 (.cells #[.bool s2, .int .u64 H2, .int .u64 L2, .int .i64 Y] 53) = w8 at *
  clear hWn
  clear lX8
  by_cases hs : s1 = s2
  · subst hs
    have hxor : (s1 != s1) = false := by cases s1 <;> rfl
    have hswv := HSW.out (M1 * 9223372036854775808 + mvd M2 n)
    rw [hxor, wsg_f] at hswv
    have hb := (hswv true rfl).2.1
    obtain ⟨S, c, T, d, f1, f2, f3, f4, c0, c1, o1, o2, o3, o4, o5⟩ := add_words p1 p2 hb
    have ha1 := fun W : World => aAdd64 W p1.2.2.1 p2.2.2.1 (by decide) (by decide) f1 f2
    have ha2 := fun W : World => aAdd64 W p1.1 p2.1 c0 c1 f3 f4
    have OO := Lib.hid (And.intro o5 hswv)
    clear f1 f2 f3 f4 p1 p2 hb hswv o5
    have xX50 := X5.at (i := 0) (v := .int .i64 1) rfl
    have xX51 := X5.at (i := 1) (v := .bool s1) rfl
    have xX52 := X5.at (i := 2) (v := .int .u64 M1) rfl
    have xX53 := X5.at (i := 3) (v := .int .i64 E1) rfl
    have xX60 := X6.at (i := 0) (v := .int .i64 1) rfl
    have xX61 := X6.at (i := 1) (v := .bool s1) rfl
    have xX62 := X6.at (i := 2) (v := .int .u64 M2) rfl
    have xX63 := X6.at (i := 3) (v := .int .i64 E2) rfl
    have xX70 := X7.at (i := 0) (v := .bool s1) rfl
    have zX70 := X7.frozen 0
    have xX71 := X7.at (i := 1) (v := .int .u64 H1) rfl
    have zX71 := X7.frozen 1
    have xX72 := X7.at (i := 2) (v := .int .u64 L1) rfl
    have zX72 := X7.frozen 2
    have xX73 := X7.at (i := 3) (v := .int .i64 Z) rfl
    have zX73 := X7.frozen 3
    have xX80 := X8.at (i := 0) (v := .bool s1) rfl
    have xX81 := X8.at (i := 1) (v := .int .u64 H2) rfl
    have xX82 := X8.at (i := 2) (v := .int .u64 L2) rfl
    have xX83 := X8.at (i := 3) (v := .int .i64 Y) rfl
    go_upto_region 7 with (simp only [ha1])
    clear xX50 xX51 xX52 xX53 xX60 xX61 xX62 xX63 xX70 zX70 xX71 zX71 xX72 zX72 xX73 zX73 xX80 xX81 xX82 xX83
    have SX : StN w8 (World.setCell w8 ⟨w5.heap.size, 2, none⟩ (.int .u64 S)) _ _ #[.bool s1, .int .u64 H1, .int .u64 S, .int .i64 Z] _ := StN.at4 X7 2 (.int .u64 S)
    replace XR := XR.stn SX (by omega)
    replace X5 := X5.stn SX (by omega)
    replace X6 := X6.stn SX (by omega)
    replace X8 := X8.stn SX (by omega)
    replace HB := Lib.hid (SX.below HB.out (by omega))
    replace X7 := SX.box
    clear SX
    generalize World.setCell w8 ⟨w5.heap.size, 2, none⟩ (.int .u64 S) = w9 at *
    have xX70 := X7.at (i := 0) (v := .bool s1) rfl
    have zX70 := X7.frozen 0
    have xX71 := X7.at (i := 1) (v := .int .u64 H1) rfl
    have zX71 := X7.frozen 1
    have xX72 := X7.at (i := 2) (v := .int .u64 S) rfl
    have zX72 := X7.frozen 2
    have xX73 := X7.at (i := 3) (v := .int .i64 Z) rfl
    have zX73 := X7.frozen 3
    have xX80 := X8.at (i := 0) (v := .bool s1) rfl
    have xX81 := X8.at (i := 1) (v := .int .u64 H2) rfl
    have xX82 := X8.at (i := 2) (v := .int .u64 L2) rfl
    have xX83 := X8.at (i := 3) (v := .int .i64 Y) rfl
    go_upto_region 10 with (simp only [ha2])
    clear xX70 zX70 xX71 zX71 xX72 zX72 xX73 zX73 xX80 xX81 xX82 xX83
    have SX : StN w9 (World.setCell w9 ⟨w5.heap.size, 1, none⟩ (.int .u64 T)) _ _ #[.bool s1, .int .u64 T, .int .u64 S, .int .i64 Z] _ := StN.at4 X7 1 (.int .u64 T)
    replace XR := XR.stn SX (by omega)
    replace X5 := X5.stn SX (by omega)
    replace X6 := X6.stn SX (by omega)
    replace X8 := X8.stn SX (by omega)
    replace HB := Lib.hid (SX.below HB.out (by omega))
    replace X7 := SX.box
    clear SX
    generalize World.setCell w9 ⟨w5.heap.size, 1, none⟩ (.int .u64 T) = wA at *
    have xXR0 := XR.at (i := 0) (v := .bool false) rfl
    have zXR0 := XR.frozen 0
    have xXR1 := XR.at (i := 1) (v := .int .u64 0) rfl
    have zXR1 := XR.frozen 1
    have xXR2 := XR.at (i := 2) (v := .int .u64 0) rfl
    have zXR2 := XR.frozen 2
    have xXR3 := XR.at (i := 3) (v := .int .i64 0) rfl
    have zXR3 := XR.frozen 3
    have xX70 := X7.at (i := 0) (v := .bool s1) rfl
    have xX71 := X7.at (i := 1) (v := .int .u64 T) rfl
    have xX72 := X7.at (i := 2) (v := .int .u64 S) rfl
    have xX73 := X7.at (i := 3) (v := .int .i64 Z) rfl
    go_wp2
    clear xXR0 zXR0 xXR1 zXR1 xXR2 zXR2 xXR3 zXR3 xX70 xX71 xX72 xX73
    have SX := StN.mk4 XR (.bool s1) (.int .u64 T) (.int .u64 S) (.int .i64 Z)
    replace X5 := X5.stn SX (by omega)
    replace X6 := X6.stn SX (by omega)
    replace X7 := X7.stn SX (by omega)
    replace X8 := X8.stn SX (by omega)
    replace HB := Lib.hid (SX.below HB.out (by omega))
    replace XR := SX.box
    clear SX
    generalize (World.setCell (World.setCell (World.setCell (World.setCell wA ⟨w.heap.size + 1 + 1, 0, none⟩ (.bool s1)) ⟨w.heap.size + 1 + 1, 1, none⟩ (.int .u64 T)) ⟨w.heap.size + 1 + 1, 2, none⟩ (.int .u64 S)) ⟨w.heap.size + 1 + 1, 3, none⟩ (.int .i64 Z)) = wB at *
    have r0 := XR.cell 0
    have r1 := XR.cell 1
    have r2 := XR.cell 2
    have r3 := XR.cell 3
    exact bodyPost_ret (v := .agg #[.bool s1, .int .u64 T, .int .u64 S, .int .i64 Z]) (by simp [results, Tryd.results37, go_sem, r0, r1, r2, r3]) rfl ⟨_, _, _, _, rfl, wd_of o3 o4 o1 o2 OO.out.1 z1 z2 fun up => by rw [← HZ.out]; exact (OO.out.2 up (by first | rfl | trivial)).2.2, HB.out⟩
  · have hxor : (s1 != s2) = true := by cases s1 <;> cases s2 <;> first | rfl | exact absurd rfl hs
    have hne : (s1 == s2) = false := by cases s1 <;> cases s2 <;> first | rfl | exact absurd rfl hs
    have hswv := HSW.out (M1 * 9223372036854775808 - mvd M2 n)
    rw [hxor, wsg_t] at hswv
    have hb := (hswv true (by omega)).1
    obtain ⟨S, c, T, d, f1, f2, f3, f4, c0, c1, o1, o2, o3, o4, o5⟩ := sub_words p1 p2 hb
    have ha1 := fun W : World => aSub64 W p1.2.2.1 p1.2.2.2.1 p2.2.2.1 p2.2.2.2.1 (by decide) (by decide) f1 f2
    have ha2 := fun W : World => aSub64 W p1.1 p1.2.1 p2.1 p2.2.1 c0 c1 f3 f4
    have OO := Lib.hid (And.intro o5 hswv)
    clear f1 f2 f3 f4 p1 p2 hb hswv o5
    have xX50 := X5.at (i := 0) (v := .int .i64 1) rfl
    have xX51 := X5.at (i := 1) (v := .bool s1) rfl
    have xX52 := X5.at (i := 2) (v := .int .u64 M1) rfl
    have xX53 := X5.at (i := 3) (v := .int .i64 E1) rfl
    have xX60 := X6.at (i := 0) (v := .int .i64 1) rfl
    have xX61 := X6.at (i := 1) (v := .bool s2) rfl
    have xX62 := X6.at (i := 2) (v := .int .u64 M2) rfl
    have xX63 := X6.at (i := 3) (v := .int .i64 E2) rfl
    have xX70 := X7.at (i := 0) (v := .bool s1) rfl
    have zX70 := X7.frozen 0
    have xX71 := X7.at (i := 1) (v := .int .u64 H1) rfl
    have zX71 := X7.frozen 1
    have xX72 := X7.at (i := 2) (v := .int .u64 L1) rfl
    have zX72 := X7.frozen 2
    have xX73 := X7.at (i := 3) (v := .int .i64 Z) rfl
    have zX73 := X7.frozen 3
    have xX80 := X8.at (i := 0) (v := .bool s2) rfl
    have xX81 := X8.at (i := 1) (v := .int .u64 H2) rfl
    have xX82 := X8.at (i := 2) (v := .int .u64 L2) rfl
    have xX83 := X8.at (i := 3) (v := .int .i64 Y) rfl
    go_upto_region 9 with (simp only [ha1])
    clear xX50 xX51 xX52 xX53 xX60 xX61 xX62 xX63 xX70 zX70 xX71 zX71 xX72 zX72 xX73 zX73 xX80 xX81 xX82 xX83
    have SX : StN w8 (World.setCell w8 ⟨w5.heap.size, 2, none⟩ (.int .u64 S)) _ _ #[.bool s1, .int .u64 H1, .int .u64 S, .int .i64 Z] _ := StN.at4 X7 2 (.int .u64 S)
    replace XR := XR.stn SX (by omega)
    replace X5 := X5.stn SX (by omega)
    replace X6 := X6.stn SX (by omega)
    replace X8 := X8.stn SX (by omega)
    replace HB := Lib.hid (SX.below HB.out (by omega))
    replace X7 := SX.box
    clear SX
    generalize World.setCell w8 ⟨w5.heap.size, 2, none⟩ (.int .u64 S) = w9 at *
    have xX70 := X7.at (i := 0) (v := .bool s1) rfl
    have zX70 := X7.frozen 0
    have xX71 := X7.at (i := 1) (v := .int .u64 H1) rfl
    have zX71 := X7.frozen 1
    have xX72 := X7.at (i := 2) (v := .int .u64 S) rfl
    have zX72 := X7.frozen 2
    have xX73 := X7.at (i := 3) (v := .int .i64 Z) rfl
    have zX73 := X7.frozen 3
    have xX80 := X8.at (i := 0) (v := .bool s2) rfl
    have xX81 := X8.at (i := 1) (v := .int .u64 H2) rfl
    have xX82 := X8.at (i := 2) (v := .int .u64 L2) rfl
    have xX83 := X8.at (i := 3) (v := .int .i64 Y) rfl
    go_upto_region 10 with (simp only [ha2])
    clear xX70 zX70 xX71 zX71 xX72 zX72 xX73 zX73 xX80 xX81 xX82 xX83
    have SX : StN w9 (World.setCell w9 ⟨w5.heap.size, 1, none⟩ (.int .u64 T)) _ _ #[.bool s1, .int .u64 T, .int .u64 S, .int .i64 Z] _ := StN.at4 X7 1 (.int .u64 T)
    replace XR := XR.stn SX (by omega)
    replace X5 := X5.stn SX (by omega)
    replace X6 := X6.stn SX (by omega)
    replace X8 := X8.stn SX (by omega)
    replace HB := Lib.hid (SX.below HB.out (by omega))
    replace X7 := SX.box
    clear SX
    generalize World.setCell w9 ⟨w5.heap.size, 1, none⟩ (.int .u64 T) = wA at *
    have xXR0 := XR.at (i := 0) (v := .bool false) rfl
    have zXR0 := XR.frozen 0
    have xXR1 := XR.at (i := 1) (v := .int .u64 0) rfl
    have zXR1 := XR.frozen 1
    have xXR2 := XR.at (i := 2) (v := .int .u64 0) rfl
    have zXR2 := XR.frozen 2
    have xXR3 := XR.at (i := 3) (v := .int .i64 0) rfl
    have zXR3 := XR.frozen 3
    have xX70 := X7.at (i := 0) (v := .bool s1) rfl
    have xX71 := X7.at (i := 1) (v := .int .u64 T) rfl
    have xX72 := X7.at (i := 2) (v := .int .u64 S) rfl
    have xX73 := X7.at (i := 3) (v := .int .i64 Z) rfl
    go_wp2
    clear xXR0 zXR0 xXR1 zXR1 xXR2 zXR2 xXR3 zXR3 xX70 xX71 xX72 xX73
    have SX := StN.mk4 XR (.bool s1) (.int .u64 T) (.int .u64 S) (.int .i64 Z)
    replace X5 := X5.stn SX (by omega)
    replace X6 := X6.stn SX (by omega)
    replace X7 := X7.stn SX (by omega)
    replace X8 := X8.stn SX (by omega)
    replace HB := Lib.hid (SX.below HB.out (by omega))
    replace XR := SX.box
    clear SX
    generalize (World.setCell (World.setCell (World.setCell (World.setCell wA ⟨w.heap.size + 1 + 1, 0, none⟩ (.bool s1)) ⟨w.heap.size + 1 + 1, 1, none⟩ (.int .u64 T)) ⟨w.heap.size + 1 + 1, 2, none⟩ (.int .u64 S)) ⟨w.heap.size + 1 + 1, 3, none⟩ (.int .i64 Z)) = wB at *
    have r0 := XR.cell 0
    have r1 := XR.cell 1
    have r2 := XR.cell 2
    have r3 := XR.cell 3
    exact bodyPost_ret (v := .agg #[.bool s1, .int .u64 T, .int .u64 S, .int .i64 Z]) (by simp [results, Tryd.results37, go_sem, r0, r1, r2, r3]) rfl ⟨_, _, _, _, rfl, wd_of o3 o4 o1 o2 OO.out.1 z1 z2 fun up => by rw [← HZ.out]; exact (OO.out.2 up (by omega)).2.2, HB.out⟩
theorem aSum2 {w : World} {s1 s2 : Bool} {M1 M2 E1 E2 x y : Int} (hT : Tb w) (q1 : Fq 1 s1 M1 E1 x) (q2 : Fq 1 s2 M2 E2 y) : Calls Tryd.prog 37 #[.agg #[.int .i64 1, .bool s1, .int .u64 M1, .int .i64 E1], .agg #[.int .i64 1, .bool s2, .int .u64 M2, .int .i64 E2]] w (PW6 w fun up => addp up x y) := by
  rcases Int.lt_trichotomy E1 E2 with h | h | h
  · exact sum_lt hT q1 q2 h
  · by_cases hm : M1 < M2
    · exact sum_eqlt hT q1 q2 h hm
    · exact sum_eqge hT q1 q2 h hm
  · exact sum_gt hT q1 q2 h
set_option maxHeartbeats 4000000 in
theorem aProduct {w : World} {s1 s2 : Bool} {M1 M2 E1 E2 x y : Int} (q1 : Fq 1 s1 M1 E1 x) (q2 : Fq 1 s2 M2 E2 y) : Calls Tryd.prog 45 #[.agg #[.int .i64 1, .bool s1, .int .u64 M1, .int .i64 E1], .agg #[.int .i64 1, .bool s2, .int .u64 M2, .int .i64 E2]] w (PW6 w fun up => mulp up x y) := by
  obtain ⟨a1, a2, a3, a4, _⟩ := fq_vr q1
  obtain ⟨b1, b2, b3, b4, _⟩ := fq_vr q2
  obtain ⟨u1, u2, _⟩ := pro_wide true q1 q2
  have HU := Lib.hid (fun up => (pro_wide up q1 q2).2.2)
  obtain ⟨G, hG⟩ : ∃ G, E1 + E2 = G := ⟨_, rfl⟩
  obtain ⟨Z, hZ⟩ : ∃ Z, G + 64 = Z := ⟨_, rfl⟩
  have HG := Lib.hid (show IntKind.i64.wrap (E1 + E2) = G by rw [hG]; exact IntWalk.i64_in _ (by omega))
  have HZ := Lib.hid (show IntKind.i64.wrap (G + 64) = Z by rw [hZ]; exact IntWalk.i64_in _ (by omega))
  have HGZ := Lib.hid (And.intro hG hZ)
  obtain ⟨H, hH⟩ : ∃ H, M1 * M2 / 18446744073709551616 = H := ⟨_, rfl⟩
  obtain ⟨L, hL⟩ : ∃ L, M1 * M2 % 18446744073709551616 = L := ⟨_, rfl⟩
  have z1 : -2900000 ≤ Z := by omega
  have z2 : Z ≤ 2900000 := by omega
  have HV : Hid (0 ≤ H ∧ H < 18446744073709551616 ∧ 0 ≤ L ∧ L < 18446744073709551616 ∧ H * 18446744073709551616 + L = M1 * M2) := Lib.hid (by
    revert u1 u2 hH hL
    generalize M1 * M2 = P
    intro u1 u2 hH hL
    omega)
  have HH := Lib.hid hH
  have HL := Lib.hid hL
  have k1 : 0 ≤ M1 := by omega
  have k2 : 0 ≤ M2 := by omega
  clear u1 u2 hH hL hG hZ q1 q2 a1 a3 a4 b1 b3 b4
  go_enter Tryd.func45, Tryd.ntmps45
  go_upto_region 1 with (fail)
  have X2 := (Bo.newAt w (g := w.heap.size) (by simp) #[.int .i64 1, .bool s1, .int .u64 M1, .int .i64 E1] 24).below (bel2 _ (.cells #[.int .i64 1, .bool s2, .int .u64 M2, .int .i64 E2] 24) (.cells #[.bool false, .int .u64 0, .int .u64 0, .int .i64 0] 53))
  have X3 := (Bo.newAt (w.alloc (.cells #[.int .i64 1, .bool s1, .int .u64 M1, .int .i64 E1] 24)) (g := w.heap.size + 1) (by simp) #[.int .i64 1, .bool s2, .int .u64 M2, .int .i64 E2] 24).below (bel1 _ (.cells #[.bool false, .int .u64 0, .int .u64 0, .int .i64 0] 53))
  have XR := (Bo.newAt ((w.alloc (.cells #[.int .i64 1, .bool s1, .int .u64 M1, .int .i64 E1] 24)).alloc (.cells #[.int .i64 1, .bool s2, .int .u64 M2, .int .i64 E2] 24)) (g := w.heap.size + 1 + 1) (by simp) #[.bool false, .int .u64 0, .int .u64 0, .int .i64 0] 53)
  have HB := Lib.hid (bel3 w (.cells #[.int .i64 1, .bool s1, .int .u64 M1, .int .i64 E1] 24) (.cells #[.int .i64 1, .bool s2, .int .u64 M2, .int .i64 E2] 24) (.cells #[.bool false, .int .u64 0, .int .u64 0, .int .i64 0] 53))
  generalize hW1 : (((w.alloc (.cells #[.int .i64 1, .bool s1, .int .u64 M1, .int .i64 E1] 24)).alloc (.cells #[.int .i64 1, .bool s2, .int .u64 M2, .int .i64 E2] 24)).alloc (.cells #[.bool false, .int .u64 0, .int .u64 0, .int .i64 0] 53)) = w1 at *
  clear hW1
  have xX20 := X2.at (i := 0) (v := .int .i64 1) rfl
  have xX21 := X2.at (i := 1) (v := .bool s1) rfl
  have xX22 := X2.at (i := 2) (v := .int .u64 M1) rfl
  have xX23 := X2.at (i := 3) (v := .int .i64 E1) rfl
  have xX30 := X3.at (i := 0) (v := .int .i64 1) rfl
  have xX31 := X3.at (i := 1) (v := .bool s2) rfl
  have xX32 := X3.at (i := 2) (v := .int .u64 M2) rfl
  have xX33 := X3.at (i := 3) (v := .int .i64 E2) rfl
  go_wp2_with fail
  refine (aMul64 _ k1 a2 k2 b2 HH.out HL.out).mono ?_
  rintro ee w2 ⟨rfl, B⟩
  clear xX20 xX21 xX22 xX23 xX30 xX31 xX32 xX33
  replace X2 := X2.below B
  replace X3 := X3.below B
  replace XR := XR.below B
  replace HB := Lib.hid (bt HB.out B)
  clear B
  have hg := HG.out
  have hz := HZ.out
  have xXR0 := XR.at (i := 0) (v := .bool false) rfl
  have zXR0 := XR.frozen 0
  have xXR1 := XR.at (i := 1) (v := .int .u64 0) rfl
  have zXR1 := XR.frozen 1
  have xXR2 := XR.at (i := 2) (v := .int .u64 0) rfl
  have zXR2 := XR.frozen 2
  have xXR3 := XR.at (i := 3) (v := .int .i64 0) rfl
  have zXR3 := XR.frozen 3
  have xX20 := X2.at (i := 0) (v := .int .i64 1) rfl
  have xX21 := X2.at (i := 1) (v := .bool s1) rfl
  have xX22 := X2.at (i := 2) (v := .int .u64 M1) rfl
  have xX23 := X2.at (i := 3) (v := .int .i64 E1) rfl
  have xX30 := X3.at (i := 0) (v := .int .i64 1) rfl
  have xX31 := X3.at (i := 1) (v := .bool s2) rfl
  have xX32 := X3.at (i := 2) (v := .int .u64 M2) rfl
  have xX33 := X3.at (i := 3) (v := .int .i64 E2) rfl
  go_wp2
  clear xXR0 zXR0 xXR1 zXR1 xXR2 zXR2 xXR3 zXR3 xX20 xX21 xX22 xX23 xX30 xX31 xX32 xX33
  have SX := StN.mk4 XR (.bool (!(s1 == s2))) (.int .u64 H) (.int .u64 L) (.int .i64 Z)
  replace X2 := X2.stn SX (by omega)
  replace X3 := X3.stn SX (by omega)
  replace HB := Lib.hid (SX.below HB.out (by omega))
  replace XR := SX.box
  clear SX
  generalize (World.setCell (World.setCell (World.setCell (World.setCell w2 ⟨w.heap.size + 1 + 1, 0, none⟩ (.bool (!(s1 == s2)))) ⟨w.heap.size + 1 + 1, 1, none⟩ (.int .u64 H)) ⟨w.heap.size + 1 + 1, 2, none⟩ (.int .u64 L)) ⟨w.heap.size + 1 + 1, 3, none⟩ (.int .i64 Z)) = w3 at *
  have r0 := XR.cell 0
  have r1 := XR.cell 1
  have r2 := XR.cell 2
  have r3 := XR.cell 3
  exact bodyPost_ret (v := .agg #[.bool (!(s1 == s2)), .int .u64 H, .int .u64 L, .int .i64 Z]) (by simp [results, Tryd.results45, go_sem, r0, r1, r2, r3]) rfl ⟨_, _, _, _, rfl, wd_of HV.out.1 HV.out.2.1 HV.out.2.2.1 HV.out.2.2.2.1 HV.out.2.2.2.2 z1 z2 fun up => by rw [← HU.out up, show (!(s1 == s2)) = (s1 != s2) from rfl, show Z - 64 = E1 + E2 by have := HGZ.out; omega], HB.out⟩
end Go.Proofs.YtbhnpmkdmnnclaaDoor

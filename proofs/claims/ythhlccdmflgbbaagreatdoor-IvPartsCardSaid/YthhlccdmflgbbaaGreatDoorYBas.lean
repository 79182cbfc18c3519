/-
  Contracts and words that the statement's proof rests on, several texts in one: Hg, Hh, Hi, Hj, Hk, Cb.
-/
import Derived.Test.YthhlccdmflgbbaaGreatDoorYBaq
import Derived.Test.YthhlccdmflgbbaaGreatDoorYBar
/-
  What the sum and the product of two finite numbers within 128 bits are.
-/
namespace Go.Proofs.YthhlccdmflgbbaaGreatDoor
open Go.RowKit
set_option linter.unusedVariables false
set_option linter.unusedSimpArgs false
set_option maxRecDepth 100000

theorem wd_of {s : Bool} {H L e V : Int} {f : Bool → Int} (hH : 0 ≤ H) (hH2 : H < 18446744073709551616) (hL : 0 ≤ L) (hL2 : L < 18446744073709551616) (hV : H * 18446744073709551616 + L = V) (e1 : -2900000 ≤ e) (e2 : e ≤ 2900000) (h : ∀ up, rnd up (mk (sgi s V) (e - 64)).1 (mk (sgi s V) (e - 64)).2 = f up) : Wd s H L e f := by
  obtain ⟨a, rfl⟩ := Int.eq_ofNat_of_zero_le hH; obtain ⟨b, rfl⟩ := Int.eq_ofNat_of_zero_le hL
  refine ⟨a, b, by omega, by omega, rfl, rfl, e1, e2, fun up => ?_⟩
  have e : ((a * 18446744073709551616 + b : Nat) : Int) = V := by omega
  rw [e]; exact h up
/-- The lowest words' sum, the highest ones'. -/
theorem add_words {H1 L1 H2 L2 V1 V2 : Int} (h1 : 0 ≤ H1 ∧ H1 < 18446744073709551616 ∧ 0 ≤ L1 ∧ L1 < 18446744073709551616 ∧ H1 * 18446744073709551616 + L1 = V1) (h2 : 0 ≤ H2 ∧ H2 < 18446744073709551616 ∧ 0 ≤ L2 ∧ L2 < 18446744073709551616 ∧ H2 * 18446744073709551616 + L2 = V2) (h : V1 + V2 < 340282366920938463463374607431768211456) :
    ∃ S c T d, (L1 + L2 + 0) % 18446744073709551616 = S ∧ (L1 + L2 + 0) / 18446744073709551616 = c ∧ (H1 + H2 + c) % 18446744073709551616 = T ∧ (H1 + H2 + c) / 18446744073709551616 = d ∧ 0 ≤ c ∧ c ≤ 1 ∧ 0 ≤ S ∧ S < 18446744073709551616 ∧ 0 ≤ T ∧ T < 18446744073709551616 ∧ T * 18446744073709551616 + S = V1 + V2 := by
  refine ⟨_, _, _, _, rfl, rfl, rfl, rfl, ?_⟩
  omega
theorem sub_words {H1 L1 H2 L2 V1 V2 : Int} (h1 : 0 ≤ H1 ∧ H1 < 18446744073709551616 ∧ 0 ≤ L1 ∧ L1 < 18446744073709551616 ∧ H1 * 18446744073709551616 + L1 = V1) (h2 : 0 ≤ H2 ∧ H2 < 18446744073709551616 ∧ 0 ≤ L2 ∧ L2 < 18446744073709551616 ∧ H2 * 18446744073709551616 + L2 = V2) (h : 0 ≤ V1 - V2) :
    ∃ S c T d, (L1 - L2 - 0) % 18446744073709551616 = S ∧ (if L1 < L2 + 0 then (1 : Int) else 0) = c ∧ (H1 - H2 - c) % 18446744073709551616 = T ∧ (if H1 < H2 + c then (1 : Int) else 0) = d ∧ 0 ≤ c ∧ c ≤ 1 ∧ 0 ≤ S ∧ S < 18446744073709551616 ∧ 0 ≤ T ∧ T < 18446744073709551616 ∧ T * 18446744073709551616 + S = V1 - V2 := by
  by_cases q : L1 < L2 + 0
  · exact ⟨_, 1, _, _, rfl, if_pos q, rfl, rfl, by omega, by omega, by omega, by omega, by omega, by omega, by omega⟩
  · exact ⟨_, 0, _, _, rfl, if_neg q, rfl, rfl, by omega, by omega, by omega, by omega, by omega, by omega, by omega⟩
set_option maxHeartbeats 8000000 in
theorem sum_lt {w : World} {s1 s2 : Bool} {M1 M2 E1 E2 x y : Int} (hT : Tb w) (q1 : Fq 1 s1 M1 E1 x) (q2 : Fq 1 s2 M2 E2 y) (h : E1 < E2) : Calls Tryz.prog 61 #[.agg #[.int .i64 1, .bool s1, .int .u64 M1, .int .i64 E1], .agg #[.int .i64 1, .bool s2, .int .u64 M2, .int .i64 E2]] w (PW6 w fun up => addp up x y) := by
  obtain ⟨a1, a2, a3, a4, _⟩ := fq_vr q1; obtain ⟨b1, b2, b3, b4, _⟩ := fq_vr q2; have HO := Lib.hid (h); obtain ⟨n, hn⟩ : ∃ n : Nat, (n : Int) = E2 - E1 + 1 := ⟨(E2 - E1 + 1).toNat, by omega⟩
  have hsw : ∀ (S : Int) up, S = M2 * 9223372036854775808 + sgi (s2 != s1) (mvd M1 n) → 0 ≤ S ∧ S < 340282366920938463463374607431768211456 ∧ rnd up (mk (sgi s2 S) (E2 + 1 - 64)).1 (mk (sgi s2 S) (E2 + 1 - 64)).2 = addp up x y := fun S up hS => by
    obtain ⟨u1, u2, u3⟩ := sum_wide up q2 q1 (by omega) hn hS; refine ⟨u1, u2, ?_⟩
    rw [show E2 + 1 - 64 = E2 - 63 by omega, u3]
    exact addp_comm up
  have HSW := Lib.hid hsw; obtain ⟨N, hN⟩ : ∃ N, (n : Int) = N := ⟨_, rfl⟩; obtain ⟨D, hD⟩ : ∃ D, E2 - E1 = D := ⟨_, rfl⟩
  have n1 : 1 ≤ n := by omega
  have n3 : n ≤ 4000000 := by omega
  have HN := Lib.hid hN
  have HD := Lib.hid (show IntKind.i64.wrap (E2 - E1) = D by rw [hD]; exact IntWalk.i64_in _ (by omega))
  have HD2 := Lib.hid (show IntKind.i64.wrap (D + 1) = N by rw [show D + 1 = N by omega]; exact IntWalk.i64_in _ (by omega))
  obtain ⟨Y, hY⟩ : ∃ Y, E1 + N = Y := ⟨_, rfl⟩; have HY := Lib.hid hY; obtain ⟨Z, hZ⟩ : ∃ Z, E2 + 1 = Z := ⟨_, rfl⟩; have HZ := Lib.hid hZ
  have z1 : -2900000 ≤ Z := by omega
  have z2 : Z ≤ 2900000 := by omega
  have v1 : mvd M2 1 = M2 * 9223372036854775808 := by
    unfold mvd
    rw [if_pos (by decide)]
    rfl
  have HV1 := Lib.hid v1
  have g1 : 9223372036854775808 ≤ M2 := by omega
  have g2 : M2 < 18446744073709551616 := by omega
  have g3 : -2000000 ≤ E2 := by omega
  have g4 : E2 ≤ 2000000 := by omega
  have k1 : 9223372036854775808 ≤ M1 := by omega
  have k2 : M1 < 18446744073709551616 := by omega
  have k3 : -2000000 ≤ E1 := by omega
  have k4 : E1 ≤ 2000000 := by omega
  clear hn hN hD hY hZ v1 hsw h q1 q2 a1 a2 a3 a4 b1 b2 b3 b4
  go_enter Tryz.func61, Tryz.ntmps61
  go_upto_region 1 with (fail)
  generalize hW1 : ((w.alloc _).alloc _).alloc _ = w1 at *; obtain ⟨X2, X3, XR, HB⟩ := Bo.en3 hW1; replace hT := hT.below HB.out; clear hW1; obtain ⟨xX20, xX21, xX22, xX23⟩ := X2.u4; obtain ⟨xX30, xX31, xX32, xX33⟩ := X3.u4
  go_wp2_with fail
  refine (order_lt HO.out).mono ?_; rintro ee w2 ⟨rfl, B⟩; clear xX20 xX21 xX22 xX23 xX30 xX31 xX32 xX33; replace X2 := X2.below B; replace X3 := X3.below B; replace XR := XR.below B; replace hT := hT.below B; replace HB := Lib.hid (bt HB.out B); clear B
  go_upto_region 2 with (fail)
  clear X2 X3
  have hsz : (World.alloc w2 (.cells #[.int .i64 1, .bool s2, .int .u64 M2, .int .i64 E2] 24)).heap.size = w2.heap.size + 1 := by simp
  have lX5 := Nat.le_refl (World.heap w2).size; have nX5XR := XR.lt; replace XR := XR.below (bel1 _ (.cells #[.int .i64 1, .bool s2, .int .u64 M2, .int .i64 E2] 24)); replace hT := hT.below (bel1 _ (.cells #[.int .i64 1, .bool s2, .int .u64 M2, .int .i64 E2] 24)); replace HB := Lib.hid (bt HB.out (bel1 _ (.cells #[.int .i64 1, .bool s2, .int .u64 M2, .int .i64 E2] 24))); have X5 := Bo.new w2 #[.int .i64 1, .bool s2, .int .u64 M2, .int .i64 E2] 24
  generalize hWn : World.alloc w2 (.cells #[.int .i64 1, .bool s2, .int .u64 M2, .int .i64 E2] 24) = w3 at *; clear hWn; have lX6 := Nat.le_refl (World.heap w3).size; have nX6XR := XR.lt; have nX6X5 := X5.lt; generalize hWn : w3.alloc _ = w4 at *; obtain ⟨X6, BW⟩ := Bo.nw hWn; clear hWn; replace XR := XR.below BW; replace X5 := X5.below BW; replace hT := hT.below BW; replace HB := Lib.hid (bt HB.out BW)
  clear BW; rw [hsz] at X6 nX6X5 nX6XR; clear lX5 lX6 hsz; obtain ⟨xX50, xX51, xX52, xX53⟩ := X5.u4
  go_wp2_with fail
  refine (aMoved (n := 1) (s := s2) hT g1 g2 (by rfl) HZ.out g3 g4 (by decide) (by decide)).mono ?_; rintro ee w5 ⟨H1, L1, rfl, p1, B⟩; clear xX50 xX51 xX52 xX53; replace XR := XR.below B; replace X5 := X5.below B; replace X6 := X6.below B; replace hT := hT.below B; replace HB := Lib.hid (bt HB.out B); clear B; rw [HV1.out] at p1
  go_upto_region 3 with (fail)
  have lX7 := Nat.le_refl (World.heap w5).size; have nX7XR := XR.lt; have nX7X5 := X5.lt; have nX7X6 := X6.lt; generalize hWn : w5.alloc _ = w6 at *; obtain ⟨X7, BW⟩ := Bo.nw hWn; clear hWn; replace XR := XR.below BW; replace X5 := X5.below BW; replace X6 := X6.below BW; replace hT := hT.below BW; replace HB := Lib.hid (bt HB.out BW); clear BW; clear lX7; obtain ⟨xX50, xX51, xX52, xX53⟩ := X5.u4; obtain ⟨xX60, xX61, xX62, xX63⟩ := X6.u4
  have hd := HD.out; have hd2 := HD2.out
  go_wp2_with fail
  refine (aMoved (s := s1) hT k1 k2 HN.out HY.out k3 k4 n1 n3).mono ?_; rintro ee w7 ⟨H2, L2, rfl, p2, B⟩; clear xX50 xX51 xX52 xX53 xX60 xX61 xX62 xX63; replace XR := XR.below B; replace X5 := X5.below B; replace X6 := X6.below B; replace X7 := X7.below B; replace hT := hT.below B; replace HB := Lib.hid (bt HB.out B); clear B; clear hd hd2
  go_upto_region 5 with (fail)
  have lX8 := Nat.le_refl (World.heap w7).size; have nX8XR := XR.lt; have nX8X5 := X5.lt; have nX8X6 := X6.lt; have nX8X7 := X7.lt; generalize hWn : w7.alloc _ = w8 at *; obtain ⟨X8, BW⟩ := Bo.nw hWn; clear hWn; replace XR := XR.below BW; replace X5 := X5.below BW; replace X6 := X6.below BW; replace X7 := X7.below BW; replace hT := hT.below BW; replace HB := Lib.hid (bt HB.out BW); clear BW; clear lX8
  by_cases hs : s2 = s1
  · subst hs
    have hxor : (s2 != s2) = false := by cases s2 <;> rfl
    have hswv := HSW.out (M2 * 9223372036854775808 + mvd M1 n); rw [hxor, wsg_f] at hswv; have hb := (hswv true rfl).2.1; obtain ⟨S, c, T, d, f1, f2, f3, f4, c0, c1, o1, o2, o3, o4, o5⟩ := add_words p1 p2 hb
    have ha1 := fun W : World => aAdd64 W p1.2.2.1 p2.2.2.1 (by decide) (by decide) f1 f2
    have ha2 := fun W : World => aAdd64 W p1.1 p2.1 c0 c1 f3 f4
    have OO := Lib.hid (And.intro o5 hswv)
    clear f1 f2 f3 f4 p1 p2 hb hswv o5; obtain ⟨xX50, xX51, xX52, xX53⟩ := X5.u4; obtain ⟨xX60, xX61, xX62, xX63⟩ := X6.u4; obtain ⟨xX70, xX71, xX72, xX73⟩ := X7.u4; have zX70 := X7.frozen; obtain ⟨xX80, xX81, xX82, xX83⟩ := X8.u4
    go_upto_region 7 with (simp only [ha1])
    clear xX50 xX51 xX52 xX53 xX60 xX61 xX62 xX63 xX70 zX70 xX71 xX72 xX73 xX80 xX81 xX82 xX83
    have SX : StN w8 (World.setCell w8 ⟨w5.heap.size, 2, none⟩ (.int .u64 S)) _ _ #[.bool s2, .int .u64 H1, .int .u64 S, .int .i64 Z] _ := StN.at4 X7 2 (.int .u64 S)
    replace XR := XR.stn SX (by omega); replace X5 := X5.stn SX (by omega); replace X6 := X6.stn SX (by omega); replace X8 := X8.stn SX (by omega); replace HB := Lib.hid (SX.below HB.out (by omega)); replace X7 := SX.box; clear SX; generalize World.setCell w8 ⟨w5.heap.size, 2, none⟩ (.int .u64 S) = w9 at *; obtain ⟨xX70, xX71, xX72, xX73⟩ := X7.u4; have zX70 := X7.frozen; obtain ⟨xX80, xX81, xX82, xX83⟩ := X8.u4
    go_upto_region 10 with (simp only [ha2])
    clear xX70 zX70 xX71 xX72 xX73 xX80 xX81 xX82 xX83
    have SX : StN w9 (World.setCell w9 ⟨w5.heap.size, 1, none⟩ (.int .u64 T)) _ _ #[.bool s2, .int .u64 T, .int .u64 S, .int .i64 Z] _ := StN.at4 X7 1 (.int .u64 T)
    replace XR := XR.stn SX (by omega); replace X5 := X5.stn SX (by omega); replace X6 := X6.stn SX (by omega); replace X8 := X8.stn SX (by omega); replace HB := Lib.hid (SX.below HB.out (by omega)); replace X7 := SX.box; clear SX; generalize World.setCell w9 ⟨w5.heap.size, 1, none⟩ (.int .u64 T) = wA at *; obtain ⟨xXR0, xXR1, xXR2, xXR3⟩ := XR.u4; have zXR0 := XR.frozen; obtain ⟨xX70, xX71, xX72, xX73⟩ := X7.u4
    go_wp2; clear xXR0 zXR0 xXR1 xXR2 xXR3 xX70 xX71 xX72 xX73; have SX := StN.mk4 XR (.bool s2) (.int .u64 T) (.int .u64 S) (.int .i64 Z)
    exact bodyPost_ret (v := .agg #[.bool s2, .int .u64 T, .int .u64 S, .int .i64 Z]) (by simp [results, Tryz.results61, go_sem, SX.box.cell]) rfl ⟨_, _, _, _, rfl, wd_of o3 o4 o1 o2 OO.out.1 z1 z2 fun up => by rw [← HZ.out]; exact (OO.out.2 up (by first | rfl | trivial)).2.2, (SX.below HB.out (by omega))⟩
  · have hxor : (s2 != s1) = true := by cases s2 <;> cases s1 <;> first | rfl | exact absurd rfl hs
    have hne : (s2 == s1) = false := by cases s2 <;> cases s1 <;> first | rfl | exact absurd rfl hs
    have hswv := HSW.out (M2 * 9223372036854775808 - mvd M1 n); rw [hxor, wsg_t] at hswv; have hb := (hswv true (by omega)).1; obtain ⟨S, c, T, d, f1, f2, f3, f4, c0, c1, o1, o2, o3, o4, o5⟩ := sub_words p1 p2 hb
    have ha1 := fun W : World => aSub64 W p1.2.2.1 p1.2.2.2.1 p2.2.2.1 p2.2.2.2.1 (by decide) (by decide) f1 f2
    have ha2 := fun W : World => aSub64 W p1.1 p1.2.1 p2.1 p2.2.1 c0 c1 f3 f4
    have OO := Lib.hid (And.intro o5 hswv)
    clear f1 f2 f3 f4 p1 p2 hb hswv o5; obtain ⟨xX50, xX51, xX52, xX53⟩ := X5.u4; obtain ⟨xX60, xX61, xX62, xX63⟩ := X6.u4; obtain ⟨xX70, xX71, xX72, xX73⟩ := X7.u4; have zX70 := X7.frozen; obtain ⟨xX80, xX81, xX82, xX83⟩ := X8.u4
    go_upto_region 9 with (simp only [ha1])
    clear xX50 xX51 xX52 xX53 xX60 xX61 xX62 xX63 xX70 zX70 xX71 xX72 xX73 xX80 xX81 xX82 xX83
    have SX : StN w8 (World.setCell w8 ⟨w5.heap.size, 2, none⟩ (.int .u64 S)) _ _ #[.bool s2, .int .u64 H1, .int .u64 S, .int .i64 Z] _ := StN.at4 X7 2 (.int .u64 S)
    replace XR := XR.stn SX (by omega); replace X5 := X5.stn SX (by omega); replace X6 := X6.stn SX (by omega); replace X8 := X8.stn SX (by omega); replace HB := Lib.hid (SX.below HB.out (by omega)); replace X7 := SX.box; clear SX; generalize World.setCell w8 ⟨w5.heap.size, 2, none⟩ (.int .u64 S) = w9 at *; obtain ⟨xX70, xX71, xX72, xX73⟩ := X7.u4; have zX70 := X7.frozen; obtain ⟨xX80, xX81, xX82, xX83⟩ := X8.u4
    go_upto_region 10 with (simp only [ha2])
    clear xX70 zX70 xX71 xX72 xX73 xX80 xX81 xX82 xX83
    have SX : StN w9 (World.setCell w9 ⟨w5.heap.size, 1, none⟩ (.int .u64 T)) _ _ #[.bool s2, .int .u64 T, .int .u64 S, .int .i64 Z] _ := StN.at4 X7 1 (.int .u64 T)
    replace XR := XR.stn SX (by omega); replace X5 := X5.stn SX (by omega); replace X6 := X6.stn SX (by omega); replace X8 := X8.stn SX (by omega); replace HB := Lib.hid (SX.below HB.out (by omega)); replace X7 := SX.box; clear SX; generalize World.setCell w9 ⟨w5.heap.size, 1, none⟩ (.int .u64 T) = wA at *; obtain ⟨xXR0, xXR1, xXR2, xXR3⟩ := XR.u4; have zXR0 := XR.frozen; obtain ⟨xX70, xX71, xX72, xX73⟩ := X7.u4
    go_wp2; clear xXR0 zXR0 xXR1 xXR2 xXR3 xX70 xX71 xX72 xX73; have SX := StN.mk4 XR (.bool s2) (.int .u64 T) (.int .u64 S) (.int .i64 Z)
    exact bodyPost_ret (v := .agg #[.bool s2, .int .u64 T, .int .u64 S, .int .i64 Z]) (by simp [results, Tryz.results61, go_sem, SX.box.cell]) rfl ⟨_, _, _, _, rfl, wd_of o3 o4 o1 o2 OO.out.1 z1 z2 fun up => by rw [← HZ.out]; exact (OO.out.2 up (by omega)).2.2, (SX.below HB.out (by omega))⟩
set_option maxHeartbeats 8000000 in
theorem sum_eqlt {w : World} {s1 s2 : Bool} {M1 M2 E1 E2 x y : Int} (hT : Tb w) (q1 : Fq 1 s1 M1 E1 x) (q2 : Fq 1 s2 M2 E2 y) (h : E1 = E2) (hm : M1 < M2) : Calls Tryz.prog 61 #[.agg #[.int .i64 1, .bool s1, .int .u64 M1, .int .i64 E1], .agg #[.int .i64 1, .bool s2, .int .u64 M2, .int .i64 E2]] w (PW6 w fun up => addp up x y) := by
  obtain ⟨a1, a2, a3, a4, _⟩ := fq_vr q1; obtain ⟨b1, b2, b3, b4, _⟩ := fq_vr q2
  have HO := Lib.hid (And.intro h hm)
  obtain ⟨n, hn⟩ : ∃ n : Nat, (n : Int) = E2 - E1 + 1 := ⟨(E2 - E1 + 1).toNat, by omega⟩
  have hsw : ∀ (S : Int) up, S = M2 * 9223372036854775808 + sgi (s2 != s1) (mvd M1 n) → 0 ≤ S ∧ S < 340282366920938463463374607431768211456 ∧ rnd up (mk (sgi s2 S) (E2 + 1 - 64)).1 (mk (sgi s2 S) (E2 + 1 - 64)).2 = addp up x y := fun S up hS => by
    obtain ⟨u1, u2, u3⟩ := sum_wide up q2 q1 (by omega) hn hS; refine ⟨u1, u2, ?_⟩
    rw [show E2 + 1 - 64 = E2 - 63 by omega, u3]
    exact addp_comm up
  have HSW := Lib.hid hsw; obtain ⟨N, hN⟩ : ∃ N, (n : Int) = N := ⟨_, rfl⟩; obtain ⟨D, hD⟩ : ∃ D, E2 - E1 = D := ⟨_, rfl⟩
  have n1 : 1 ≤ n := by omega
  have n3 : n ≤ 4000000 := by omega
  have HN := Lib.hid hN
  have HD := Lib.hid (show IntKind.i64.wrap (E2 - E1) = D by rw [hD]; exact IntWalk.i64_in _ (by omega))
  have HD2 := Lib.hid (show IntKind.i64.wrap (D + 1) = N by rw [show D + 1 = N by omega]; exact IntWalk.i64_in _ (by omega))
  obtain ⟨Y, hY⟩ : ∃ Y, E1 + N = Y := ⟨_, rfl⟩; have HY := Lib.hid hY; obtain ⟨Z, hZ⟩ : ∃ Z, E2 + 1 = Z := ⟨_, rfl⟩; have HZ := Lib.hid hZ
  have z1 : -2900000 ≤ Z := by omega
  have z2 : Z ≤ 2900000 := by omega
  have v1 : mvd M2 1 = M2 * 9223372036854775808 := by
    unfold mvd
    rw [if_pos (by decide)]
    rfl
  have HV1 := Lib.hid v1
  have g1 : 9223372036854775808 ≤ M2 := by omega
  have g2 : M2 < 18446744073709551616 := by omega
  have g3 : -2000000 ≤ E2 := by omega
  have g4 : E2 ≤ 2000000 := by omega
  have k1 : 9223372036854775808 ≤ M1 := by omega
  have k2 : M1 < 18446744073709551616 := by omega
  have k3 : -2000000 ≤ E1 := by omega
  have k4 : E1 ≤ 2000000 := by omega
  clear hn hN hD hY hZ v1 hsw h hm q1 q2 a1 a2 a3 a4 b1 b2 b3 b4
  go_enter Tryz.func61, Tryz.ntmps61
  go_upto_region 1 with (fail)
  generalize hW1 : ((w.alloc _).alloc _).alloc _ = w1 at *; obtain ⟨X2, X3, XR, HB⟩ := Bo.en3 hW1; replace hT := hT.below HB.out; clear hW1; obtain ⟨xX20, xX21, xX22, xX23⟩ := X2.u4; obtain ⟨xX30, xX31, xX32, xX33⟩ := X3.u4
  go_wp2_with fail
  refine (order_eqlt HO.out.1 (by have := HO.out.2; omega)).mono ?_; rintro ee w2 ⟨rfl, B⟩; clear xX20 xX21 xX22 xX23 xX30 xX31 xX32 xX33; replace X2 := X2.below B; replace X3 := X3.below B; replace XR := XR.below B; replace hT := hT.below B; replace HB := Lib.hid (bt HB.out B); clear B
  go_upto_region 2 with (fail)
  clear X2 X3
  have hsz : (World.alloc w2 (.cells #[.int .i64 1, .bool s2, .int .u64 M2, .int .i64 E2] 24)).heap.size = w2.heap.size + 1 := by simp
  have lX5 := Nat.le_refl (World.heap w2).size; have nX5XR := XR.lt; replace XR := XR.below (bel1 _ (.cells #[.int .i64 1, .bool s2, .int .u64 M2, .int .i64 E2] 24)); replace hT := hT.below (bel1 _ (.cells #[.int .i64 1, .bool s2, .int .u64 M2, .int .i64 E2] 24)); replace HB := Lib.hid (bt HB.out (bel1 _ (.cells #[.int .i64 1, .bool s2, .int .u64 M2, .int .i64 E2] 24))); have X5 := Bo.new w2 #[.int .i64 1, .bool s2, .int .u64 M2, .int .i64 E2] 24
  generalize hWn : World.alloc w2 (.cells #[.int .i64 1, .bool s2, .int .u64 M2, .int .i64 E2] 24) = w3 at *; clear hWn; have lX6 := Nat.le_refl (World.heap w3).size; have nX6XR := XR.lt; have nX6X5 := X5.lt; generalize hWn : w3.alloc _ = w4 at *; obtain ⟨X6, BW⟩ := Bo.nw hWn; clear hWn; replace XR := XR.below BW; replace X5 := X5.below BW; replace hT := hT.below BW; replace HB := Lib.hid (bt HB.out BW)
  clear BW; rw [hsz] at X6 nX6X5 nX6XR; clear lX5 lX6 hsz; obtain ⟨xX50, xX51, xX52, xX53⟩ := X5.u4
  go_wp2_with fail
  refine (aMoved (n := 1) (s := s2) hT g1 g2 (by rfl) HZ.out g3 g4 (by decide) (by decide)).mono ?_; rintro ee w5 ⟨H1, L1, rfl, p1, B⟩; clear xX50 xX51 xX52 xX53; replace XR := XR.below B; replace X5 := X5.below B; replace X6 := X6.below B; replace hT := hT.below B; replace HB := Lib.hid (bt HB.out B); clear B; rw [HV1.out] at p1
  go_upto_region 3 with (fail)
  have lX7 := Nat.le_refl (World.heap w5).size; have nX7XR := XR.lt; have nX7X5 := X5.lt; have nX7X6 := X6.lt; generalize hWn : w5.alloc _ = w6 at *; obtain ⟨X7, BW⟩ := Bo.nw hWn; clear hWn; replace XR := XR.below BW; replace X5 := X5.below BW; replace X6 := X6.below BW; replace hT := hT.below BW; replace HB := Lib.hid (bt HB.out BW); clear BW; clear lX7; obtain ⟨xX50, xX51, xX52, xX53⟩ := X5.u4; obtain ⟨xX60, xX61, xX62, xX63⟩ := X6.u4
  have hd := HD.out; have hd2 := HD2.out
  go_wp2_with fail
  refine (aMoved (s := s1) hT k1 k2 HN.out HY.out k3 k4 n1 n3).mono ?_; rintro ee w7 ⟨H2, L2, rfl, p2, B⟩; clear xX50 xX51 xX52 xX53 xX60 xX61 xX62 xX63; replace XR := XR.below B; replace X5 := X5.below B; replace X6 := X6.below B; replace X7 := X7.below B; replace hT := hT.below B; replace HB := Lib.hid (bt HB.out B); clear B; clear hd hd2
  go_upto_region 5 with (fail)
  have lX8 := Nat.le_refl (World.heap w7).size; have nX8XR := XR.lt; have nX8X5 := X5.lt; have nX8X6 := X6.lt; have nX8X7 := X7.lt; generalize hWn : w7.alloc _ = w8 at *; obtain ⟨X8, BW⟩ := Bo.nw hWn; clear hWn; replace XR := XR.below BW; replace X5 := X5.below BW; replace X6 := X6.below BW; replace X7 := X7.below BW; replace hT := hT.below BW; replace HB := Lib.hid (bt HB.out BW); clear BW; clear lX8
  by_cases hs : s2 = s1
  · subst hs
    have hxor : (s2 != s2) = false := by cases s2 <;> rfl
    have hswv := HSW.out (M2 * 9223372036854775808 + mvd M1 n); rw [hxor, wsg_f] at hswv; have hb := (hswv true rfl).2.1; obtain ⟨S, c, T, d, f1, f2, f3, f4, c0, c1, o1, o2, o3, o4, o5⟩ := add_words p1 p2 hb
    have ha1 := fun W : World => aAdd64 W p1.2.2.1 p2.2.2.1 (by decide) (by decide) f1 f2
    have ha2 := fun W : World => aAdd64 W p1.1 p2.1 c0 c1 f3 f4
    have OO := Lib.hid (And.intro o5 hswv)
    clear f1 f2 f3 f4 p1 p2 hb hswv o5; obtain ⟨xX50, xX51, xX52, xX53⟩ := X5.u4; obtain ⟨xX60, xX61, xX62, xX63⟩ := X6.u4; obtain ⟨xX70, xX71, xX72, xX73⟩ := X7.u4; have zX70 := X7.frozen; obtain ⟨xX80, xX81, xX82, xX83⟩ := X8.u4
    go_upto_region 7 with (simp only [ha1])
    clear xX50 xX51 xX52 xX53 xX60 xX61 xX62 xX63 xX70 zX70 xX71 xX72 xX73 xX80 xX81 xX82 xX83
    have SX : StN w8 (World.setCell w8 ⟨w5.heap.size, 2, none⟩ (.int .u64 S)) _ _ #[.bool s2, .int .u64 H1, .int .u64 S, .int .i64 Z] _ := StN.at4 X7 2 (.int .u64 S)
    replace XR := XR.stn SX (by omega); replace X5 := X5.stn SX (by omega); replace X6 := X6.stn SX (by omega); replace X8 := X8.stn SX (by omega); replace HB := Lib.hid (SX.below HB.out (by omega)); replace X7 := SX.box; clear SX; generalize World.setCell w8 ⟨w5.heap.size, 2, none⟩ (.int .u64 S) = w9 at *; obtain ⟨xX70, xX71, xX72, xX73⟩ := X7.u4; have zX70 := X7.frozen; obtain ⟨xX80, xX81, xX82, xX83⟩ := X8.u4
    go_upto_region 10 with (simp only [ha2])
    clear xX70 zX70 xX71 xX72 xX73 xX80 xX81 xX82 xX83
    have SX : StN w9 (World.setCell w9 ⟨w5.heap.size, 1, none⟩ (.int .u64 T)) _ _ #[.bool s2, .int .u64 T, .int .u64 S, .int .i64 Z] _ := StN.at4 X7 1 (.int .u64 T)
    replace XR := XR.stn SX (by omega); replace X5 := X5.stn SX (by omega); replace X6 := X6.stn SX (by omega); replace X8 := X8.stn SX (by omega); replace HB := Lib.hid (SX.below HB.out (by omega)); replace X7 := SX.box; clear SX; generalize World.setCell w9 ⟨w5.heap.size, 1, none⟩ (.int .u64 T) = wA at *; obtain ⟨xXR0, xXR1, xXR2, xXR3⟩ := XR.u4; have zXR0 := XR.frozen; obtain ⟨xX70, xX71, xX72, xX73⟩ := X7.u4
    go_wp2; clear xXR0 zXR0 xXR1 xXR2 xXR3 xX70 xX71 xX72 xX73; have SX := StN.mk4 XR (.bool s2) (.int .u64 T) (.int .u64 S) (.int .i64 Z)
    exact bodyPost_ret (v := .agg #[.bool s2, .int .u64 T, .int .u64 S, .int .i64 Z]) (by simp [results, Tryz.results61, go_sem, SX.box.cell]) rfl ⟨_, _, _, _, rfl, wd_of o3 o4 o1 o2 OO.out.1 z1 z2 fun up => by rw [← HZ.out]; exact (OO.out.2 up (by first | rfl | trivial)).2.2, (SX.below HB.out (by omega))⟩
  · have hxor : (s2 != s1) = true := by cases s2 <;> cases s1 <;> first | rfl | exact absurd rfl hs
    have hne : (s2 == s1) = false := by cases s2 <;> cases s1 <;> first | rfl | exact absurd rfl hs
    have hswv := HSW.out (M2 * 9223372036854775808 - mvd M1 n); rw [hxor, wsg_t] at hswv; have hb := (hswv true (by omega)).1; obtain ⟨S, c, T, d, f1, f2, f3, f4, c0, c1, o1, o2, o3, o4, o5⟩ := sub_words p1 p2 hb
    have ha1 := fun W : World => aSub64 W p1.2.2.1 p1.2.2.2.1 p2.2.2.1 p2.2.2.2.1 (by decide) (by decide) f1 f2
    have ha2 := fun W : World => aSub64 W p1.1 p1.2.1 p2.1 p2.2.1 c0 c1 f3 f4
    have OO := Lib.hid (And.intro o5 hswv)
    clear f1 f2 f3 f4 p1 p2 hb hswv o5; obtain ⟨xX50, xX51, xX52, xX53⟩ := X5.u4; obtain ⟨xX60, xX61, xX62, xX63⟩ := X6.u4; obtain ⟨xX70, xX71, xX72, xX73⟩ := X7.u4; have zX70 := X7.frozen; obtain ⟨xX80, xX81, xX82, xX83⟩ := X8.u4
    go_upto_region 9 with (simp only [ha1])
    clear xX50 xX51 xX52 xX53 xX60 xX61 xX62 xX63 xX70 zX70 xX71 xX72 xX73 xX80 xX81 xX82 xX83
    have SX : StN w8 (World.setCell w8 ⟨w5.heap.size, 2, none⟩ (.int .u64 S)) _ _ #[.bool s2, .int .u64 H1, .int .u64 S, .int .i64 Z] _ := StN.at4 X7 2 (.int .u64 S)
    replace XR := XR.stn SX (by omega); replace X5 := X5.stn SX (by omega); replace X6 := X6.stn SX (by omega); replace X8 := X8.stn SX (by omega); replace HB := Lib.hid (SX.below HB.out (by omega)); replace X7 := SX.box; clear SX; generalize World.setCell w8 ⟨w5.heap.size, 2, none⟩ (.int .u64 S) = w9 at *; obtain ⟨xX70, xX71, xX72, xX73⟩ := X7.u4; have zX70 := X7.frozen; obtain ⟨xX80, xX81, xX82, xX83⟩ := X8.u4
    go_upto_region 10 with (simp only [ha2])
    clear xX70 zX70 xX71 xX72 xX73 xX80 xX81 xX82 xX83
    have SX : StN w9 (World.setCell w9 ⟨w5.heap.size, 1, none⟩ (.int .u64 T)) _ _ #[.bool s2, .int .u64 T, .int .u64 S, .int .i64 Z] _ := StN.at4 X7 1 (.int .u64 T)
    replace XR := XR.stn SX (by omega); replace X5 := X5.stn SX (by omega); replace X6 := X6.stn SX (by omega); replace X8 := X8.stn SX (by omega); replace HB := Lib.hid (SX.below HB.out (by omega)); replace X7 := SX.box; clear SX; generalize World.setCell w9 ⟨w5.heap.size, 1, none⟩ (.int .u64 T) = wA at *; obtain ⟨xXR0, xXR1, xXR2, xXR3⟩ := XR.u4; have zXR0 := XR.frozen; obtain ⟨xX70, xX71, xX72, xX73⟩ := X7.u4
    go_wp2; clear xXR0 zXR0 xXR1 xXR2 xXR3 xX70 xX71 xX72 xX73; have SX := StN.mk4 XR (.bool s2) (.int .u64 T) (.int .u64 S) (.int .i64 Z)
    exact bodyPost_ret (v := .agg #[.bool s2, .int .u64 T, .int .u64 S, .int .i64 Z]) (by simp [results, Tryz.results61, go_sem, SX.box.cell]) rfl ⟨_, _, _, _, rfl, wd_of o3 o4 o1 o2 OO.out.1 z1 z2 fun up => by rw [← HZ.out]; exact (OO.out.2 up (by omega)).2.2, (SX.below HB.out (by omega))⟩
set_option maxHeartbeats 8000000 in
theorem sum_eqge {w : World} {s1 s2 : Bool} {M1 M2 E1 E2 x y : Int} (hT : Tb w) (q1 : Fq 1 s1 M1 E1 x) (q2 : Fq 1 s2 M2 E2 y) (h : E1 = E2) (hm : ¬ M1 < M2) : Calls Tryz.prog 61 #[.agg #[.int .i64 1, .bool s1, .int .u64 M1, .int .i64 E1], .agg #[.int .i64 1, .bool s2, .int .u64 M2, .int .i64 E2]] w (PW6 w fun up => addp up x y) := by
  obtain ⟨a1, a2, a3, a4, _⟩ := fq_vr q1; obtain ⟨b1, b2, b3, b4, _⟩ := fq_vr q2
  have HO := Lib.hid (And.intro h hm)
  obtain ⟨n, hn⟩ : ∃ n : Nat, (n : Int) = E1 - E2 + 1 := ⟨(E1 - E2 + 1).toNat, by omega⟩
  have hsw : ∀ (S : Int) up, S = M1 * 9223372036854775808 + sgi (s1 != s2) (mvd M2 n) → 0 ≤ S ∧ S < 340282366920938463463374607431768211456 ∧ rnd up (mk (sgi s1 S) (E1 + 1 - 64)).1 (mk (sgi s1 S) (E1 + 1 - 64)).2 = addp up x y := fun S up hS => by
    obtain ⟨u1, u2, u3⟩ := sum_wide up q1 q2 (by omega) hn hS; refine ⟨u1, u2, ?_⟩
    rw [show E1 + 1 - 64 = E1 - 63 by omega, u3]
  have HSW := Lib.hid hsw; obtain ⟨N, hN⟩ : ∃ N, (n : Int) = N := ⟨_, rfl⟩; obtain ⟨D, hD⟩ : ∃ D, E1 - E2 = D := ⟨_, rfl⟩
  have n1 : 1 ≤ n := by omega
  have n3 : n ≤ 4000000 := by omega
  have HN := Lib.hid hN
  have HD := Lib.hid (show IntKind.i64.wrap (E1 - E2) = D by rw [hD]; exact IntWalk.i64_in _ (by omega))
  have HD2 := Lib.hid (show IntKind.i64.wrap (D + 1) = N by rw [show D + 1 = N by omega]; exact IntWalk.i64_in _ (by omega))
  obtain ⟨Y, hY⟩ : ∃ Y, E2 + N = Y := ⟨_, rfl⟩; have HY := Lib.hid hY; obtain ⟨Z, hZ⟩ : ∃ Z, E1 + 1 = Z := ⟨_, rfl⟩; have HZ := Lib.hid hZ
  have z1 : -2900000 ≤ Z := by omega
  have z2 : Z ≤ 2900000 := by omega
  have v1 : mvd M1 1 = M1 * 9223372036854775808 := by
    unfold mvd
    rw [if_pos (by decide)]
    rfl
  have HV1 := Lib.hid v1
  have g1 : 9223372036854775808 ≤ M1 := by omega
  have g2 : M1 < 18446744073709551616 := by omega
  have g3 : -2000000 ≤ E1 := by omega
  have g4 : E1 ≤ 2000000 := by omega
  have k1 : 9223372036854775808 ≤ M2 := by omega
  have k2 : M2 < 18446744073709551616 := by omega
  have k3 : -2000000 ≤ E2 := by omega
  have k4 : E2 ≤ 2000000 := by omega
  clear hn hN hD hY hZ v1 hsw h hm q1 q2 a1 a2 a3 a4 b1 b2 b3 b4
  go_enter Tryz.func61, Tryz.ntmps61
  go_upto_region 1 with (fail)
  generalize hW1 : ((w.alloc _).alloc _).alloc _ = w1 at *; obtain ⟨X2, X3, XR, HB⟩ := Bo.en3 hW1; replace hT := hT.below HB.out; clear hW1; obtain ⟨xX20, xX21, xX22, xX23⟩ := X2.u4; obtain ⟨xX30, xX31, xX32, xX33⟩ := X3.u4
  go_wp2_with fail
  refine (order_eqge HO.out.1 (by have := HO.out.2; omega)).mono ?_; rintro ee w2 ⟨rfl, B⟩; clear xX20 xX21 xX22 xX23 xX30 xX31 xX32 xX33; replace X2 := X2.below B; replace X3 := X3.below B; replace XR := XR.below B; replace hT := hT.below B; replace HB := Lib.hid (bt HB.out B); clear B
  go_upto_region 2 with (fail)
  clear X2 X3
  have hsz : (World.alloc w2 (.cells #[.int .i64 1, .bool s1, .int .u64 M1, .int .i64 E1] 24)).heap.size = w2.heap.size + 1 := by simp
  have lX5 := Nat.le_refl (World.heap w2).size; have nX5XR := XR.lt; replace XR := XR.below (bel1 _ (.cells #[.int .i64 1, .bool s1, .int .u64 M1, .int .i64 E1] 24)); replace hT := hT.below (bel1 _ (.cells #[.int .i64 1, .bool s1, .int .u64 M1, .int .i64 E1] 24)); replace HB := Lib.hid (bt HB.out (bel1 _ (.cells #[.int .i64 1, .bool s1, .int .u64 M1, .int .i64 E1] 24))); have X5 := Bo.new w2 #[.int .i64 1, .bool s1, .int .u64 M1, .int .i64 E1] 24
  generalize hWn : World.alloc w2 (.cells #[.int .i64 1, .bool s1, .int .u64 M1, .int .i64 E1] 24) = w3 at *; clear hWn; have lX6 := Nat.le_refl (World.heap w3).size; have nX6XR := XR.lt; have nX6X5 := X5.lt; generalize hWn : w3.alloc _ = w4 at *; obtain ⟨X6, BW⟩ := Bo.nw hWn; clear hWn; replace XR := XR.below BW; replace X5 := X5.below BW; replace hT := hT.below BW; replace HB := Lib.hid (bt HB.out BW)
  clear BW; rw [hsz] at X6 nX6X5 nX6XR; clear lX5 lX6 hsz; obtain ⟨xX50, xX51, xX52, xX53⟩ := X5.u4
  go_wp2_with fail
  refine (aMoved (n := 1) (s := s1) hT g1 g2 (by rfl) HZ.out g3 g4 (by decide) (by decide)).mono ?_; rintro ee w5 ⟨H1, L1, rfl, p1, B⟩; clear xX50 xX51 xX52 xX53; replace XR := XR.below B; replace X5 := X5.below B; replace X6 := X6.below B; replace hT := hT.below B; replace HB := Lib.hid (bt HB.out B); clear B; rw [HV1.out] at p1
  go_upto_region 3 with (fail)
  have lX7 := Nat.le_refl (World.heap w5).size; have nX7XR := XR.lt; have nX7X5 := X5.lt; have nX7X6 := X6.lt; generalize hWn : w5.alloc _ = w6 at *; obtain ⟨X7, BW⟩ := Bo.nw hWn; clear hWn; replace XR := XR.below BW; replace X5 := X5.below BW; replace X6 := X6.below BW; replace hT := hT.below BW; replace HB := Lib.hid (bt HB.out BW); clear BW; clear lX7; obtain ⟨xX50, xX51, xX52, xX53⟩ := X5.u4; obtain ⟨xX60, xX61, xX62, xX63⟩ := X6.u4
  have hd := HD.out; have hd2 := HD2.out
  go_wp2_with fail
  refine (aMoved (s := s2) hT k1 k2 HN.out HY.out k3 k4 n1 n3).mono ?_; rintro ee w7 ⟨H2, L2, rfl, p2, B⟩; clear xX50 xX51 xX52 xX53 xX60 xX61 xX62 xX63; replace XR := XR.below B; replace X5 := X5.below B; replace X6 := X6.below B; replace X7 := X7.below B; replace hT := hT.below B; replace HB := Lib.hid (bt HB.out B); clear B; clear hd hd2
  go_upto_region 5 with (fail)
  have lX8 := Nat.le_refl (World.heap w7).size; have nX8XR := XR.lt; have nX8X5 := X5.lt; have nX8X6 := X6.lt; have nX8X7 := X7.lt; generalize hWn : w7.alloc _ = w8 at *; obtain ⟨X8, BW⟩ := Bo.nw hWn; clear hWn; replace XR := XR.below BW; replace X5 := X5.below BW; replace X6 := X6.below BW; replace X7 := X7.below BW; replace hT := hT.below BW; replace HB := Lib.hid (bt HB.out BW); clear BW; clear lX8
  by_cases hs : s1 = s2
  · subst hs
    have hxor : (s1 != s1) = false := by cases s1 <;> rfl
    have hswv := HSW.out (M1 * 9223372036854775808 + mvd M2 n); rw [hxor, wsg_f] at hswv; have hb := (hswv true rfl).2.1; obtain ⟨S, c, T, d, f1, f2, f3, f4, c0, c1, o1, o2, o3, o4, o5⟩ := add_words p1 p2 hb
    have ha1 := fun W : World => aAdd64 W p1.2.2.1 p2.2.2.1 (by decide) (by decide) f1 f2
    have ha2 := fun W : World => aAdd64 W p1.1 p2.1 c0 c1 f3 f4
    have OO := Lib.hid (And.intro o5 hswv)
    clear f1 f2 f3 f4 p1 p2 hb hswv o5; obtain ⟨xX50, xX51, xX52, xX53⟩ := X5.u4; obtain ⟨xX60, xX61, xX62, xX63⟩ := X6.u4; obtain ⟨xX70, xX71, xX72, xX73⟩ := X7.u4; have zX70 := X7.frozen; obtain ⟨xX80, xX81, xX82, xX83⟩ := X8.u4
    go_upto_region 7 with (simp only [ha1])
    clear xX50 xX51 xX52 xX53 xX60 xX61 xX62 xX63 xX70 zX70 xX71 xX72 xX73 xX80 xX81 xX82 xX83
    have SX : StN w8 (World.setCell w8 ⟨w5.heap.size, 2, none⟩ (.int .u64 S)) _ _ #[.bool s1, .int .u64 H1, .int .u64 S, .int .i64 Z] _ := StN.at4 X7 2 (.int .u64 S)
    replace XR := XR.stn SX (by omega); replace X5 := X5.stn SX (by omega); replace X6 := X6.stn SX (by omega); replace X8 := X8.stn SX (by omega); replace HB := Lib.hid (SX.below HB.out (by omega)); replace X7 := SX.box; clear SX; generalize World.setCell w8 ⟨w5.heap.size, 2, none⟩ (.int .u64 S) = w9 at *; obtain ⟨xX70, xX71, xX72, xX73⟩ := X7.u4; have zX70 := X7.frozen; obtain ⟨xX80, xX81, xX82, xX83⟩ := X8.u4
    go_upto_region 10 with (simp only [ha2])
    clear xX70 zX70 xX71 xX72 xX73 xX80 xX81 xX82 xX83
    have SX : StN w9 (World.setCell w9 ⟨w5.heap.size, 1, none⟩ (.int .u64 T)) _ _ #[.bool s1, .int .u64 T, .int .u64 S, .int .i64 Z] _ := StN.at4 X7 1 (.int .u64 T)
    replace XR := XR.stn SX (by omega); replace X5 := X5.stn SX (by omega); replace X6 := X6.stn SX (by omega); replace X8 := X8.stn SX (by omega); replace HB := Lib.hid (SX.below HB.out (by omega)); replace X7 := SX.box; clear SX; generalize World.setCell w9 ⟨w5.heap.size, 1, none⟩ (.int .u64 T) = wA at *; obtain ⟨xXR0, xXR1, xXR2, xXR3⟩ := XR.u4; have zXR0 := XR.frozen; obtain ⟨xX70, xX71, xX72, xX73⟩ := X7.u4
    go_wp2; clear xXR0 zXR0 xXR1 xXR2 xXR3 xX70 xX71 xX72 xX73; have SX := StN.mk4 XR (.bool s1) (.int .u64 T) (.int .u64 S) (.int .i64 Z)
    exact bodyPost_ret (v := .agg #[.bool s1, .int .u64 T, .int .u64 S, .int .i64 Z]) (by simp [results, Tryz.results61, go_sem, SX.box.cell]) rfl ⟨_, _, _, _, rfl, wd_of o3 o4 o1 o2 OO.out.1 z1 z2 fun up => by rw [← HZ.out]; exact (OO.out.2 up (by first | rfl | trivial)).2.2, (SX.below HB.out (by omega))⟩
  · have hxor : (s1 != s2) = true := by cases s1 <;> cases s2 <;> first | rfl | exact absurd rfl hs
    have hne : (s1 == s2) = false := by cases s1 <;> cases s2 <;> first | rfl | exact absurd rfl hs
    have hswv := HSW.out (M1 * 9223372036854775808 - mvd M2 n); rw [hxor, wsg_t] at hswv; have hb := (hswv true (by omega)).1; obtain ⟨S, c, T, d, f1, f2, f3, f4, c0, c1, o1, o2, o3, o4, o5⟩ := sub_words p1 p2 hb
    have ha1 := fun W : World => aSub64 W p1.2.2.1 p1.2.2.2.1 p2.2.2.1 p2.2.2.2.1 (by decide) (by decide) f1 f2
    have ha2 := fun W : World => aSub64 W p1.1 p1.2.1 p2.1 p2.2.1 c0 c1 f3 f4
    have OO := Lib.hid (And.intro o5 hswv)
    clear f1 f2 f3 f4 p1 p2 hb hswv o5; obtain ⟨xX50, xX51, xX52, xX53⟩ := X5.u4; obtain ⟨xX60, xX61, xX62, xX63⟩ := X6.u4; obtain ⟨xX70, xX71, xX72, xX73⟩ := X7.u4; have zX70 := X7.frozen; obtain ⟨xX80, xX81, xX82, xX83⟩ := X8.u4
    go_upto_region 9 with (simp only [ha1])
    clear xX50 xX51 xX52 xX53 xX60 xX61 xX62 xX63 xX70 zX70 xX71 xX72 xX73 xX80 xX81 xX82 xX83
    have SX : StN w8 (World.setCell w8 ⟨w5.heap.size, 2, none⟩ (.int .u64 S)) _ _ #[.bool s1, .int .u64 H1, .int .u64 S, .int .i64 Z] _ := StN.at4 X7 2 (.int .u64 S)
    replace XR := XR.stn SX (by omega); replace X5 := X5.stn SX (by omega); replace X6 := X6.stn SX (by omega); replace X8 := X8.stn SX (by omega); replace HB := Lib.hid (SX.below HB.out (by omega)); replace X7 := SX.box; clear SX; generalize World.setCell w8 ⟨w5.heap.size, 2, none⟩ (.int .u64 S) = w9 at *; obtain ⟨xX70, xX71, xX72, xX73⟩ := X7.u4; have zX70 := X7.frozen; obtain ⟨xX80, xX81, xX82, xX83⟩ := X8.u4
    go_upto_region 10 with (simp only [ha2])
    clear xX70 zX70 xX71 xX72 xX73 xX80 xX81 xX82 xX83
    have SX : StN w9 (World.setCell w9 ⟨w5.heap.size, 1, none⟩ (.int .u64 T)) _ _ #[.bool s1, .int .u64 T, .int .u64 S, .int .i64 Z] _ := StN.at4 X7 1 (.int .u64 T)
    replace XR := XR.stn SX (by omega); replace X5 := X5.stn SX (by omega); replace X6 := X6.stn SX (by omega); replace X8 := X8.stn SX (by omega); replace HB := Lib.hid (SX.below HB.out (by omega)); replace X7 := SX.box; clear SX; generalize World.setCell w9 ⟨w5.heap.size, 1, none⟩ (.int .u64 T) = wA at *; obtain ⟨xXR0, xXR1, xXR2, xXR3⟩ := XR.u4; have zXR0 := XR.frozen; obtain ⟨xX70, xX71, xX72, xX73⟩ := X7.u4
    go_wp2; clear xXR0 zXR0 xXR1 xXR2 xXR3 xX70 xX71 xX72 xX73; have SX := StN.mk4 XR (.bool s1) (.int .u64 T) (.int .u64 S) (.int .i64 Z)
    exact bodyPost_ret (v := .agg #[.bool s1, .int .u64 T, .int .u64 S, .int .i64 Z]) (by simp [results, Tryz.results61, go_sem, SX.box.cell]) rfl ⟨_, _, _, _, rfl, wd_of o3 o4 o1 o2 OO.out.1 z1 z2 fun up => by rw [← HZ.out]; exact (OO.out.2 up (by omega)).2.2, (SX.below HB.out (by omega))⟩
set_option maxHeartbeats 8000000 in
theorem sum_gt {w : World} {s1 s2 : Bool} {M1 M2 E1 E2 x y : Int} (hT : Tb w) (q1 : Fq 1 s1 M1 E1 x) (q2 : Fq 1 s2 M2 E2 y) (h : E2 < E1) : Calls Tryz.prog 61 #[.agg #[.int .i64 1, .bool s1, .int .u64 M1, .int .i64 E1], .agg #[.int .i64 1, .bool s2, .int .u64 M2, .int .i64 E2]] w (PW6 w fun up => addp up x y) := by
  obtain ⟨a1, a2, a3, a4, _⟩ := fq_vr q1; obtain ⟨b1, b2, b3, b4, _⟩ := fq_vr q2; have HO := Lib.hid (h); obtain ⟨n, hn⟩ : ∃ n : Nat, (n : Int) = E1 - E2 + 1 := ⟨(E1 - E2 + 1).toNat, by omega⟩
  have hsw : ∀ (S : Int) up, S = M1 * 9223372036854775808 + sgi (s1 != s2) (mvd M2 n) → 0 ≤ S ∧ S < 340282366920938463463374607431768211456 ∧ rnd up (mk (sgi s1 S) (E1 + 1 - 64)).1 (mk (sgi s1 S) (E1 + 1 - 64)).2 = addp up x y := fun S up hS => by
    obtain ⟨u1, u2, u3⟩ := sum_wide up q1 q2 (by omega) hn hS; refine ⟨u1, u2, ?_⟩
    rw [show E1 + 1 - 64 = E1 - 63 by omega, u3]
  have HSW := Lib.hid hsw; obtain ⟨N, hN⟩ : ∃ N, (n : Int) = N := ⟨_, rfl⟩; obtain ⟨D, hD⟩ : ∃ D, E1 - E2 = D := ⟨_, rfl⟩
  have n1 : 1 ≤ n := by omega
  have n3 : n ≤ 4000000 := by omega
  have HN := Lib.hid hN
  have HD := Lib.hid (show IntKind.i64.wrap (E1 - E2) = D by rw [hD]; exact IntWalk.i64_in _ (by omega))
  have HD2 := Lib.hid (show IntKind.i64.wrap (D + 1) = N by rw [show D + 1 = N by omega]; exact IntWalk.i64_in _ (by omega))
  obtain ⟨Y, hY⟩ : ∃ Y, E2 + N = Y := ⟨_, rfl⟩; have HY := Lib.hid hY; obtain ⟨Z, hZ⟩ : ∃ Z, E1 + 1 = Z := ⟨_, rfl⟩; have HZ := Lib.hid hZ
  have z1 : -2900000 ≤ Z := by omega
  have z2 : Z ≤ 2900000 := by omega
  have v1 : mvd M1 1 = M1 * 9223372036854775808 := by
    unfold mvd
    rw [if_pos (by decide)]
    rfl
  have HV1 := Lib.hid v1
  have g1 : 9223372036854775808 ≤ M1 := by omega
  have g2 : M1 < 18446744073709551616 := by omega
  have g3 : -2000000 ≤ E1 := by omega
  have g4 : E1 ≤ 2000000 := by omega
  have k1 : 9223372036854775808 ≤ M2 := by omega
  have k2 : M2 < 18446744073709551616 := by omega
  have k3 : -2000000 ≤ E2 := by omega
  have k4 : E2 ≤ 2000000 := by omega
  clear hn hN hD hY hZ v1 hsw h q1 q2 a1 a2 a3 a4 b1 b2 b3 b4
  go_enter Tryz.func61, Tryz.ntmps61
  go_upto_region 1 with (fail)
  generalize hW1 : ((w.alloc _).alloc _).alloc _ = w1 at *; obtain ⟨X2, X3, XR, HB⟩ := Bo.en3 hW1; replace hT := hT.below HB.out; clear hW1; obtain ⟨xX20, xX21, xX22, xX23⟩ := X2.u4; obtain ⟨xX30, xX31, xX32, xX33⟩ := X3.u4
  go_wp2_with fail
  refine (order_gt HO.out).mono ?_; rintro ee w2 ⟨rfl, B⟩; clear xX20 xX21 xX22 xX23 xX30 xX31 xX32 xX33; replace X2 := X2.below B; replace X3 := X3.below B; replace XR := XR.below B; replace hT := hT.below B; replace HB := Lib.hid (bt HB.out B); clear B
  go_upto_region 2 with (fail)
  clear X2 X3
  have hsz : (World.alloc w2 (.cells #[.int .i64 1, .bool s1, .int .u64 M1, .int .i64 E1] 24)).heap.size = w2.heap.size + 1 := by simp
  have lX5 := Nat.le_refl (World.heap w2).size; have nX5XR := XR.lt; replace XR := XR.below (bel1 _ (.cells #[.int .i64 1, .bool s1, .int .u64 M1, .int .i64 E1] 24)); replace hT := hT.below (bel1 _ (.cells #[.int .i64 1, .bool s1, .int .u64 M1, .int .i64 E1] 24)); replace HB := Lib.hid (bt HB.out (bel1 _ (.cells #[.int .i64 1, .bool s1, .int .u64 M1, .int .i64 E1] 24))); have X5 := Bo.new w2 #[.int .i64 1, .bool s1, .int .u64 M1, .int .i64 E1] 24
  generalize hWn : World.alloc w2 (.cells #[.int .i64 1, .bool s1, .int .u64 M1, .int .i64 E1] 24) = w3 at *; clear hWn; have lX6 := Nat.le_refl (World.heap w3).size; have nX6XR := XR.lt; have nX6X5 := X5.lt; generalize hWn : w3.alloc _ = w4 at *; obtain ⟨X6, BW⟩ := Bo.nw hWn; clear hWn; replace XR := XR.below BW; replace X5 := X5.below BW; replace hT := hT.below BW; replace HB := Lib.hid (bt HB.out BW)
  clear BW; rw [hsz] at X6 nX6X5 nX6XR; clear lX5 lX6 hsz; obtain ⟨xX50, xX51, xX52, xX53⟩ := X5.u4
  go_wp2_with fail
  refine (aMoved (n := 1) (s := s1) hT g1 g2 (by rfl) HZ.out g3 g4 (by decide) (by decide)).mono ?_; rintro ee w5 ⟨H1, L1, rfl, p1, B⟩; clear xX50 xX51 xX52 xX53; replace XR := XR.below B; replace X5 := X5.below B; replace X6 := X6.below B; replace hT := hT.below B; replace HB := Lib.hid (bt HB.out B); clear B; rw [HV1.out] at p1
  go_upto_region 3 with (fail)
  have lX7 := Nat.le_refl (World.heap w5).size; have nX7XR := XR.lt; have nX7X5 := X5.lt; have nX7X6 := X6.lt; generalize hWn : w5.alloc _ = w6 at *; obtain ⟨X7, BW⟩ := Bo.nw hWn; clear hWn; replace XR := XR.below BW; replace X5 := X5.below BW; replace X6 := X6.below BW; replace hT := hT.below BW; replace HB := Lib.hid (bt HB.out BW); clear BW; clear lX7; obtain ⟨xX50, xX51, xX52, xX53⟩ := X5.u4; obtain ⟨xX60, xX61, xX62, xX63⟩ := X6.u4
  have hd := HD.out; have hd2 := HD2.out
  go_wp2_with fail
  refine (aMoved (s := s2) hT k1 k2 HN.out HY.out k3 k4 n1 n3).mono ?_; rintro ee w7 ⟨H2, L2, rfl, p2, B⟩; clear xX50 xX51 xX52 xX53 xX60 xX61 xX62 xX63; replace XR := XR.below B; replace X5 := X5.below B; replace X6 := X6.below B; replace X7 := X7.below B; replace hT := hT.below B; replace HB := Lib.hid (bt HB.out B); clear B; clear hd hd2
  go_upto_region 5 with (fail)
  have lX8 := Nat.le_refl (World.heap w7).size; have nX8XR := XR.lt; have nX8X5 := X5.lt; have nX8X6 := X6.lt; have nX8X7 := X7.lt; generalize hWn : w7.alloc _ = w8 at *; obtain ⟨X8, BW⟩ := Bo.nw hWn; clear hWn; replace XR := XR.below BW; replace X5 := X5.below BW; replace X6 := X6.below BW; replace X7 := X7.below BW; replace hT := hT.below BW; replace HB := Lib.hid (bt HB.out BW); clear BW; clear lX8
  by_cases hs : s1 = s2
  · subst hs
    have hxor : (s1 != s1) = false := by cases s1 <;> rfl
    have hswv := HSW.out (M1 * 9223372036854775808 + mvd M2 n); rw [hxor, wsg_f] at hswv; have hb := (hswv true rfl).2.1; obtain ⟨S, c, T, d, f1, f2, f3, f4, c0, c1, o1, o2, o3, o4, o5⟩ := add_words p1 p2 hb
    have ha1 := fun W : World => aAdd64 W p1.2.2.1 p2.2.2.1 (by decide) (by decide) f1 f2
    have ha2 := fun W : World => aAdd64 W p1.1 p2.1 c0 c1 f3 f4
    have OO := Lib.hid (And.intro o5 hswv)
    clear f1 f2 f3 f4 p1 p2 hb hswv o5; obtain ⟨xX50, xX51, xX52, xX53⟩ := X5.u4; obtain ⟨xX60, xX61, xX62, xX63⟩ := X6.u4; obtain ⟨xX70, xX71, xX72, xX73⟩ := X7.u4; have zX70 := X7.frozen; obtain ⟨xX80, xX81, xX82, xX83⟩ := X8.u4
    go_upto_region 7 with (simp only [ha1])
    clear xX50 xX51 xX52 xX53 xX60 xX61 xX62 xX63 xX70 zX70 xX71 xX72 xX73 xX80 xX81 xX82 xX83
    have SX : StN w8 (World.setCell w8 ⟨w5.heap.size, 2, none⟩ (.int .u64 S)) _ _ #[.bool s1, .int .u64 H1, .int .u64 S, .int .i64 Z] _ := StN.at4 X7 2 (.int .u64 S)
    replace XR := XR.stn SX (by omega); replace X5 := X5.stn SX (by omega); replace X6 := X6.stn SX (by omega); replace X8 := X8.stn SX (by omega); replace HB := Lib.hid (SX.below HB.out (by omega)); replace X7 := SX.box; clear SX; generalize World.setCell w8 ⟨w5.heap.size, 2, none⟩ (.int .u64 S) = w9 at *; obtain ⟨xX70, xX71, xX72, xX73⟩ := X7.u4; have zX70 := X7.frozen; obtain ⟨xX80, xX81, xX82, xX83⟩ := X8.u4
    go_upto_region 10 with (simp only [ha2])
    clear xX70 zX70 xX71 xX72 xX73 xX80 xX81 xX82 xX83
    have SX : StN w9 (World.setCell w9 ⟨w5.heap.size, 1, none⟩ (.int .u64 T)) _ _ #[.bool s1, .int .u64 T, .int .u64 S, .int .i64 Z] _ := StN.at4 X7 1 (.int .u64 T)
    replace XR := XR.stn SX (by omega); replace X5 := X5.stn SX (by omega); replace X6 := X6.stn SX (by omega); replace X8 := X8.stn SX (by omega); replace HB := Lib.hid (SX.below HB.out (by omega)); replace X7 := SX.box; clear SX; generalize World.setCell w9 ⟨w5.heap.size, 1, none⟩ (.int .u64 T) = wA at *; obtain ⟨xXR0, xXR1, xXR2, xXR3⟩ := XR.u4; have zXR0 := XR.frozen; obtain ⟨xX70, xX71, xX72, xX73⟩ := X7.u4
    go_wp2; clear xXR0 zXR0 xXR1 xXR2 xXR3 xX70 xX71 xX72 xX73; have SX := StN.mk4 XR (.bool s1) (.int .u64 T) (.int .u64 S) (.int .i64 Z)
    exact bodyPost_ret (v := .agg #[.bool s1, .int .u64 T, .int .u64 S, .int .i64 Z]) (by simp [results, Tryz.results61, go_sem, SX.box.cell]) rfl ⟨_, _, _, _, rfl, wd_of o3 o4 o1 o2 OO.out.1 z1 z2 fun up => by rw [← HZ.out]; exact (OO.out.2 up (by first | rfl | trivial)).2.2, (SX.below HB.out (by omega))⟩
  · have hxor : (s1 != s2) = true := by cases s1 <;> cases s2 <;> first | rfl | exact absurd rfl hs
    have hne : (s1 == s2) = false := by cases s1 <;> cases s2 <;> first | rfl | exact absurd rfl hs
    have hswv := HSW.out (M1 * 9223372036854775808 - mvd M2 n); rw [hxor, wsg_t] at hswv; have hb := (hswv true (by omega)).1; obtain ⟨S, c, T, d, f1, f2, f3, f4, c0, c1, o1, o2, o3, o4, o5⟩ := sub_words p1 p2 hb
    have ha1 := fun W : World => aSub64 W p1.2.2.1 p1.2.2.2.1 p2.2.2.1 p2.2.2.2.1 (by decide) (by decide) f1 f2
    have ha2 := fun W : World => aSub64 W p1.1 p1.2.1 p2.1 p2.2.1 c0 c1 f3 f4
    have OO := Lib.hid (And.intro o5 hswv)
    clear f1 f2 f3 f4 p1 p2 hb hswv o5; obtain ⟨xX50, xX51, xX52, xX53⟩ := X5.u4; obtain ⟨xX60, xX61, xX62, xX63⟩ := X6.u4; obtain ⟨xX70, xX71, xX72, xX73⟩ := X7.u4; have zX70 := X7.frozen; obtain ⟨xX80, xX81, xX82, xX83⟩ := X8.u4
    go_upto_region 9 with (simp only [ha1])
    clear xX50 xX51 xX52 xX53 xX60 xX61 xX62 xX63 xX70 zX70 xX71 xX72 xX73 xX80 xX81 xX82 xX83
    have SX : StN w8 (World.setCell w8 ⟨w5.heap.size, 2, none⟩ (.int .u64 S)) _ _ #[.bool s1, .int .u64 H1, .int .u64 S, .int .i64 Z] _ := StN.at4 X7 2 (.int .u64 S)
    replace XR := XR.stn SX (by omega); replace X5 := X5.stn SX (by omega); replace X6 := X6.stn SX (by omega); replace X8 := X8.stn SX (by omega); replace HB := Lib.hid (SX.below HB.out (by omega)); replace X7 := SX.box; clear SX; generalize World.setCell w8 ⟨w5.heap.size, 2, none⟩ (.int .u64 S) = w9 at *; obtain ⟨xX70, xX71, xX72, xX73⟩ := X7.u4; have zX70 := X7.frozen; obtain ⟨xX80, xX81, xX82, xX83⟩ := X8.u4
    go_upto_region 10 with (simp only [ha2])
    clear xX70 zX70 xX71 xX72 xX73 xX80 xX81 xX82 xX83
    have SX : StN w9 (World.setCell w9 ⟨w5.heap.size, 1, none⟩ (.int .u64 T)) _ _ #[.bool s1, .int .u64 T, .int .u64 S, .int .i64 Z] _ := StN.at4 X7 1 (.int .u64 T)
    replace XR := XR.stn SX (by omega); replace X5 := X5.stn SX (by omega); replace X6 := X6.stn SX (by omega); replace X8 := X8.stn SX (by omega); replace HB := Lib.hid (SX.below HB.out (by omega)); replace X7 := SX.box; clear SX; generalize World.setCell w9 ⟨w5.heap.size, 1, none⟩ (.int .u64 T) = wA at *; obtain ⟨xXR0, xXR1, xXR2, xXR3⟩ := XR.u4; have zXR0 := XR.frozen; obtain ⟨xX70, xX71, xX72, xX73⟩ := X7.u4
    go_wp2; clear xXR0 zXR0 xXR1 xXR2 xXR3 xX70 xX71 xX72 xX73; have SX := StN.mk4 XR (.bool s1) (.int .u64 T) (.int .u64 S) (.int .i64 Z)
    exact bodyPost_ret (v := .agg #[.bool s1, .int .u64 T, .int .u64 S, .int .i64 Z]) (by simp [results, Tryz.results61, go_sem, SX.box.cell]) rfl ⟨_, _, _, _, rfl, wd_of o3 o4 o1 o2 OO.out.1 z1 z2 fun up => by rw [← HZ.out]; exact (OO.out.2 up (by omega)).2.2, (SX.below HB.out (by omega))⟩
theorem aSum2 {w : World} {s1 s2 : Bool} {M1 M2 E1 E2 x y : Int} (hT : Tb w) (q1 : Fq 1 s1 M1 E1 x) (q2 : Fq 1 s2 M2 E2 y) : Calls Tryz.prog 61 #[.agg #[.int .i64 1, .bool s1, .int .u64 M1, .int .i64 E1], .agg #[.int .i64 1, .bool s2, .int .u64 M2, .int .i64 E2]] w (PW6 w fun up => addp up x y) := by
  rcases Int.lt_trichotomy E1 E2 with h | h | h
  · exact sum_lt hT q1 q2 h
  · by_cases hm : M1 < M2
    · exact sum_eqlt hT q1 q2 h hm
    · exact sum_eqge hT q1 q2 h hm
  · exact sum_gt hT q1 q2 h
set_option maxHeartbeats 4000000 in
theorem aProduct {w : World} {s1 s2 : Bool} {M1 M2 E1 E2 x y : Int} (q1 : Fq 1 s1 M1 E1 x) (q2 : Fq 1 s2 M2 E2 y) : Calls Tryz.prog 68 #[.agg #[.int .i64 1, .bool s1, .int .u64 M1, .int .i64 E1], .agg #[.int .i64 1, .bool s2, .int .u64 M2, .int .i64 E2]] w (PW6 w fun up => mulp up x y) := by
  obtain ⟨a1, a2, a3, a4, _⟩ := fq_vr q1; obtain ⟨b1, b2, b3, b4, _⟩ := fq_vr q2; obtain ⟨u1, u2, _⟩ := pro_wide true q1 q2
  have HU := Lib.hid (fun up => (pro_wide up q1 q2).2.2)
  obtain ⟨G, hG⟩ : ∃ G, E1 + E2 = G := ⟨_, rfl⟩; obtain ⟨Z, hZ⟩ : ∃ Z, G + 64 = Z := ⟨_, rfl⟩
  have HG := Lib.hid (show IntKind.i64.wrap (E1 + E2) = G by rw [hG]; exact IntWalk.i64_in _ (by omega))
  have HZ := Lib.hid (show IntKind.i64.wrap (G + 64) = Z by rw [hZ]; exact IntWalk.i64_in _ (by omega))
  have HGZ := Lib.hid (And.intro hG hZ)
  obtain ⟨H, hH⟩ : ∃ H, M1 * M2 / 18446744073709551616 = H := ⟨_, rfl⟩; obtain ⟨L, hL⟩ : ∃ L, M1 * M2 % 18446744073709551616 = L := ⟨_, rfl⟩
  have z1 : -2900000 ≤ Z := by omega
  have z2 : Z ≤ 2900000 := by omega
  have HV : Hid (0 ≤ H ∧ H < 18446744073709551616 ∧ 0 ≤ L ∧ L < 18446744073709551616 ∧ H * 18446744073709551616 + L = M1 * M2) := Lib.hid (by
    revert u1 u2 hH hL
    generalize M1 * M2 = P
    intro u1 u2 hH hL
    omega)
  have HH := Lib.hid hH; have HL := Lib.hid hL
  have k1 : 0 ≤ M1 := by omega
  have k2 : 0 ≤ M2 := by omega
  clear u1 u2 hH hL hG hZ q1 q2 a1 a3 a4 b1 b3 b4
  go_enter Tryz.func68, Tryz.ntmps68
  go_upto_region 1 with (fail)
  generalize hW1 : ((w.alloc _).alloc _).alloc _ = w1 at *; obtain ⟨X2, X3, XR, HB⟩ := Bo.en3 hW1; clear hW1; obtain ⟨xX20, xX21, xX22, xX23⟩ := X2.u4; obtain ⟨xX30, xX31, xX32, xX33⟩ := X3.u4
  go_wp2_with fail
  refine (aMul64 _ k1 a2 k2 b2 HH.out HL.out).mono ?_; rintro ee w2 ⟨rfl, B⟩; clear xX20 xX21 xX22 xX23 xX30 xX31 xX32 xX33; replace X2 := X2.below B; replace X3 := X3.below B; replace XR := XR.below B; replace HB := Lib.hid (bt HB.out B); clear B; have hg := HG.out; have hz := HZ.out; obtain ⟨xXR0, xXR1, xXR2, xXR3⟩ := XR.u4; have zXR0 := XR.frozen; obtain ⟨xX20, xX21, xX22, xX23⟩ := X2.u4; obtain ⟨xX30, xX31, xX32, xX33⟩ := X3.u4
  go_wp2; clear xXR0 zXR0 xXR1 xXR2 xXR3 xX20 xX21 xX22 xX23 xX30 xX31 xX32 xX33; have SX := StN.mk4 XR (.bool (!(s1 == s2))) (.int .u64 H) (.int .u64 L) (.int .i64 Z)
  exact bodyPost_ret (v := .agg #[.bool (!(s1 == s2)), .int .u64 H, .int .u64 L, .int .i64 Z]) (by simp [results, Tryz.results68, go_sem, SX.box.cell]) rfl ⟨_, _, _, _, rfl, wd_of HV.out.1 HV.out.2.1 HV.out.2.2.1 HV.out.2.2.2.1 HV.out.2.2.2.2 z1 z2 fun up => by rw [← HU.out up, show (!(s1 == s2)) = (s1 != s2) from rfl, show Z - 64 = E1 + E2 by have := HGZ.out; omega], (SX.below HB.out (by omega))⟩
end Go.Proofs.YthhlccdmflgbbaaGreatDoor

/-
  What the sum, the product, the difference of two numbers, a half and twice a number are, rounded.
-/
namespace Go.Proofs.YthhlccdmflgbbaaGreatDoor
open Go.RowKit
set_option linter.unusedVariables false
set_option linter.unusedSimpArgs false
set_option maxRecDepth 100000

theorem fq_tk {D : Int} {s : Bool} {M E : Int} (hM : M < 18446744073709551616) : ∃ K1 s1 M1 E1, Fq K1 s1 M1 E1 (rk D s M E) := by
  by_cases hm : MayQ D s M E
  · exact ⟨_, _, _, _, rk_fq hM hm⟩
  · rw [rk_not hm]; exact ⟨_, _, _, _, Fq.nought⟩
set_option maxHeartbeats 2000000 in
theorem aTaken {w : World} {D M E : Int} {s : Bool} {K1 M1 E1 x : Int} {s1 : Bool} (hM : M < 18446744073709551616) (q : Fq K1 s1 M1 E1 x) (hx : rk D s M E = x) : Calls Tryz.prog 60 #[.agg #[.int .i64 D, .bool s, .int .u64 M, .int .i64 E]] w (fun e w' => e = .returned (.agg #[.int .i64 K1, .bool s1, .int .u64 M1, .int .i64 E1]) ∧ Below w.heap.size w w') := by
  by_cases hm : MayQ D s M E
  · obtain ⟨rfl, rfl, rfl, rfl⟩ := q.uniq (hx ▸ rk_fq hM hm)
    have HC := Lib.hid (show decide (MayQ K1 s1 M1 E1) = true from decide_eq_true hm)
    clear hm hx hM q
    go_enter Tryz.func60, Tryz.ntmps60
    go_upto_region 1 with (fail)
    generalize hW1 : (w.alloc _).alloc _ = w1 at *; obtain ⟨X1, XR, HB⟩ := Bo.en2 hW1; clear hW1; obtain ⟨xX10, xX11, xX12, xX13⟩ := X1.u4
    go_wp2_with fail
    refine (nMay HC.out).mono ?_; rintro ee w2 ⟨rfl, B⟩; clear xX10 xX11 xX12 xX13; replace X1 := X1.below B; replace XR := XR.below B; replace HB := Lib.hid (bt HB.out B); clear B; obtain ⟨xXR0, xXR1, xXR2, xXR3⟩ := XR.u4; have zXR0 := XR.frozen; obtain ⟨xX10, xX11, xX12, xX13⟩ := X1.u4; go_wp2; clear xXR0 zXR0 xXR1 xXR2 xXR3 xX10 xX11 xX12 xX13; have SX := StN.mk4 XR (.int .i64 K1) (.bool s1) (.int .u64 M1) (.int .i64 E1)
    exact bodyPost_ret (v := .agg #[.int .i64 K1, .bool s1, .int .u64 M1, .int .i64 E1]) (by simp [results, Tryz.results60, go_sem, SX.box.cell]) rfl ⟨rfl, (SX.below HB.out (by omega))⟩
  · rw [rk_not hm] at hx; subst hx; obtain ⟨rfl, rfl, rfl, rfl⟩ := q.uniq Fq.nought
    have HC := Lib.hid (show decide (MayQ D s M E) = false from decide_eq_false hm)
    clear hm hM q
    go_enter Tryz.func60, Tryz.ntmps60
    go_upto_region 1 with (fail)
    generalize hW1 : (w.alloc _).alloc _ = w1 at *; obtain ⟨X1, XR, HB⟩ := Bo.en2 hW1; clear hW1; obtain ⟨xX10, xX11, xX12, xX13⟩ := X1.u4
    go_wp2_with fail
    refine (nMay HC.out).mono ?_; rintro ee w2 ⟨rfl, B⟩; clear xX10 xX11 xX12 xX13; replace X1 := X1.below B; replace XR := XR.below B; replace HB := Lib.hid (bt HB.out B); clear B; obtain ⟨xXR0, xXR1, xXR2, xXR3⟩ := XR.u4; have zXR0 := XR.frozen; obtain ⟨xX10, xX11, xX12, xX13⟩ := X1.u4; go_wp2; clear xXR0 zXR0 xXR1 xXR2 xXR3 xX10 xX11 xX12 xX13; have SX := StN.mk4 XR (.int .i64 0) (.bool false) (.int .u64 0) (.int .i64 0)
    exact bodyPost_ret (v := .agg #[.int .i64 0, .bool false, .int .u64 0, .int .i64 0]) (by simp [results, Tryz.results60, go_sem, SX.box.cell]) rfl ⟨rfl, (SX.below HB.out (by omega))⟩
set_option maxHeartbeats 8000000 in
theorem aAdd {w : World} {D D' M M' E E' : Int} {s s' : Bool} {up : Bool} {x y r : Int} (hT : Tb w) (hM : M < 18446744073709551616) (hM' : M' < 18446744073709551616) (hx : rk D s M E = x) (hy : rk D' s' M' E' = y) (hr : addp up x y = r) : Calls Tryz.prog 38 #[.agg #[.int .i64 D, .bool s, .int .u64 M, .int .i64 E], .agg #[.int .i64 D', .bool s', .int .u64 M', .int .i64 E'], .bool up] w (PN w r) := by
  obtain ⟨K1, s1, M1, E1, q1⟩ := fq_tk (D := D) (s := s) (M := M) (E := E) hM; obtain ⟨K2, s2, M2, E2, q2⟩ := fq_tk (D := D') (s := s') (M := M') (E := E') hM'; rw [hx] at q1; rw [hy] at q2; have HX := Lib.hid hx; have HY := Lib.hid hy; clear hx hy
  go_enter Tryz.func38, Tryz.ntmps38
  go_upto_region 1 with (fail)
  generalize hW1 : ((w.alloc _).alloc _).alloc _ = w1 at *; obtain ⟨X3, X4, XR, HB⟩ := Bo.en3 hW1; replace hT := hT.below HB.out; clear hW1; refine Jo.rj [0, 1, 2, 3] [some 7, some 8, some 9, some 10, none, none] [[], [0], [], [2], [], []] 6 [(some 7, 0), (some 8, 1), (some 9, 2), (some 10, 3)] 2 [Jo.q4 D s M E, Jo.q4 K1 s1 M1 E1, Jo.q4 D' s' M' E', Jo.q4 K2 s2 M2 E2, Jo.Fact.any, Jo.Fact.any] (by kernel_rfl) (by kernel_rfl) (by decide) rfl rfl ?_ ?_
  · refine Jo.jn 0 (some 7) [] _ rfl rfl rfl rfl ?_ ?_
    · rintro wj hJ K hK; simp only [Jo.z] at hK ⊢; obtain ⟨xX30, xX31, xX32, xX33⟩ := (X3.below hJ).u4; go_simp; exact hK.out _ _ rfl (br _ _)
    refine Jo.jn 1 (some 8) [(some 7, 0)] _ rfl rfl rfl rfl ?_ ?_
    · rintro wj hJ _ rfl K hK; simp only [Jo.z] at hK ⊢; go_simp; refine (aTaken hM q1 HX.out).mono ?_; rintro ee wk ⟨rfl, B⟩; exact hK.out _ _ rfl B
    refine Jo.jn 2 (some 9) [] _ rfl rfl rfl rfl ?_ ?_
    · rintro wj hJ K hK; simp only [Jo.z] at hK ⊢; obtain ⟨xX40, xX41, xX42, xX43⟩ := (X4.below hJ).u4; go_simp; exact hK.out _ _ rfl (br _ _)
    refine Jo.jn 3 (some 10) [(some 9, 2)] _ rfl rfl rfl rfl ?_ ?_
    · rintro wj hJ _ rfl K hK; simp only [Jo.z] at hK ⊢; go_simp; refine (aTaken hM' q2 HY.out).mono ?_; rintro ee wk ⟨rfl, B⟩; exact hK.out _ _ rfl B
    exact Jo.Steps.nil
  rintro w2 hJ _ rfl _ rfl _ rfl _ rfl -; simp only [Jo.z]; replace X3 := X3.below hJ; replace X4 := X4.below hJ; replace XR := XR.below hJ; replace hT := hT.below hJ; replace HB := Lib.hid (bt HB.out hJ); obtain ⟨xX30, xX31, xX32, xX33⟩ := X3.u4; have zX30 := X3.frozen
  refine Jo.jnext (i := 4) (o := ⟨none, _, _, _, _, _⟩) (by kernel_rfl) rfl (fun K hK => ?_)
  go_simp; refine hK.out _ _ ?_; clear hK K xX30 zX30 xX31 xX32 xX33; generalize hS : (((w2.setCell _ _).setCell _ _).setCell _ _).setCell _ _ = w3 at *; have SX := StN.of4 X3 hS; replace X4 := X4.stn SX (by omega); replace XR := XR.stn SX (by omega); replace hT := hT.stn SX (by simp [no8]); replace HB := Lib.hid (SX.below HB.out (by omega)); replace X3 := SX.box; clear SX hS; obtain ⟨xX40, xX41, xX42, xX43⟩ := X4.u4
  have zX40 := X4.frozen
  refine Jo.jnext (i := 5) (o := ⟨none, _, _, _, _, _⟩) (by kernel_rfl) rfl (fun K hK => ?_)
  go_simp; refine hK.out _ _ ?_; clear hK K xX40 zX40 xX41 xX42 xX43; generalize hS : (((w3.setCell _ _).setCell _ _).setCell _ _).setCell _ _ = w4 at *; have SX := StN.of4 X4 hS; replace X3 := X3.stn SX (by omega); replace XR := XR.stn SX (by omega); replace hT := hT.stn SX (by simp [no8]); replace HB := Lib.hid (SX.below HB.out (by omega)); replace X4 := SX.box; clear SX hS; refine Jo.jdone (by kernel_rfl) ?_
  clear HX HY hM hM'; have i1 := fq_inf q1; have i2 := fq_inf q2; have z1 := q1.zero_iff; have z2 := q2.zero_iff; have d1 := q1.bd; have d2 := q2.bd
  have kk1 : K1 = 2 ∨ K1 = 0 ∨ K1 = 1 := by rcases q1.cases with ⟨h, _⟩ | ⟨h, _⟩ | ⟨h, _⟩ <;> omega
  have kk2 : K2 = 2 ∨ K2 = 0 ∨ K2 = 1 := by rcases q2.cases with ⟨h, _⟩ | ⟨h, _⟩ | ⟨h, _⟩ <;> omega
  rcases kk1 with rfl | rfl | rfl
  · rcases kk2 with rfl | rfl | rfl
    · by_cases ks : s1 = s2
      · rw [addp_same up i1 ((fq_same q1 q2).2 ks)] at hr; subst hr; subst ks; clear i1 i2 z1 z2 d1 d2 q2; obtain ⟨xXR0, xXR1, xXR2, xXR3⟩ := XR.u4; have zXR0 := XR.frozen; obtain ⟨xX30, xX31, xX32, xX33⟩ := X3.u4; obtain ⟨xX40, xX41, xX42, xX43⟩ := X4.u4; go_wp2; clear xXR0 zXR0 xXR1 xXR2 xXR3 xX30 xX31 xX32 xX33 xX40 xX41 xX42 xX43; have SX := StN.mk4 XR (.int .i64 2) (.bool s1) (.int .u64 M1) (.int .i64 E1)
        exact bodyPost_ret (by simp [results, Tryz.results38, go_sem, SX.box.cell]) rfl ⟨_, _, _, _, rfl, q1, (SX.below HB.out (by omega))⟩
      · rw [addp_diff up i1 i2 (fun e => ks ((fq_same q1 q2).1 e))] at hr
        obtain rfl : (!s1) = s2 := by cases s1 <;> cases s2 <;> first | rfl | exact absurd rfl ks
        have e2 : (s1 == !s1) = false := by cases s1 <;> rfl
        have HRR := Lib.hid hr; clear i1 i2 z1 z2 d1 d2 q1 q2 hr ks; obtain ⟨xX30, xX31, xX32, xX33⟩ := X3.u4; obtain ⟨xX40, xX41, xX42, xX43⟩ := X4.u4
        go_wp2_with fail
        refine (nInf (s := !up) HRR.out).mono ?_; rintro ee w5 ⟨K3, s3, M3, E3, rfl, q3, B⟩; clear xX30 xX31 xX32 xX33 xX40 xX41 xX42 xX43; replace X3 := X3.below B; replace X4 := X4.below B; replace XR := XR.below B; replace HB := Lib.hid (bt HB.out B); clear B; obtain ⟨xXR0, xXR1, xXR2, xXR3⟩ := XR.u4; have zXR0 := XR.frozen; go_wp2; clear xXR0 zXR0 xXR1 xXR2 xXR3; have SX := StN.mk4 XR (.int .i64 K3) (.bool s3) (.int .u64 M3) (.int .i64 E3)
        exact bodyPost_ret (by simp [results, Tryz.results38, go_sem, SX.box.cell]) rfl ⟨_, _, _, _, rfl, q3, (SX.below HB.out (by omega))⟩
    · rw [addp_tf up i1 i2] at hr; subst hr; clear i1 i2 z1 z2 d1 d2 q2; obtain ⟨xXR0, xXR1, xXR2, xXR3⟩ := XR.u4; have zXR0 := XR.frozen; obtain ⟨xX30, xX31, xX32, xX33⟩ := X3.u4; obtain ⟨xX40, xX41, xX42, xX43⟩ := X4.u4; go_wp2; clear xXR0 zXR0 xXR1 xXR2 xXR3 xX30 xX31 xX32 xX33 xX40 xX41 xX42 xX43; have SX := StN.mk4 XR (.int .i64 2) (.bool s1) (.int .u64 M1) (.int .i64 E1); exact bodyPost_ret (by simp [results, Tryz.results38, go_sem, SX.box.cell]) rfl ⟨_, _, _, _, rfl, q1, (SX.below HB.out (by omega))⟩
    · rw [addp_tf up i1 i2] at hr; subst hr; clear i1 i2 z1 z2 d1 d2 q2; obtain ⟨xXR0, xXR1, xXR2, xXR3⟩ := XR.u4; have zXR0 := XR.frozen; obtain ⟨xX30, xX31, xX32, xX33⟩ := X3.u4; obtain ⟨xX40, xX41, xX42, xX43⟩ := X4.u4; go_wp2; clear xXR0 zXR0 xXR1 xXR2 xXR3 xX30 xX31 xX32 xX33 xX40 xX41 xX42 xX43; have SX := StN.mk4 XR (.int .i64 2) (.bool s1) (.int .u64 M1) (.int .i64 E1); exact bodyPost_ret (by simp [results, Tryz.results38, go_sem, SX.box.cell]) rfl ⟨_, _, _, _, rfl, q1, (SX.below HB.out (by omega))⟩
  · rcases kk2 with rfl | rfl | rfl
    · rw [addp_ft up i1 i2] at hr; subst hr; clear i1 i2 z1 z2 d1 d2 q1; obtain ⟨xXR0, xXR1, xXR2, xXR3⟩ := XR.u4; have zXR0 := XR.frozen; obtain ⟨xX30, xX31, xX32, xX33⟩ := X3.u4; obtain ⟨xX40, xX41, xX42, xX43⟩ := X4.u4; go_wp2; clear xXR0 zXR0 xXR1 xXR2 xXR3 xX30 xX31 xX32 xX33 xX40 xX41 xX42 xX43; have SX := StN.mk4 XR (.int .i64 2) (.bool s2) (.int .u64 M2) (.int .i64 E2); exact bodyPost_ret (by simp [results, Tryz.results38, go_sem, SX.box.cell]) rfl ⟨_, _, _, _, rfl, q2, (SX.below HB.out (by omega))⟩
    · rw [z2.1 rfl, addp_zero up d1.1 d1.2] at hr; subst hr; clear i1 i2 z1 z2 d1 d2 q2; obtain ⟨xXR0, xXR1, xXR2, xXR3⟩ := XR.u4; have zXR0 := XR.frozen; obtain ⟨xX30, xX31, xX32, xX33⟩ := X3.u4; obtain ⟨xX40, xX41, xX42, xX43⟩ := X4.u4; go_wp2; clear xXR0 zXR0 xXR1 xXR2 xXR3 xX30 xX31 xX32 xX33 xX40 xX41 xX42 xX43; have SX := StN.mk4 XR (.int .i64 0) (.bool s1) (.int .u64 M1) (.int .i64 E1); exact bodyPost_ret (by simp [results, Tryz.results38, go_sem, SX.box.cell]) rfl ⟨_, _, _, _, rfl, q1, (SX.below HB.out (by omega))⟩
    · rw [z1.1 rfl, addp_comm, addp_zero up d2.1 d2.2] at hr; subst hr; clear i1 i2 z1 z2 d1 d2 q1; obtain ⟨xXR0, xXR1, xXR2, xXR3⟩ := XR.u4; have zXR0 := XR.frozen; obtain ⟨xX30, xX31, xX32, xX33⟩ := X3.u4; obtain ⟨xX40, xX41, xX42, xX43⟩ := X4.u4; go_wp2; clear xXR0 zXR0 xXR1 xXR2 xXR3 xX30 xX31 xX32 xX33 xX40 xX41 xX42 xX43; have SX := StN.mk4 XR (.int .i64 1) (.bool s2) (.int .u64 M2) (.int .i64 E2)
      exact bodyPost_ret (by simp [results, Tryz.results38, go_sem, SX.box.cell]) rfl ⟨_, _, _, _, rfl, q2, (SX.below HB.out (by omega))⟩
  · rcases kk2 with rfl | rfl | rfl
    · rw [addp_ft up i1 i2] at hr; subst hr; clear i1 i2 z1 z2 d1 d2 q1; obtain ⟨xXR0, xXR1, xXR2, xXR3⟩ := XR.u4; have zXR0 := XR.frozen; obtain ⟨xX30, xX31, xX32, xX33⟩ := X3.u4; obtain ⟨xX40, xX41, xX42, xX43⟩ := X4.u4; go_wp2; clear xXR0 zXR0 xXR1 xXR2 xXR3 xX30 xX31 xX32 xX33 xX40 xX41 xX42 xX43; have SX := StN.mk4 XR (.int .i64 2) (.bool s2) (.int .u64 M2) (.int .i64 E2); exact bodyPost_ret (by simp [results, Tryz.results38, go_sem, SX.box.cell]) rfl ⟨_, _, _, _, rfl, q2, (SX.below HB.out (by omega))⟩
    · rw [z2.1 rfl, addp_zero up d1.1 d1.2] at hr; subst hr; clear i1 i2 z1 z2 d1 d2 q2; obtain ⟨xXR0, xXR1, xXR2, xXR3⟩ := XR.u4; have zXR0 := XR.frozen; obtain ⟨xX30, xX31, xX32, xX33⟩ := X3.u4; obtain ⟨xX40, xX41, xX42, xX43⟩ := X4.u4; go_wp2; clear xXR0 zXR0 xXR1 xXR2 xXR3 xX30 xX31 xX32 xX33 xX40 xX41 xX42 xX43; have SX := StN.mk4 XR (.int .i64 1) (.bool s1) (.int .u64 M1) (.int .i64 E1); exact bodyPost_ret (by simp [results, Tryz.results38, go_sem, SX.box.cell]) rfl ⟨_, _, _, _, rfl, q1, (SX.below HB.out (by omega))⟩
    · have HRR := Lib.hid hr; clear i1 i2 z1 z2 d1 d2 hr; obtain ⟨xX30, xX31, xX32, xX33⟩ := X3.u4; obtain ⟨xX40, xX41, xX42, xX43⟩ := X4.u4
      go_wp2_with fail
      refine (aSum2 hT q1 q2).mono ?_; rintro ee w5 ⟨s3, H3, L3, x3, rfl, p3, B⟩; clear xX30 xX31 xX32 xX33 xX40 xX41 xX42 xX43; replace X3 := X3.below B; replace X4 := X4.below B; replace XR := XR.below B; replace hT := hT.below B; replace HB := Lib.hid (bt HB.out B); clear B
      go_wp2_with fail
      refine (aRound p3 HRR.out).mono ?_; rintro ee w6 ⟨K4, s4, M4, E4, rfl, q4, B⟩; replace X3 := X3.below B; replace X4 := X4.below B; replace XR := XR.below B; replace HB := Lib.hid (bt HB.out B); clear B; obtain ⟨xXR0, xXR1, xXR2, xXR3⟩ := XR.u4; have zXR0 := XR.frozen; go_wp2; clear xXR0 zXR0 xXR1 xXR2 xXR3; have SX := StN.mk4 XR (.int .i64 K4) (.bool s4) (.int .u64 M4) (.int .i64 E4); exact bodyPost_ret (by simp [results, Tryz.results38, go_sem, SX.box.cell]) rfl ⟨_, _, _, _, rfl, q4, (SX.below HB.out (by omega))⟩
set_option maxHeartbeats 8000000 in
theorem aMul {w : World} {D D' M M' E E' : Int} {s s' : Bool} {up : Bool} {x y r : Int} (hM : M < 18446744073709551616) (hM' : M' < 18446744073709551616) (hx : rk D s M E = x) (hy : rk D' s' M' E' = y) (hr : mulp up x y = r) : Calls Tryz.prog 50 #[.agg #[.int .i64 D, .bool s, .int .u64 M, .int .i64 E], .agg #[.int .i64 D', .bool s', .int .u64 M', .int .i64 E'], .bool up] w (PN w r) := by
  obtain ⟨K1, s1, M1, E1, q1⟩ := fq_tk (D := D) (s := s) (M := M) (E := E) hM; obtain ⟨K2, s2, M2, E2, q2⟩ := fq_tk (D := D') (s := s') (M := M') (E := E') hM'; rw [hx] at q1; rw [hy] at q2; have HX := Lib.hid hx; have HY := Lib.hid hy; clear hx hy
  go_enter Tryz.func50, Tryz.ntmps50
  go_upto_region 1 with (fail)
  generalize hW1 : ((w.alloc _).alloc _).alloc _ = w1 at *; obtain ⟨X3, X4, XR, HB⟩ := Bo.en3 hW1; clear hW1; refine Jo.rj [0, 1, 2, 3] [some 7, some 8, some 9, some 10, none, none] [[], [0], [], [2], [], []] 6 [(some 7, 0), (some 8, 1), (some 9, 2), (some 10, 3)] 2 [Jo.q4 D s M E, Jo.q4 K1 s1 M1 E1, Jo.q4 D' s' M' E', Jo.q4 K2 s2 M2 E2, Jo.Fact.any, Jo.Fact.any] (by kernel_rfl) (by kernel_rfl) (by decide) rfl rfl ?_ ?_
  · refine Jo.jn 0 (some 7) [] _ rfl rfl rfl rfl ?_ ?_
    · rintro wj hJ K hK; simp only [Jo.z] at hK ⊢; obtain ⟨xX30, xX31, xX32, xX33⟩ := (X3.below hJ).u4; go_simp; exact hK.out _ _ rfl (br _ _)
    refine Jo.jn 1 (some 8) [(some 7, 0)] _ rfl rfl rfl rfl ?_ ?_
    · rintro wj hJ _ rfl K hK; simp only [Jo.z] at hK ⊢; go_simp; refine (aTaken hM q1 HX.out).mono ?_; rintro ee wk ⟨rfl, B⟩; exact hK.out _ _ rfl B
    refine Jo.jn 2 (some 9) [] _ rfl rfl rfl rfl ?_ ?_
    · rintro wj hJ K hK; simp only [Jo.z] at hK ⊢; obtain ⟨xX40, xX41, xX42, xX43⟩ := (X4.below hJ).u4; go_simp; exact hK.out _ _ rfl (br _ _)
    refine Jo.jn 3 (some 10) [(some 9, 2)] _ rfl rfl rfl rfl ?_ ?_
    · rintro wj hJ _ rfl K hK; simp only [Jo.z] at hK ⊢; go_simp; refine (aTaken hM' q2 HY.out).mono ?_; rintro ee wk ⟨rfl, B⟩; exact hK.out _ _ rfl B
    exact Jo.Steps.nil
  rintro w2 hJ _ rfl _ rfl _ rfl _ rfl -; simp only [Jo.z]; replace X3 := X3.below hJ; replace X4 := X4.below hJ; replace XR := XR.below hJ; replace HB := Lib.hid (bt HB.out hJ); obtain ⟨xX30, xX31, xX32, xX33⟩ := X3.u4; have zX30 := X3.frozen
  refine Jo.jnext (i := 4) (o := ⟨none, _, _, _, _, _⟩) (by kernel_rfl) rfl (fun K hK => ?_)
  go_simp; refine hK.out _ _ ?_; clear hK K xX30 zX30 xX31 xX32 xX33; generalize hS : (((w2.setCell _ _).setCell _ _).setCell _ _).setCell _ _ = w3 at *; have SX := StN.of4 X3 hS; replace X4 := X4.stn SX (by omega); replace XR := XR.stn SX (by omega); replace HB := Lib.hid (SX.below HB.out (by omega)); replace X3 := SX.box; clear SX hS; obtain ⟨xX40, xX41, xX42, xX43⟩ := X4.u4; have zX40 := X4.frozen
  refine Jo.jnext (i := 5) (o := ⟨none, _, _, _, _, _⟩) (by kernel_rfl) rfl (fun K hK => ?_)
  go_simp; refine hK.out _ _ ?_; clear hK K xX40 zX40 xX41 xX42 xX43; generalize hS : (((w3.setCell _ _).setCell _ _).setCell _ _).setCell _ _ = w4 at *; have SX := StN.of4 X4 hS; replace X3 := X3.stn SX (by omega); replace XR := XR.stn SX (by omega); replace HB := Lib.hid (SX.below HB.out (by omega)); replace X4 := SX.box; clear SX hS; refine Jo.jdone (by kernel_rfl) ?_; clear HX HY hM hM'; have i1 := fq_inf q1
  have i2 := fq_inf q2; have z1 := q1.zero_iff; have z2 := q2.zero_iff; have d1 := q1.bd; have d2 := q2.bd
  have kk1 : K1 = 2 ∨ K1 = 0 ∨ K1 = 1 := by rcases q1.cases with ⟨h, _⟩ | ⟨h, _⟩ | ⟨h, _⟩ <;> omega
  have kk2 : K2 = 2 ∨ K2 = 0 ∨ K2 = 1 := by rcases q2.cases with ⟨h, _⟩ | ⟨h, _⟩ | ⟨h, _⟩ <;> omega
  rcases kk1 with rfl | rfl | rfl
  · rcases kk2 with rfl | rfl | rfl
    · have hnz : ¬ (x = 0 ∨ y = 0) := fun c => c.elim (fun c => absurd (z1.2 c) (by decide)) (fun c => absurd (z2.2 c) (by decide))
      have sx : decide (x < 0) = s1 := by
        rcases q1.three with ⟨a, _⟩ | ⟨_, rfl, b⟩ | ⟨_, rfl, b⟩
        · exact absurd a (by decide)
        · exact decide_eq_false (by omega)
        · exact decide_eq_true b
      have sy : decide (y < 0) = s2 := by
        rcases q2.three with ⟨a, _⟩ | ⟨_, rfl, b⟩ | ⟨_, rfl, b⟩
        · exact absurd a (by decide)
        · exact decide_eq_false (by omega)
        · exact decide_eq_true b
      rw [mulp_inf up hnz (.inl i1), sx, sy] at hr; have HRR := Lib.hid hr; clear i1 i2 z1 z2 d1 d2 q1 q2 hr sx sy hnz; obtain ⟨xX30, xX31, xX32, xX33⟩ := X3.u4; obtain ⟨xX40, xX41, xX42, xX43⟩ := X4.u4
      go_wp2_with fail
      refine (nInf (s := s1 != s2) HRR.out).mono ?_; rintro ee w5 ⟨K3, s3, M3, E3, rfl, q3, B⟩; clear xX30 xX31 xX32 xX33 xX40 xX41 xX42 xX43; replace X3 := X3.below B; replace X4 := X4.below B; replace XR := XR.below B; replace HB := Lib.hid (bt HB.out B); clear B; obtain ⟨xXR0, xXR1, xXR2, xXR3⟩ := XR.u4; have zXR0 := XR.frozen; go_wp2; clear xXR0 zXR0 xXR1 xXR2 xXR3; have SX := StN.mk4 XR (.int .i64 K3) (.bool s3) (.int .u64 M3) (.int .i64 E3)
      exact bodyPost_ret (by simp [results, Tryz.results50, go_sem, SX.box.cell]) rfl ⟨_, _, _, _, rfl, q3, (SX.below HB.out (by omega))⟩
    · rw [mulp_zero up (.inr (z2.1 rfl))] at hr; subst hr; clear i1 i2 z1 z2 d1 d2 q1 q2; obtain ⟨xXR0, xXR1, xXR2, xXR3⟩ := XR.u4; have zXR0 := XR.frozen; obtain ⟨xX30, xX31, xX32, xX33⟩ := X3.u4; obtain ⟨xX40, xX41, xX42, xX43⟩ := X4.u4; go_wp2; clear xXR0 zXR0 xXR1 xXR2 xXR3 xX30 xX31 xX32 xX33 xX40 xX41 xX42 xX43; have SX := StN.mk4 XR (.int .i64 0) (.bool false) (.int .u64 0) (.int .i64 0); exact bodyPost_ret (by simp [results, Tryz.results50, go_sem, SX.box.cell]) rfl ⟨_, _, _, _, rfl, Fq.nought, (SX.below HB.out (by omega))⟩
    · have hnz : ¬ (x = 0 ∨ y = 0) := fun c => c.elim (fun c => absurd (z1.2 c) (by decide)) (fun c => absurd (z2.2 c) (by decide))
      have sx : decide (x < 0) = s1 := by
        rcases q1.three with ⟨a, _⟩ | ⟨_, rfl, b⟩ | ⟨_, rfl, b⟩
        · exact absurd a (by decide)
        · exact decide_eq_false (by omega)
        · exact decide_eq_true b
      have sy : decide (y < 0) = s2 := by
        rcases q2.three with ⟨a, _⟩ | ⟨_, rfl, b⟩ | ⟨_, rfl, b⟩
        · exact absurd a (by decide)
        · exact decide_eq_false (by omega)
        · exact decide_eq_true b
      rw [mulp_inf up hnz (.inl i1), sx, sy] at hr; have HRR := Lib.hid hr; clear i1 i2 z1 z2 d1 d2 q1 q2 hr sx sy hnz; obtain ⟨xX30, xX31, xX32, xX33⟩ := X3.u4; obtain ⟨xX40, xX41, xX42, xX43⟩ := X4.u4
      go_wp2_with fail
      refine (nInf (s := s1 != s2) HRR.out).mono ?_; rintro ee w5 ⟨K3, s3, M3, E3, rfl, q3, B⟩; clear xX30 xX31 xX32 xX33 xX40 xX41 xX42 xX43; replace X3 := X3.below B; replace X4 := X4.below B; replace XR := XR.below B; replace HB := Lib.hid (bt HB.out B); clear B; obtain ⟨xXR0, xXR1, xXR2, xXR3⟩ := XR.u4; have zXR0 := XR.frozen; go_wp2; clear xXR0 zXR0 xXR1 xXR2 xXR3; have SX := StN.mk4 XR (.int .i64 K3) (.bool s3) (.int .u64 M3) (.int .i64 E3)
      exact bodyPost_ret (by simp [results, Tryz.results50, go_sem, SX.box.cell]) rfl ⟨_, _, _, _, rfl, q3, (SX.below HB.out (by omega))⟩
  · rcases kk2 with rfl | rfl | rfl
    · rw [mulp_zero up (.inl (z1.1 rfl))] at hr; subst hr; clear i1 i2 z1 z2 d1 d2 q1 q2; obtain ⟨xXR0, xXR1, xXR2, xXR3⟩ := XR.u4; have zXR0 := XR.frozen; obtain ⟨xX30, xX31, xX32, xX33⟩ := X3.u4; obtain ⟨xX40, xX41, xX42, xX43⟩ := X4.u4; go_wp2; clear xXR0 zXR0 xXR1 xXR2 xXR3 xX30 xX31 xX32 xX33 xX40 xX41 xX42 xX43; have SX := StN.mk4 XR (.int .i64 0) (.bool false) (.int .u64 0) (.int .i64 0); exact bodyPost_ret (by simp [results, Tryz.results50, go_sem, SX.box.cell]) rfl ⟨_, _, _, _, rfl, Fq.nought, (SX.below HB.out (by omega))⟩
    · rw [mulp_zero up (.inl (z1.1 rfl))] at hr; subst hr; clear i1 i2 z1 z2 d1 d2 q1 q2; obtain ⟨xXR0, xXR1, xXR2, xXR3⟩ := XR.u4; have zXR0 := XR.frozen; obtain ⟨xX30, xX31, xX32, xX33⟩ := X3.u4; obtain ⟨xX40, xX41, xX42, xX43⟩ := X4.u4; go_wp2; clear xXR0 zXR0 xXR1 xXR2 xXR3 xX30 xX31 xX32 xX33 xX40 xX41 xX42 xX43; have SX := StN.mk4 XR (.int .i64 0) (.bool false) (.int .u64 0) (.int .i64 0); exact bodyPost_ret (by simp [results, Tryz.results50, go_sem, SX.box.cell]) rfl ⟨_, _, _, _, rfl, Fq.nought, (SX.below HB.out (by omega))⟩
    · rw [mulp_zero up (.inl (z1.1 rfl))] at hr; subst hr; clear i1 i2 z1 z2 d1 d2 q1 q2; obtain ⟨xXR0, xXR1, xXR2, xXR3⟩ := XR.u4; have zXR0 := XR.frozen; obtain ⟨xX30, xX31, xX32, xX33⟩ := X3.u4; obtain ⟨xX40, xX41, xX42, xX43⟩ := X4.u4; go_wp2; clear xXR0 zXR0 xXR1 xXR2 xXR3 xX30 xX31 xX32 xX33 xX40 xX41 xX42 xX43; have SX := StN.mk4 XR (.int .i64 0) (.bool false) (.int .u64 0) (.int .i64 0); exact bodyPost_ret (by simp [results, Tryz.results50, go_sem, SX.box.cell]) rfl ⟨_, _, _, _, rfl, Fq.nought, (SX.below HB.out (by omega))⟩
  · rcases kk2 with rfl | rfl | rfl
    · have hnz : ¬ (x = 0 ∨ y = 0) := fun c => c.elim (fun c => absurd (z1.2 c) (by decide)) (fun c => absurd (z2.2 c) (by decide))
      have sx : decide (x < 0) = s1 := by
        rcases q1.three with ⟨a, _⟩ | ⟨_, rfl, b⟩ | ⟨_, rfl, b⟩
        · exact absurd a (by decide)
        · exact decide_eq_false (by omega)
        · exact decide_eq_true b
      have sy : decide (y < 0) = s2 := by
        rcases q2.three with ⟨a, _⟩ | ⟨_, rfl, b⟩ | ⟨_, rfl, b⟩
        · exact absurd a (by decide)
        · exact decide_eq_false (by omega)
        · exact decide_eq_true b
      rw [mulp_inf up hnz (.inr i2), sx, sy] at hr; have HRR := Lib.hid hr; clear i1 i2 z1 z2 d1 d2 q1 q2 hr sx sy hnz; obtain ⟨xX30, xX31, xX32, xX33⟩ := X3.u4; obtain ⟨xX40, xX41, xX42, xX43⟩ := X4.u4
      go_wp2_with fail
      refine (nInf (s := s1 != s2) HRR.out).mono ?_; rintro ee w5 ⟨K3, s3, M3, E3, rfl, q3, B⟩; clear xX30 xX31 xX32 xX33 xX40 xX41 xX42 xX43; replace X3 := X3.below B; replace X4 := X4.below B; replace XR := XR.below B; replace HB := Lib.hid (bt HB.out B); clear B; obtain ⟨xXR0, xXR1, xXR2, xXR3⟩ := XR.u4; have zXR0 := XR.frozen; go_wp2; clear xXR0 zXR0 xXR1 xXR2 xXR3; have SX := StN.mk4 XR (.int .i64 K3) (.bool s3) (.int .u64 M3) (.int .i64 E3)
      exact bodyPost_ret (by simp [results, Tryz.results50, go_sem, SX.box.cell]) rfl ⟨_, _, _, _, rfl, q3, (SX.below HB.out (by omega))⟩
    · rw [mulp_zero up (.inr (z2.1 rfl))] at hr; subst hr; clear i1 i2 z1 z2 d1 d2 q1 q2; obtain ⟨xXR0, xXR1, xXR2, xXR3⟩ := XR.u4; have zXR0 := XR.frozen; obtain ⟨xX30, xX31, xX32, xX33⟩ := X3.u4; obtain ⟨xX40, xX41, xX42, xX43⟩ := X4.u4; go_wp2; clear xXR0 zXR0 xXR1 xXR2 xXR3 xX30 xX31 xX32 xX33 xX40 xX41 xX42 xX43; have SX := StN.mk4 XR (.int .i64 0) (.bool false) (.int .u64 0) (.int .i64 0); exact bodyPost_ret (by simp [results, Tryz.results50, go_sem, SX.box.cell]) rfl ⟨_, _, _, _, rfl, Fq.nought, (SX.below HB.out (by omega))⟩
    · have HRR := Lib.hid hr; clear i1 i2 z1 z2 d1 d2 hr; obtain ⟨xX30, xX31, xX32, xX33⟩ := X3.u4; obtain ⟨xX40, xX41, xX42, xX43⟩ := X4.u4
      go_wp2_with fail
      refine (aProduct q1 q2).mono ?_; rintro ee w5 ⟨s3, H3, L3, x3, rfl, p3, B⟩; clear xX30 xX31 xX32 xX33 xX40 xX41 xX42 xX43; replace X3 := X3.below B; replace X4 := X4.below B; replace XR := XR.below B; replace HB := Lib.hid (bt HB.out B); clear B
      go_wp2_with fail
      refine (aRound p3 HRR.out).mono ?_; rintro ee w6 ⟨K4, s4, M4, E4, rfl, q4, B⟩; replace X3 := X3.below B; replace X4 := X4.below B; replace XR := XR.below B; replace HB := Lib.hid (bt HB.out B); clear B; obtain ⟨xXR0, xXR1, xXR2, xXR3⟩ := XR.u4; have zXR0 := XR.frozen; go_wp2; clear xXR0 zXR0 xXR1 xXR2 xXR3; have SX := StN.mk4 XR (.int .i64 K4) (.bool s4) (.int .u64 M4) (.int .i64 E4); exact bodyPost_ret (by simp [results, Tryz.results50, go_sem, SX.box.cell]) rfl ⟨_, _, _, _, rfl, q4, (SX.below HB.out (by omega))⟩
set_option maxHeartbeats 4000000 in
theorem aSub {w : World} {D D' M M' E E' : Int} {s s' : Bool} {up : Bool} {x y r : Int} (hT : Tb w) (hM : M < 18446744073709551616) (hM' : M' < 18446744073709551616) (hx : rk D s M E = x) (hy : -rk D' s' M' E' = y) (hr : addp up x y = r) : Calls Tryz.prog 35 #[.agg #[.int .i64 D, .bool s, .int .u64 M, .int .i64 E], .agg #[.int .i64 D', .bool s', .int .u64 M', .int .i64 E'], .bool up] w (PN w r) := by
  have HX := Lib.hid hx; have HY := Lib.hid hy; have HR := Lib.hid hr; clear hx hy hr
  go_enter Tryz.func35, Tryz.ntmps35
  go_upto_region 1 with (fail)
  generalize hW1 : ((w.alloc _).alloc _).alloc _ = w1 at *; obtain ⟨X3, X4, XR, HB⟩ := Bo.en3 hW1; replace hT := hT.below HB.out; clear hW1; refine Jo.rj [0, 1, 2, 3, 4] [some 7, some 8, some 9, some 10, some 11, none] [[], [], [1], [], [0, 2, 3], []] 6 [(some 7, 0), (some 8, 1), (some 9, 2), (some 10, 3), (some 11, 4)] 1 [Jo.q4 D s M E, Jo.q4 D' s' M' E', Jo.Fact.num y, Jo.qb up, Jo.Fact.num r, Jo.Fact.any] (by kernel_rfl) (by kernel_rfl) (by decide) rfl rfl ?_ ?_
  · refine Jo.jn 0 (some 7) [] _ rfl rfl rfl rfl ?_ ?_
    · rintro wj hJ K hK; simp only [Jo.z] at hK ⊢; obtain ⟨xX30, xX31, xX32, xX33⟩ := (X3.below hJ).u4; go_simp; exact hK.out _ _ rfl (br _ _)
    refine Jo.jn 1 (some 8) [] _ rfl rfl rfl rfl ?_ ?_
    · rintro wj hJ K hK; simp only [Jo.z] at hK ⊢; obtain ⟨xX40, xX41, xX42, xX43⟩ := (X4.below hJ).u4; go_simp; exact hK.out _ _ rfl (br _ _)
    refine Jo.jn 2 (some 9) [(some 8, 1)] _ rfl rfl rfl rfl ?_ ?_
    · rintro wj hJ _ rfl K hK; simp only [Jo.z] at hK ⊢; go_simp; refine (nNeg hM' HY.out).mono ?_; rintro ee wk ⟨K4, s4, M4, E4, rfl, q4, B⟩; exact hK.out _ _ ⟨K4, s4, M4, E4, rfl, q4⟩ B
    refine Jo.jn 3 (some 10) [] _ rfl rfl rfl rfl ?_ ?_
    · rintro wj hJ K hK; simp only [Jo.z] at hK ⊢; go_simp; exact hK.out _ _ rfl (br _ _)
    refine Jo.jn 4 (some 11) [(some 7, 0), (some 9, 2), (some 10, 3)] _ rfl rfl rfl rfl ?_ ?_
    · rintro wj hJ _ rfl _ ⟨K4, s4, M4, E4, rfl, q4⟩ _ rfl K hK; simp only [Jo.z] at hK ⊢; go_simp; refine (aAdd (hT.below hJ) hM q4.top HX.out q4.rk HR.out).mono ?_; rintro ee wk ⟨K5, s5, M5, E5, rfl, q5, B⟩; exact hK.out _ _ ⟨K5, s5, M5, E5, rfl, q5⟩ B
    exact Jo.Steps.nil
  rintro w2 hJ _ rfl _ rfl _ ⟨K4, s4, M4, E4, rfl, q4⟩ _ rfl _ ⟨K5, s5, M5, E5, rfl, q5⟩ -; simp only [Jo.z]; replace X3 := X3.below hJ; replace X4 := X4.below hJ; replace XR := XR.below hJ; replace hT := hT.below hJ; replace HB := Lib.hid (bt HB.out hJ); obtain ⟨xXR0, xXR1, xXR2, xXR3⟩ := XR.u4; have zXR0 := XR.frozen
  refine Jo.jnext (i := 5) (o := ⟨none, _, _, _, _, _⟩) (by kernel_rfl) rfl (fun K hK => ?_)
  go_simp; refine hK.out _ _ ?_; clear hK K xXR0 zXR0 xXR1 xXR2 xXR3; have SX := StN.mk4 XR (.int .i64 K5) (.bool s5) (.int .u64 M5) (.int .i64 E5); refine Jo.jdone (by kernel_rfl) ?_; go_wp2; exact bodyPost_ret (by simp [results, Tryz.results35, go_sem, SX.box.cell]) rfl ⟨_, _, _, _, rfl, q5, (SX.below HB.out (by omega))⟩
theorem fq_hlf : Fq 1 false 9223372036854775808 (-64) hlf := Fq.fin (by decide) (by decide) (by decide) (by decide) (by decide)
set_option maxHeartbeats 4000000 in
theorem aHalf {w : World} {D M E : Int} {s : Bool} {up : Bool} {x r : Int} (hM : M < 18446744073709551616) (hx : rk D s M E = x) (hr : mulp up x hlf = r) : Calls Tryz.prog 27 #[.agg #[.int .i64 D, .bool s, .int .u64 M, .int .i64 E], .bool up] w (PN w r) := by
  have HX := Lib.hid hx; have HR := Lib.hid hr; clear hx hr
  go_enter Tryz.func27, Tryz.ntmps27
  go_upto_region 1 with (fail)
  generalize hW1 : (w.alloc _).alloc _ = w1 at *; obtain ⟨X1, XR, HB⟩ := Bo.en2 hW1; clear hW1
  go_wp2_with fail
  refine (nOf _ (by decide) (by decide) rfl).mono ?_; rintro ee w2 ⟨K1, s1, M1, E1, rfl, q1, B⟩; replace X1 := X1.below B; replace XR := XR.below B; replace HB := Lib.hid (bt HB.out B); clear B; obtain ⟨rfl, rfl, rfl, rfl⟩ := q1.uniq fq_one; clear q1
  go_upto_region 2 with (fail)
  have lX5 := Nat.le_refl (World.heap w2).size; have nX5X1 := X1.lt; have nX5XR := XR.lt; generalize hWn : w2.alloc _ = w3 at *; obtain ⟨X5, BW⟩ := Bo.nw hWn; clear hWn; replace X1 := X1.below BW; replace XR := XR.below BW; replace HB := Lib.hid (bt HB.out BW); clear BW; clear lX5; obtain ⟨xX50, xX51, xX52, xX53⟩ := X5.u4; have zX50 := X5.frozen
  go_upto_region 3 with (fail)
  clear xX50 zX50 xX51 xX52 xX53
  have SX : StN w3 (World.setCell w3 ⟨w2.heap.size, 3, none⟩ (.int .i64 (-64))) _ _ #[.int .i64 1, .bool false, .int .u64 9223372036854775808, .int .i64 (-64)] _ := StN.at4 X5 3 (.int .i64 (-64))
  replace X1 := X1.stn SX (by omega); replace XR := XR.stn SX (by omega); replace HB := Lib.hid (SX.below HB.out (by omega)); replace X5 := SX.box; clear SX; generalize World.setCell w3 ⟨w2.heap.size, 3, none⟩ (.int .i64 (-64)) = w4 at *; obtain ⟨xX10, xX11, xX12, xX13⟩ := X1.u4; obtain ⟨xX50, xX51, xX52, xX53⟩ := X5.u4
  go_wp2_with fail
  refine (aMul hM fq_hlf.top HX.out fq_hlf.rk HR.out).mono ?_; rintro ee w5 ⟨K2, s2, M2, E2, rfl, q2, B⟩; clear xX10 xX11 xX12 xX13 xX50 xX51 xX52 xX53; replace X1 := X1.below B; replace XR := XR.below B; replace X5 := X5.below B; replace HB := Lib.hid (bt HB.out B); clear B; obtain ⟨xXR0, xXR1, xXR2, xXR3⟩ := XR.u4; have zXR0 := XR.frozen; go_wp2; clear xXR0 zXR0 xXR1 xXR2 xXR3; have SX := StN.mk4 XR (.int .i64 K2) (.bool s2) (.int .u64 M2) (.int .i64 E2)
  exact bodyPost_ret (by simp [results, Tryz.results27, go_sem, SX.box.cell]) rfl ⟨_, _, _, _, rfl, q2, (SX.below HB.out (by omega))⟩
end Go.Proofs.YthhlccdmflgbbaaGreatDoor

/-
  What the sum of many numbers is, rounded.
-/
namespace Go.Proofs.YthhlccdmflgbbaaGreatDoor
open Go.RowKit
set_option linter.unusedVariables false
set_option linter.unusedSimpArgs false
set_option maxRecDepth 100000

/-- The sum of many, one behind the other, from nought on. -/
def smA (up : Bool) (l : List Int) : Int := l.foldl (addp up) 0
theorem smA_take (up : Bool) {l : List Int} {k : Nat} (h : k < l.length) : smA up (l.take (k + 1)) = addp up (smA up (l.take k)) (l.getD k 0) := by
  unfold smA
  rw [List.take_succ_eq_append_getElem h, List.foldl_append]
  simp [List.getD_eq_getElem?_getD, h]
set_option maxHeartbeats 8000000 in
theorem aSum {w : World} {A : Option Addr} {n c : Nat} {l : List Int} {up : Bool} {r : Int} (hT : Tb w) (h : Nl w A n c l) (hr : smA up l = r) : Calls Tryz.prog 28 #[.bool up, .slice A n c] w (PN w r) := by
  have HR := Lib.hid hr; have HLn := Lib.hid h.1; have hcap := h.2.1; have hbig := h.2.2.1; have hD0 := h; have hT0 := hT; clear hr
  go_enter Tryz.func28, Tryz.ntmps28
  go_upto_region 1 with (fail)
  generalize hW1 : w.alloc _ = w1 at *; obtain ⟨XR, HB⟩ := Bo.en1 hW1; replace h := h.below HB.out; replace hT := hT.below HB.out; clear hW1
  go_upto_region 2 with (fail)
  have hg3 := XR.lt; have lX3 := Nat.le_refl (World.heap w1).size; have nX3XR := XR.lt; generalize hWn : w1.alloc _ = w3 at *; obtain ⟨X3, BW⟩ := Bo.nw hWn; clear hWn; replace XR := XR.below BW; replace h := h.below BW; replace hT := hT.below BW; replace HB := Lib.hid (bt HB.out BW); clear BW
  go_wp2_with fail
  generalize w1.heap.size = g3 at *; clear h hT w1
  go_loopw [11] (fun i wr => ∃ k : Nat, k ≤ n ∧ i = .int .i64 k ∧ NInv w g3 (smA up (l.take k)) wr) (fun i _ => n - (intOf i).toNat)
  case atStart => exact ⟨0, Nat.zero_le _, rfl, _, _, _, _, XR, X3, Fq.nought, HB.out⟩
  clear HB XR X3 lX3
  case round =>
    obtain ⟨k, hk, rfl, hI⟩ := hrel; obtain ⟨K1, s1, M1, E1, XR, X3, q1, hB⟩ := hI; have HB := Lib.hid hB; have h := hD0.below hB; have hT := hT0.below hB; clear hB
    by_cases hlt : k < n
    · obtain ⟨b, o, rfl, hcell⟩ := h.2.2.2 (by omega); obtain ⟨D, s, M, E, c0, c1, c2, c3, hM, hx⟩ := hcell k hlt; clear hcell h hD0
      have i1 : (k : Int) < n := by omega
      have i2 : (0 : Int) ≤ k := by omega
      have hst := smA_take up (l := l) (k := k) (by rw [HLn.out]; exact hlt); rw [← hx] at hst; generalize smA up (l.take k) = R at *; obtain ⟨x, hX⟩ : ∃ x, rk D s M E = x := ⟨_, rfl⟩; rw [hX] at hst; obtain ⟨r2, hr2⟩ : ∃ r2, addp up R x = r2 := ⟨_, rfl⟩; rw [hr2] at hst; have HX := Lib.hid hX; have HST := Lib.hid hst; have HAD := Lib.hid hr2; clear hst hX hx hr2
      go_upto_region 5 with (fail)
      have hgd := X3.lt; have lX5 := Nat.le_refl (World.heap wr).size; have nX5XR := XR.lt; have nX5X3 := X3.lt; generalize hWn : wr.alloc _ = w3 at *; obtain ⟨X5, BW⟩ := Bo.nw hWn; clear hWn; replace XR := XR.below BW; replace X3 := X3.below BW; replace hT := hT.below BW; replace HB := Lib.hid (bt HB.out BW); clear BW; clear c0 c1 c2 c3 lX5; obtain ⟨xX30, xX31, xX32, xX33⟩ := X3.u4; obtain ⟨xX50, xX51, xX52, xX53⟩ := X5.u4
      go_wp2_with fail
      refine (aAdd hT q1.top hM q1.rk HX.out HAD.out).mono ?_; rintro ee w4 ⟨K2, s2, M2, E2, rfl, q2, B⟩; clear xX30 xX31 xX32 xX33 xX50 xX51 xX52 xX53; replace XR := XR.below B; replace X3 := X3.below B; replace X5 := X5.below B; replace hT := hT.below B; replace HB := Lib.hid (bt HB.out B); clear B; obtain ⟨xX30, xX31, xX32, xX33⟩ := X3.u4; have zX30 := X3.frozen
      go_upto_region 6 with (fail)
      clear xX30 zX30 xX31 xX32 xX33; generalize hS : (((w4.setCell _ _).setCell _ _).setCell _ _).setCell _ _ = w5 at *; have SX := StN.of4 X3 hS; replace XR := XR.stn SX (by omega); replace X5 := X5.stn SX (by omega); replace HB := Lib.hid (SX.below HB.out (by omega)); replace X3 := SX.box; clear SX hS; go_wp2
      go_roundw
      case rel =>
        refine ⟨k + 1, by omega, by go_num, K2, s2, M2, E2, XR, X3, ?_, HB.out⟩
        rw [HST.out]; exact q2
      case measure => simp [intOf]; omega
    · obtain rfl : k = n := by omega
      rw [List.take_of_length_le (by rw [HLn.out]; omega), HR.out] at q1; obtain ⟨xXR0, xXR1, xXR2, xXR3⟩ := XR.u4; have zXR0 := XR.frozen; obtain ⟨xX30, xX31, xX32, xX33⟩ := X3.u4; go_wp2; clear xXR0 zXR0 xXR1 xXR2 xXR3 xX30 xX31 xX32 xX33; have SX := StN.mk4 XR (.int .i64 K1) (.bool s1) (.int .u64 M1) (.int .i64 E1); exact bodyPost_ret (by simp [results, Tryz.results28, go_sem, SX.box.cell]) rfl ⟨_, _, _, _, rfl, q1, (SX.below HB.out (by omega))⟩
end Go.Proofs.YthhlccdmflgbbaaGreatDoor

/-
  What every statement of layer 6 begins with: the chapter's examples, and the test of exponents.
-/
namespace Go.Proofs.YthhlccdmflgbbaaGreatDoor
open Go.RowKit
set_option linter.unusedVariables false
set_option linter.unusedSimpArgs false
set_option maxRecDepth 100000

/-- Is its exponent from -1500 to 1500, or has it none? -/
def fewq (D E : Int) : Bool := decide (D ≠ 1) || (decide (-1500 ≤ E) && decide (E ≤ 1500))
set_option maxHeartbeats 2000000 in
theorem aFew {w : World} {D M E : Int} {s : Bool} {r : Bool} (hr : fewq D E = r) : Calls Tryz.prog 6 #[.agg #[.int .i64 D, .bool s, .int .u64 M, .int .i64 E]] w (PB w r) := by
  unfold fewq at hr
  by_cases h1 : D ≠ 1
  · rw [show decide (D ≠ 1) = true from decide_eq_true h1, Bool.true_or] at hr
    subst hr
    have e1 : (D == 1) = false := by simpa using h1
    have e2 : (D = 1) = False := by simpa using h1
    clear h1
    go_enter Tryz.func6, Tryz.ntmps6
    go_upto_region 1 with (fail)
    generalize hW1 : w.alloc _ = w1 at *; obtain ⟨X1, HB⟩ := Bo.en1 hW1; clear hW1; obtain ⟨xX10, xX11, xX12, xX13⟩ := X1.u4; go_wp2
    go_ret
    exact ⟨rfl, HB.out⟩
  · have h1 : D = 1 := by omega
    subst h1
    rw [show decide ((1 : Int) ≠ 1) = false by decide, Bool.false_or] at hr
    by_cases h2 : ¬ -1500 ≤ E
    · rw [decide_eq_false h2, Bool.false_and] at hr; subst hr
      go_enter Tryz.func6, Tryz.ntmps6
      go_upto_region 1 with (fail)
      generalize hW1 : w.alloc _ = w1 at *; obtain ⟨X1, HB⟩ := Bo.en1 hW1; clear hW1; obtain ⟨xX10, xX11, xX12, xX13⟩ := X1.u4; go_wp2
      go_ret
      exact ⟨rfl, HB.out⟩
    · have h2 : -1500 ≤ E := by omega
      rw [decide_eq_true h2, Bool.true_and] at hr; subst hr
      go_enter Tryz.func6, Tryz.ntmps6
      go_upto_region 1 with (fail)
      generalize hW1 : w.alloc _ = w1 at *; obtain ⟨X1, HB⟩ := Bo.en1 hW1; clear hW1; obtain ⟨xX10, xX11, xX12, xX13⟩ := X1.u4; go_wp2
      go_ret
      exact ⟨rfl, HB.out⟩
end Go.Proofs.YthhlccdmflgbbaaGreatDoor

/-
  What the statements of layer 6 rest on: products by what is below nought, twice and half, sums on the way, both sides of exact sums and products. Plain arithmetic; no Go text.
-/
namespace Go.Proofs.YthhlccdmflgbbaaGreatDoor
open Go.RowKit
set_option linter.unusedVariables false

/-- Neither too far nor too near, or infinite. -/
def Fz (x : Int) (h : Nat) : Prop := infp x = true ∨ Fit h (ep x)
theorem Fz.zero (h : Nat) : Fz 0 h := .inr (by rw [ep_zero]; exact Fit.zero h)
theorem Fz.neg {x : Int} {h : Nat} (f : Fz x h) : Fz (-x) h := by
  rcases f with f | f
  · exact .inl (by rw [infp_neg]; exact f)
  · exact .inr (by rw [ep_neg]; exact f.neg)
theorem Fz.near {x y : Int} {h k : Nat} (f : Fz x h) (g : Fz y k) (hh : h + k ≤ 640000) : infp x = false → infp y = false → Near (ep x) (ep y) := fun hx hy => by
  rcases f with f | f
  · rw [hx] at f; cases f
  · rcases g with g | g
    · rw [hy] at g; cases g
    · exact f.near g hh
theorem few_fz {D : Int} {s : Bool} {M E : Int} (hM : M < 18446744073709551616) (hf : fewq D E = true) : Fz (rk D s M E) 1600 := by
  by_cases hm : MayQ D s M E
  · have q := rk_fq hM hm
    revert q
    generalize rk D s M E = x
    intro q
    rcases q.cases with ⟨_, _, _, _, h0⟩ | ⟨rfl, h1, h2, h3, h4, _⟩ | ⟨rfl, _⟩
    · subst h0; exact Fz.zero _
    · obtain ⟨_, hb, he⟩ := fq_fin q (by decide)
      have hb2 : -1500 ≤ E ∧ E ≤ 1500 := by
        unfold fewq at hf
        simpa using hf
      right
      rw [← he]
      unfold exq
      rw [if_pos hb]; obtain ⟨η, hη⟩ : ∃ η : Nat, η = 1600 := ⟨_, rfl⟩; rw [← hη]; refine (mk_fit (h := η) (by omega) (by omega) ?_).1; rw [sgi_abs s (by omega)]
      have : M.toNat < 2 ^ 64 := by omega
      have := Nat.mul_lt_mul_of_pos_right this (Nat.pow_pos (n := (E + (η : Int)).toNat) (show 0 < 2 by decide))
      rw [← Nat.pow_add] at this; exact Nat.lt_of_lt_of_le this (Nat.pow_le_pow_right (by decide) (by omega))
    · left
      rw [fq_inf q]
      rfl
  · rw [rk_not hm]; exact Fz.zero _
end Go.Proofs.YthhlccdmflgbbaaGreatDoor

/-
  The middle of an interval, its halves, what is wider; many intervals. Plain arithmetic; no Go text.
-/
namespace Go.Proofs.YthhlccdmflgbbaaGreatDoor
open Go.RowKit
set_option linter.unusedVariables false

theorem mid_some (a b : Int) : midI (some (a, b)) = if a = -19342822337206103650074625 ∧ b = 19342822337206103650074625 then 0 else if a = -19342822337206103650074625 then b else if b = 19342822337206103650074625 then a else clp (mulp false (addp false a b) hlf) a b := rfl
theorem has_in {a b n : Int} (h1 : -19342822337206103650074625 < n) (h2 : n < 19342822337206103650074625) (h3 : a ≤ n) (h4 : n ≤ b) : hasI (some (a, b)) n = true := by
  simp [hasI, infp_fin h1 h2]
  omega
/-- Once there is none, there is none. -/
theorem meet_stuck : ∀ l : List Sp, l.foldl meetI none = none
  | [] => rfl
  | _ :: l => meet_stuck l
end Go.Proofs.YthhlccdmflgbbaaGreatDoor

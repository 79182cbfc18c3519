/-
  Contracts and words that the statement's proof rests on: Hg, Hh, Hi, Hj, Hk, Cb, Xa, Cc, Ck, Cl.
-/
import Derived.Test.YtpnmphofengoeaaGreatDoorYPar
import Derived.Test.YtpnmphofengoeaaGreatDoorYPas
namespace Go.Proofs.YtpnmphofengoeaaGreatDoor
set_option maxHeartbeats 8000000
open Go.RowKit
set_option linter.unusedVariables false
set_option linter.unusedSimpArgs false
set_option maxRecDepth 100000

theorem wd_of {s : Bool} {H L e V : Int} {f : Bool → Int} (hH : 0 ≤ H) (hH2 : H < 18446744073709551616) (hL : 0 ≤ L) (hL2 : L < 18446744073709551616) (hV : H * 18446744073709551616 + L = V) (e1 : -2900000 ≤ e) (e2 : e ≤ 2900000) (h : ∀ up, rnd up (mk (sgi s V) (e - 64)).1 (mk (sgi s V) (e - 64)).2 = f up) : Wd s H L e f := by
  obtain ⟨a, rfl⟩ := Int.eq_ofNat_of_zero_le hH; obtain ⟨b, rfl⟩ := Int.eq_ofNat_of_zero_le hL
  refine ⟨a, b, by omega, by omega, rfl, rfl, e1, e2, fun up => ?_⟩
  have e : ((a * 18446744073709551616 + b : Nat) : Int) = V := by omega
  rw [e]; exact h up
theorem add_words {H1 L1 H2 L2 V1 V2 : Int} (h1 : 0 ≤ H1 ∧ H1 < 18446744073709551616 ∧ 0 ≤ L1 ∧ L1 < 18446744073709551616 ∧ H1 * 18446744073709551616 + L1 = V1) (h2 : 0 ≤ H2 ∧ H2 < 18446744073709551616 ∧ 0 ≤ L2 ∧ L2 < 18446744073709551616 ∧ H2 * 18446744073709551616 + L2 = V2) (h : V1 + V2 < 340282366920938463463374607431768211456) :
    ∃ S c T d, (L1 + L2 + 0) % 18446744073709551616 = S ∧ (L1 + L2 + 0) / 18446744073709551616 = c ∧ (H1 + H2 + c) % 18446744073709551616 = T ∧ (H1 + H2 + c) / 18446744073709551616 = d ∧ 0 ≤ c ∧ c ≤ 1 ∧ 0 ≤ S ∧ S < 18446744073709551616 ∧ 0 ≤ T ∧ T < 18446744073709551616 ∧ T * 18446744073709551616 + S = V1 + V2 := by
  refine ⟨_, _, _, _, rfl, rfl, rfl, rfl, ?_⟩
  omega
theorem sub_words {H1 L1 H2 L2 V1 V2 : Int} (h1 : 0 ≤ H1 ∧ H1 < 18446744073709551616 ∧ 0 ≤ L1 ∧ L1 < 18446744073709551616 ∧ H1 * 18446744073709551616 + L1 = V1) (h2 : 0 ≤ H2 ∧ H2 < 18446744073709551616 ∧ 0 ≤ L2 ∧ L2 < 18446744073709551616 ∧ H2 * 18446744073709551616 + L2 = V2) (h : 0 ≤ V1 - V2) :
    ∃ S c T d, (L1 - L2 - 0) % 18446744073709551616 = S ∧ (if L1 < L2 + 0 then (1 : Int) else 0) = c ∧ (H1 - H2 - c) % 18446744073709551616 = T ∧ (if H1 < H2 + c then (1 : Int) else 0) = d ∧ 0 ≤ c ∧ c ≤ 1 ∧ 0 ≤ S ∧ S < 18446744073709551616 ∧ 0 ≤ T ∧ T < 18446744073709551616 ∧ T * 18446744073709551616 + S = V1 - V2 := by
  by_cases q : L1 < L2 + 0
  · exact ⟨_, 1, _, _, rfl, if_pos q, rfl, rfl, by omega, by omega, by omega, by omega, by omega, by omega, by omega⟩
  · exact ⟨_, 0, _, _, rfl, if_neg q, rfl, rfl, by omega, by omega, by omega, by omega, by omega, by omega, by omega⟩
theorem sum_lt {w : World} {s1 s2 : Bool} {M1 M2 E1 E2 x y : Int} (hT : Tb w) (q1 : Fq 1 s1 M1 E1 x) (q2 : Fq 1 s2 M2 E2 y) (h : E1 < E2) : Calls Tryz.prog 84 #[.agg #[.int .i64 1, .bool s1, .int .u64 M1, .int .i64 E1], .agg #[.int .i64 1, .bool s2, .int .u64 M2, .int .i64 E2]] w (PW6 w fun up => addp up x y) := by
  obtain ⟨a1, a2, a3, a4, _⟩ := fq_vr q1; obtain ⟨b1, b2, b3, b4, _⟩ := fq_vr q2; have HO := Lib.hid (h); obtain ⟨n, hn⟩ : ∃ n : Nat, (n : Int) = E2 - E1 + 1 := ⟨(E2 - E1 + 1).toNat, by omega⟩
  have hsw : ∀ (S : Int) up, S = M2 * 9223372036854775808 + sgi (s2 != s1) (mvd M1 n) → 0 ≤ S ∧ S < 340282366920938463463374607431768211456 ∧ rnd up (mk (sgi s2 S) (E2 + 1 - 64)).1 (mk (sgi s2 S) (E2 + 1 - 64)).2 = addp up x y := fun S up hS => by
    obtain ⟨u1, u2, u3⟩ := sum_wide up q2 q1 (by omega) hn hS; refine ⟨u1, u2, ?_⟩
    rw [show E2 + 1 - 64 = E2 - 63 by omega, u3]
    exact addp_comm up
  have HSW := Lib.hid hsw; obtain ⟨N, hN⟩ : ∃ N, (n : Int) = N := ⟨_, rfl⟩; obtain ⟨D, hD⟩ : ∃ D, E2 - E1 = D := ⟨_, rfl⟩
  have n1 : 1 ≤ n := by omega
  have n3 : n ≤ 4000000 := by omega
  have HN := Lib.hid hN
  have HD := Lib.hid (show IntKind.i64.wrap (E2 - E1) = D by rw [hD]; exact IntWalk.i64_in _ (by omega))
  have HD2 := Lib.hid (show IntKind.i64.wrap (D + 1) = N by rw [show D + 1 = N by omega]; exact IntWalk.i64_in _ (by omega))
  obtain ⟨Y, hY⟩ : ∃ Y, E1 + N = Y := ⟨_, rfl⟩; have HY := Lib.hid hY; obtain ⟨Z, hZ⟩ : ∃ Z, E2 + 1 = Z := ⟨_, rfl⟩; have HZ := Lib.hid hZ
  have z1 : -2900000 ≤ Z := by omega
  have z2 : Z ≤ 2900000 := by omega
  have v1 : mvd M2 1 = M2 * 9223372036854775808 := by
    unfold mvd
    rw [if_pos (by decide)]
    rfl
  have HV1 := Lib.hid v1
  have g1 : 9223372036854775808 ≤ M2 := by omega
  have g2 : M2 < 18446744073709551616 := by omega
  have g3 : -2000000 ≤ E2 := by omega
  have g4 : E2 ≤ 2000000 := by omega
  have k1 : 9223372036854775808 ≤ M1 := by omega
  have k2 : M1 < 18446744073709551616 := by omega
  have k3 : -2000000 ≤ E1 := by omega
  have k4 : E1 ≤ 2000000 := by omega
  clear hn hN hD hY hZ v1 hsw h q1 q2 a1 a2 a3 a4 b1 b2 b3 b4
  go_enter Tryz.func84, Tryz.ntmps84
  go_upto_region 1 with (fail)
  generalize hW1 : ((w.alloc _).alloc _).alloc _ = w1 at *; obtain ⟨X2, X3, XR, HB⟩ := Bo.en3 hW1; replace hT := hT.below HB.out; clear hW1; have xX2 := X2.cell; have xX3 := X3.cell
  go_wp2_with fail
  refine (order_lt HO.out).mono ?_; rintro ee w2 ⟨rfl, B⟩; clear xX2 xX3; replace X2 := X2.below B; replace X3 := X3.below B; replace XR := XR.below B; replace hT := hT.below B; replace HB := Hqb HB B; clear B
  go_upto_region 2 with (fail)
  clear X2 X3
  have hsz : (World.alloc w2 (.cells #[.int .i64 1, .bool s2, .int .u64 M2, .int .i64 E2] 32)).heap.size = w2.heap.size + 1 := by simp
  have lX5 := Nat.le_refl (World.heap w2).size; have nX5XR := XR.lt; replace XR := XR.below (bel1 _ (.cells #[.int .i64 1, .bool s2, .int .u64 M2, .int .i64 E2] 32)); replace hT := hT.below (bel1 _ (.cells #[.int .i64 1, .bool s2, .int .u64 M2, .int .i64 E2] 32)); replace HB := Lib.hid (bt HB.out (bel1 _ (.cells #[.int .i64 1, .bool s2, .int .u64 M2, .int .i64 E2] 32))); have X5 := Bo.new w2 #[.int .i64 1, .bool s2, .int .u64 M2, .int .i64 E2] 32
  generalize hWn : World.alloc w2 (.cells #[.int .i64 1, .bool s2, .int .u64 M2, .int .i64 E2] 32) = w3 at *; clear hWn; have lX6 := Nat.le_refl (World.heap w3).size; have nX6XR := XR.lt; have nX6X5 := X5.lt; generalize hWn : w3.alloc _ = w4 at *; obtain ⟨X6, BW⟩ := Bo.nw hWn; clear hWn; replace XR := XR.below BW; replace X5 := X5.below BW; replace hT := hT.below BW; replace HB := Hqb HB BW
  clear BW; rw [hsz] at X6 nX6X5 nX6XR; clear lX5 lX6 hsz; have xX5 := X5.cell
  go_wp2_with fail
  refine (aMoved (n := 1) (s := s2) hT g1 g2 (by rfl) HZ.out g3 g4 (by decide) (by decide)).mono ?_; rintro ee w5 ⟨H1, L1, rfl, p1, B⟩; clear xX5; replace XR := XR.below B; replace X5 := X5.below B; replace X6 := X6.below B; replace hT := hT.below B; replace HB := Hqb HB B; clear B; rw [HV1.out] at p1
  go_upto_region 3 with (fail)
  have lX7 := Nat.le_refl (World.heap w5).size; have nX7XR := XR.lt; have nX7X5 := X5.lt; have nX7X6 := X6.lt; generalize hWn : w5.alloc _ = w6 at *; obtain ⟨X7, BW⟩ := Bo.nw hWn; clear hWn; replace XR := XR.below BW; replace X5 := X5.below BW; replace X6 := X6.below BW; replace hT := hT.below BW; replace HB := Hqb HB BW; clear BW; clear lX7; have xX5 := X5.cell; have xX6 := X6.cell
  have hd := HD.out; have hd2 := HD2.out
  go_wp2_with fail
  refine (aMoved (s := s1) hT k1 k2 HN.out HY.out k3 k4 n1 n3).mono ?_; rintro ee w7 ⟨H2, L2, rfl, p2, B⟩; clear xX5 xX6; replace XR := XR.below B; replace X5 := X5.below B; replace X6 := X6.below B; replace X7 := X7.below B; replace hT := hT.below B; replace HB := Hqb HB B; clear B; clear hd hd2
  go_upto_region 5 with (fail)
  have lX8 := Nat.le_refl (World.heap w7).size; have nX8XR := XR.lt; have nX8X5 := X5.lt; have nX8X6 := X6.lt; have nX8X7 := X7.lt; generalize hWn : w7.alloc _ = w8 at *; obtain ⟨X8, BW⟩ := Bo.nw hWn; clear hWn; replace XR := XR.below BW; replace X5 := X5.below BW; replace X6 := X6.below BW; replace X7 := X7.below BW; replace hT := hT.below BW; replace HB := Hqb HB BW; clear BW; clear lX8
  by_cases hs : s2 = s1
  · subst hs
    have hxor : (s2 != s2) = false := by cases s2 <;> rfl
    have hswv := HSW.out (M2 * 9223372036854775808 + mvd M1 n); rw [hxor, wsg_f] at hswv; have hb := (hswv true rfl).2.1; obtain ⟨S, c, T, d, f1, f2, f3, f4, c0, c1, o1, o2, o3, o4, o5⟩ := add_words p1 p2 hb
    have ha1 := fun W : World => aAdd64 W p1.2.2.1 p2.2.2.1 (by decide) (by decide) f1 f2
    have ha2 := fun W : World => aAdd64 W p1.1 p2.1 c0 c1 f3 f4
    have OO := Lib.hid (And.intro o5 hswv)
    clear f1 f2 f3 f4 p1 p2 hb hswv o5; have xX5 := X5.cell; have xX6 := X6.cell; have xX7 := X7.cell; have zX70 := X7.frozen; have xX8 := X8.cell
    go_upto_region 7 with (simp only [ha1])
    clear xX5 xX6 xX7 zX70 xX8
    have SX : StN w8 (World.setCell w8 ⟨w5.heap.size, 2, none⟩ (.int .u64 S)) _ _ #[.bool s2, .int .u64 H1, .int .u64 S, .int .i64 Z] _ := StN.at4 X7 2 (.int .u64 S)
    replace XR := XR.stn SX (by omega); replace X5 := X5.stn SX (by omega); replace X6 := X6.stn SX (by omega); replace X8 := X8.stn SX (by omega); replace HB := Hqs HB SX (by omega); replace X7 := SX.box; clear SX; generalize World.setCell w8 ⟨w5.heap.size, 2, none⟩ (.int .u64 S) = w9 at *; have xX7 := X7.cell; have zX70 := X7.frozen; have xX8 := X8.cell
    go_upto_region 10 with (simp only [ha2])
    clear xX7 zX70 xX8
    have SX : StN w9 (World.setCell w9 ⟨w5.heap.size, 1, none⟩ (.int .u64 T)) _ _ #[.bool s2, .int .u64 T, .int .u64 S, .int .i64 Z] _ := StN.at4 X7 1 (.int .u64 T)
    replace XR := XR.stn SX (by omega); replace X5 := X5.stn SX (by omega); replace X6 := X6.stn SX (by omega); replace X8 := X8.stn SX (by omega); replace HB := Hqs HB SX (by omega); replace X7 := SX.box; clear SX; generalize World.setCell w9 ⟨w5.heap.size, 1, none⟩ (.int .u64 T) = wA at *; have xXR := XR.cell; have zXR0 := XR.frozen; have xX7 := X7.cell
    go_wp2; clear xXR zXR0 xX7; have SX := StN.mk4 XR (.bool s2) (.int .u64 T) (.int .u64 S) (.int .i64 Z)
    exact bodyPost_ret (v := .agg #[.bool s2, .int .u64 T, .int .u64 S, .int .i64 Z]) (by simp [results, Tryz.results84, go_sem, SX.box.cell]) rfl ⟨_, _, _, _, rfl, wd_of o3 o4 o1 o2 OO.out.1 z1 z2 fun up => by rw [← HZ.out]; exact (OO.out.2 up (by first | rfl | trivial)).2.2, (SX.below HB.out (by omega))⟩
  · have hxor : (s2 != s1) = true := by cases s2 <;> cases s1 <;> first | rfl | exact absurd rfl hs
    have hne : (s2 == s1) = false := by cases s2 <;> cases s1 <;> first | rfl | exact absurd rfl hs
    have hswv := HSW.out (M2 * 9223372036854775808 - mvd M1 n); rw [hxor, wsg_t] at hswv; have hb := (hswv true (by omega)).1; obtain ⟨S, c, T, d, f1, f2, f3, f4, c0, c1, o1, o2, o3, o4, o5⟩ := sub_words p1 p2 hb
    have ha1 := fun W : World => aSub64 W p1.2.2.1 p1.2.2.2.1 p2.2.2.1 p2.2.2.2.1 (by decide) (by decide) f1 f2
    have ha2 := fun W : World => aSub64 W p1.1 p1.2.1 p2.1 p2.2.1 c0 c1 f3 f4
    have OO := Lib.hid (And.intro o5 hswv)
    clear f1 f2 f3 f4 p1 p2 hb hswv o5; have xX5 := X5.cell; have xX6 := X6.cell; have xX7 := X7.cell; have zX70 := X7.frozen; have xX8 := X8.cell
    go_upto_region 9 with (simp only [ha1])
    clear xX5 xX6 xX7 zX70 xX8
    have SX : StN w8 (World.setCell w8 ⟨w5.heap.size, 2, none⟩ (.int .u64 S)) _ _ #[.bool s2, .int .u64 H1, .int .u64 S, .int .i64 Z] _ := StN.at4 X7 2 (.int .u64 S)
    replace XR := XR.stn SX (by omega); replace X5 := X5.stn SX (by omega); replace X6 := X6.stn SX (by omega); replace X8 := X8.stn SX (by omega); replace HB := Hqs HB SX (by omega); replace X7 := SX.box; clear SX; generalize World.setCell w8 ⟨w5.heap.size, 2, none⟩ (.int .u64 S) = w9 at *; have xX7 := X7.cell; have zX70 := X7.frozen; have xX8 := X8.cell
    go_upto_region 10 with (simp only [ha2])
    clear xX7 zX70 xX8
    have SX : StN w9 (World.setCell w9 ⟨w5.heap.size, 1, none⟩ (.int .u64 T)) _ _ #[.bool s2, .int .u64 T, .int .u64 S, .int .i64 Z] _ := StN.at4 X7 1 (.int .u64 T)
    replace XR := XR.stn SX (by omega); replace X5 := X5.stn SX (by omega); replace X6 := X6.stn SX (by omega); replace X8 := X8.stn SX (by omega); replace HB := Hqs HB SX (by omega); replace X7 := SX.box; clear SX; generalize World.setCell w9 ⟨w5.heap.size, 1, none⟩ (.int .u64 T) = wA at *; have xXR := XR.cell; have zXR0 := XR.frozen; have xX7 := X7.cell
    go_wp2; clear xXR zXR0 xX7; have SX := StN.mk4 XR (.bool s2) (.int .u64 T) (.int .u64 S) (.int .i64 Z)
    exact bodyPost_ret (v := .agg #[.bool s2, .int .u64 T, .int .u64 S, .int .i64 Z]) (by simp [results, Tryz.results84, go_sem, SX.box.cell]) rfl ⟨_, _, _, _, rfl, wd_of o3 o4 o1 o2 OO.out.1 z1 z2 fun up => by rw [← HZ.out]; exact (OO.out.2 up (by omega)).2.2, (SX.below HB.out (by omega))⟩
theorem sum_eqlt {w : World} {s1 s2 : Bool} {M1 M2 E1 E2 x y : Int} (hT : Tb w) (q1 : Fq 1 s1 M1 E1 x) (q2 : Fq 1 s2 M2 E2 y) (h : E1 = E2) (hm : M1 < M2) : Calls Tryz.prog 84 #[.agg #[.int .i64 1, .bool s1, .int .u64 M1, .int .i64 E1], .agg #[.int .i64 1, .bool s2, .int .u64 M2, .int .i64 E2]] w (PW6 w fun up => addp up x y) := by
  obtain ⟨a1, a2, a3, a4, _⟩ := fq_vr q1; obtain ⟨b1, b2, b3, b4, _⟩ := fq_vr q2
  have HO := Lib.hid (And.intro h hm)
  obtain ⟨n, hn⟩ : ∃ n : Nat, (n : Int) = E2 - E1 + 1 := ⟨(E2 - E1 + 1).toNat, by omega⟩
  have hsw : ∀ (S : Int) up, S = M2 * 9223372036854775808 + sgi (s2 != s1) (mvd M1 n) → 0 ≤ S ∧ S < 340282366920938463463374607431768211456 ∧ rnd up (mk (sgi s2 S) (E2 + 1 - 64)).1 (mk (sgi s2 S) (E2 + 1 - 64)).2 = addp up x y := fun S up hS => by
    obtain ⟨u1, u2, u3⟩ := sum_wide up q2 q1 (by omega) hn hS; refine ⟨u1, u2, ?_⟩
    rw [show E2 + 1 - 64 = E2 - 63 by omega, u3]
    exact addp_comm up
  have HSW := Lib.hid hsw; obtain ⟨N, hN⟩ : ∃ N, (n : Int) = N := ⟨_, rfl⟩; obtain ⟨D, hD⟩ : ∃ D, E2 - E1 = D := ⟨_, rfl⟩
  have n1 : 1 ≤ n := by omega
  have n3 : n ≤ 4000000 := by omega
  have HN := Lib.hid hN
  have HD := Lib.hid (show IntKind.i64.wrap (E2 - E1) = D by rw [hD]; exact IntWalk.i64_in _ (by omega))
  have HD2 := Lib.hid (show IntKind.i64.wrap (D + 1) = N by rw [show D + 1 = N by omega]; exact IntWalk.i64_in _ (by omega))
  obtain ⟨Y, hY⟩ : ∃ Y, E1 + N = Y := ⟨_, rfl⟩; have HY := Lib.hid hY; obtain ⟨Z, hZ⟩ : ∃ Z, E2 + 1 = Z := ⟨_, rfl⟩; have HZ := Lib.hid hZ
  have z1 : -2900000 ≤ Z := by omega
  have z2 : Z ≤ 2900000 := by omega
  have v1 : mvd M2 1 = M2 * 9223372036854775808 := by
    unfold mvd
    rw [if_pos (by decide)]
    rfl
  have HV1 := Lib.hid v1
  have g1 : 9223372036854775808 ≤ M2 := by omega
  have g2 : M2 < 18446744073709551616 := by omega
  have g3 : -2000000 ≤ E2 := by omega
  have g4 : E2 ≤ 2000000 := by omega
  have k1 : 9223372036854775808 ≤ M1 := by omega
  have k2 : M1 < 18446744073709551616 := by omega
  have k3 : -2000000 ≤ E1 := by omega
  have k4 : E1 ≤ 2000000 := by omega
  clear hn hN hD hY hZ v1 hsw h hm q1 q2 a1 a2 a3 a4 b1 b2 b3 b4
  go_enter Tryz.func84, Tryz.ntmps84
  go_upto_region 1 with (fail)
  generalize hW1 : ((w.alloc _).alloc _).alloc _ = w1 at *; obtain ⟨X2, X3, XR, HB⟩ := Bo.en3 hW1; replace hT := hT.below HB.out; clear hW1; have xX2 := X2.cell; have xX3 := X3.cell
  go_wp2_with fail
  refine (order_eqlt HO.out.1 (by have := HO.out.2; omega)).mono ?_; rintro ee w2 ⟨rfl, B⟩; clear xX2 xX3; replace X2 := X2.below B; replace X3 := X3.below B; replace XR := XR.below B; replace hT := hT.below B; replace HB := Hqb HB B; clear B
  go_upto_region 2 with (fail)
  clear X2 X3
  have hsz : (World.alloc w2 (.cells #[.int .i64 1, .bool s2, .int .u64 M2, .int .i64 E2] 32)).heap.size = w2.heap.size + 1 := by simp
  have lX5 := Nat.le_refl (World.heap w2).size; have nX5XR := XR.lt; replace XR := XR.below (bel1 _ (.cells #[.int .i64 1, .bool s2, .int .u64 M2, .int .i64 E2] 32)); replace hT := hT.below (bel1 _ (.cells #[.int .i64 1, .bool s2, .int .u64 M2, .int .i64 E2] 32)); replace HB := Lib.hid (bt HB.out (bel1 _ (.cells #[.int .i64 1, .bool s2, .int .u64 M2, .int .i64 E2] 32))); have X5 := Bo.new w2 #[.int .i64 1, .bool s2, .int .u64 M2, .int .i64 E2] 32
  generalize hWn : World.alloc w2 (.cells #[.int .i64 1, .bool s2, .int .u64 M2, .int .i64 E2] 32) = w3 at *; clear hWn; have lX6 := Nat.le_refl (World.heap w3).size; have nX6XR := XR.lt; have nX6X5 := X5.lt; generalize hWn : w3.alloc _ = w4 at *; obtain ⟨X6, BW⟩ := Bo.nw hWn; clear hWn; replace XR := XR.below BW; replace X5 := X5.below BW; replace hT := hT.below BW; replace HB := Hqb HB BW
  clear BW; rw [hsz] at X6 nX6X5 nX6XR; clear lX5 lX6 hsz; have xX5 := X5.cell
  go_wp2_with fail
  refine (aMoved (n := 1) (s := s2) hT g1 g2 (by rfl) HZ.out g3 g4 (by decide) (by decide)).mono ?_; rintro ee w5 ⟨H1, L1, rfl, p1, B⟩; clear xX5; replace XR := XR.below B; replace X5 := X5.below B; replace X6 := X6.below B; replace hT := hT.below B; replace HB := Hqb HB B; clear B; rw [HV1.out] at p1
  go_upto_region 3 with (fail)
  have lX7 := Nat.le_refl (World.heap w5).size; have nX7XR := XR.lt; have nX7X5 := X5.lt; have nX7X6 := X6.lt; generalize hWn : w5.alloc _ = w6 at *; obtain ⟨X7, BW⟩ := Bo.nw hWn; clear hWn; replace XR := XR.below BW; replace X5 := X5.below BW; replace X6 := X6.below BW; replace hT := hT.below BW; replace HB := Hqb HB BW; clear BW; clear lX7; have xX5 := X5.cell; have xX6 := X6.cell
  have hd := HD.out; have hd2 := HD2.out
  go_wp2_with fail
  refine (aMoved (s := s1) hT k1 k2 HN.out HY.out k3 k4 n1 n3).mono ?_; rintro ee w7 ⟨H2, L2, rfl, p2, B⟩; clear xX5 xX6; replace XR := XR.below B; replace X5 := X5.below B; replace X6 := X6.below B; replace X7 := X7.below B; replace hT := hT.below B; replace HB := Hqb HB B; clear B; clear hd hd2
  go_upto_region 5 with (fail)
  have lX8 := Nat.le_refl (World.heap w7).size; have nX8XR := XR.lt; have nX8X5 := X5.lt; have nX8X6 := X6.lt; have nX8X7 := X7.lt; generalize hWn : w7.alloc _ = w8 at *; obtain ⟨X8, BW⟩ := Bo.nw hWn; clear hWn; replace XR := XR.below BW; replace X5 := X5.below BW; replace X6 := X6.below BW; replace X7 := X7.below BW; replace hT := hT.below BW; replace HB := Hqb HB BW; clear BW; clear lX8
  by_cases hs : s2 = s1
  · subst hs
    have hxor : (s2 != s2) = false := by cases s2 <;> rfl
    have hswv := HSW.out (M2 * 9223372036854775808 + mvd M1 n); rw [hxor, wsg_f] at hswv; have hb := (hswv true rfl).2.1; obtain ⟨S, c, T, d, f1, f2, f3, f4, c0, c1, o1, o2, o3, o4, o5⟩ := add_words p1 p2 hb
    have ha1 := fun W : World => aAdd64 W p1.2.2.1 p2.2.2.1 (by decide) (by decide) f1 f2
    have ha2 := fun W : World => aAdd64 W p1.1 p2.1 c0 c1 f3 f4
    have OO := Lib.hid (And.intro o5 hswv)
    clear f1 f2 f3 f4 p1 p2 hb hswv o5; have xX5 := X5.cell; have xX6 := X6.cell; have xX7 := X7.cell; have zX70 := X7.frozen; have xX8 := X8.cell
    go_upto_region 7 with (simp only [ha1])
    clear xX5 xX6 xX7 zX70 xX8
    have SX : StN w8 (World.setCell w8 ⟨w5.heap.size, 2, none⟩ (.int .u64 S)) _ _ #[.bool s2, .int .u64 H1, .int .u64 S, .int .i64 Z] _ := StN.at4 X7 2 (.int .u64 S)
    replace XR := XR.stn SX (by omega); replace X5 := X5.stn SX (by omega); replace X6 := X6.stn SX (by omega); replace X8 := X8.stn SX (by omega); replace HB := Hqs HB SX (by omega); replace X7 := SX.box; clear SX; generalize World.setCell w8 ⟨w5.heap.size, 2, none⟩ (.int .u64 S) = w9 at *; have xX7 := X7.cell; have zX70 := X7.frozen; have xX8 := X8.cell
    go_upto_region 10 with (simp only [ha2])
    clear xX7 zX70 xX8
    have SX : StN w9 (World.setCell w9 ⟨w5.heap.size, 1, none⟩ (.int .u64 T)) _ _ #[.bool s2, .int .u64 T, .int .u64 S, .int .i64 Z] _ := StN.at4 X7 1 (.int .u64 T)
    replace XR := XR.stn SX (by omega); replace X5 := X5.stn SX (by omega); replace X6 := X6.stn SX (by omega); replace X8 := X8.stn SX (by omega); replace HB := Hqs HB SX (by omega); replace X7 := SX.box; clear SX; generalize World.setCell w9 ⟨w5.heap.size, 1, none⟩ (.int .u64 T) = wA at *; have xXR := XR.cell; have zXR0 := XR.frozen; have xX7 := X7.cell
    go_wp2; clear xXR zXR0 xX7; have SX := StN.mk4 XR (.bool s2) (.int .u64 T) (.int .u64 S) (.int .i64 Z)
    exact bodyPost_ret (v := .agg #[.bool s2, .int .u64 T, .int .u64 S, .int .i64 Z]) (by simp [results, Tryz.results84, go_sem, SX.box.cell]) rfl ⟨_, _, _, _, rfl, wd_of o3 o4 o1 o2 OO.out.1 z1 z2 fun up => by rw [← HZ.out]; exact (OO.out.2 up (by first | rfl | trivial)).2.2, (SX.below HB.out (by omega))⟩
  · have hxor : (s2 != s1) = true := by cases s2 <;> cases s1 <;> first | rfl | exact absurd rfl hs
    have hne : (s2 == s1) = false := by cases s2 <;> cases s1 <;> first | rfl | exact absurd rfl hs
    have hswv := HSW.out (M2 * 9223372036854775808 - mvd M1 n); rw [hxor, wsg_t] at hswv; have hb := (hswv true (by omega)).1; obtain ⟨S, c, T, d, f1, f2, f3, f4, c0, c1, o1, o2, o3, o4, o5⟩ := sub_words p1 p2 hb
    have ha1 := fun W : World => aSub64 W p1.2.2.1 p1.2.2.2.1 p2.2.2.1 p2.2.2.2.1 (by decide) (by decide) f1 f2
    have ha2 := fun W : World => aSub64 W p1.1 p1.2.1 p2.1 p2.2.1 c0 c1 f3 f4
    have OO := Lib.hid (And.intro o5 hswv)
    clear f1 f2 f3 f4 p1 p2 hb hswv o5; have xX5 := X5.cell; have xX6 := X6.cell; have xX7 := X7.cell; have zX70 := X7.frozen; have xX8 := X8.cell
    go_upto_region 9 with (simp only [ha1])
    clear xX5 xX6 xX7 zX70 xX8
    have SX : StN w8 (World.setCell w8 ⟨w5.heap.size, 2, none⟩ (.int .u64 S)) _ _ #[.bool s2, .int .u64 H1, .int .u64 S, .int .i64 Z] _ := StN.at4 X7 2 (.int .u64 S)
    replace XR := XR.stn SX (by omega); replace X5 := X5.stn SX (by omega); replace X6 := X6.stn SX (by omega); replace X8 := X8.stn SX (by omega); replace HB := Hqs HB SX (by omega); replace X7 := SX.box; clear SX; generalize World.setCell w8 ⟨w5.heap.size, 2, none⟩ (.int .u64 S) = w9 at *; have xX7 := X7.cell; have zX70 := X7.frozen; have xX8 := X8.cell
    go_upto_region 10 with (simp only [ha2])
    clear xX7 zX70 xX8
    have SX : StN w9 (World.setCell w9 ⟨w5.heap.size, 1, none⟩ (.int .u64 T)) _ _ #[.bool s2, .int .u64 T, .int .u64 S, .int .i64 Z] _ := StN.at4 X7 1 (.int .u64 T)
    replace XR := XR.stn SX (by omega); replace X5 := X5.stn SX (by omega); replace X6 := X6.stn SX (by omega); replace X8 := X8.stn SX (by omega); replace HB := Hqs HB SX (by omega); replace X7 := SX.box; clear SX; generalize World.setCell w9 ⟨w5.heap.size, 1, none⟩ (.int .u64 T) = wA at *; have xXR := XR.cell; have zXR0 := XR.frozen; have xX7 := X7.cell
    go_wp2; clear xXR zXR0 xX7; have SX := StN.mk4 XR (.bool s2) (.int .u64 T) (.int .u64 S) (.int .i64 Z)
    exact bodyPost_ret (v := .agg #[.bool s2, .int .u64 T, .int .u64 S, .int .i64 Z]) (by simp [results, Tryz.results84, go_sem, SX.box.cell]) rfl ⟨_, _, _, _, rfl, wd_of o3 o4 o1 o2 OO.out.1 z1 z2 fun up => by rw [← HZ.out]; exact (OO.out.2 up (by omega)).2.2, (SX.below HB.out (by omega))⟩
theorem sum_eqge {w : World} {s1 s2 : Bool} {M1 M2 E1 E2 x y : Int} (hT : Tb w) (q1 : Fq 1 s1 M1 E1 x) (q2 : Fq 1 s2 M2 E2 y) (h : E1 = E2) (hm : ¬ M1 < M2) : Calls Tryz.prog 84 #[.agg #[.int .i64 1, .bool s1, .int .u64 M1, .int .i64 E1], .agg #[.int .i64 1, .bool s2, .int .u64 M2, .int .i64 E2]] w (PW6 w fun up => addp up x y) := by
  obtain ⟨a1, a2, a3, a4, _⟩ := fq_vr q1; obtain ⟨b1, b2, b3, b4, _⟩ := fq_vr q2
  have HO := Lib.hid (And.intro h hm)
  obtain ⟨n, hn⟩ : ∃ n : Nat, (n : Int) = E1 - E2 + 1 := ⟨(E1 - E2 + 1).toNat, by omega⟩
  have hsw : ∀ (S : Int) up, S = M1 * 9223372036854775808 + sgi (s1 != s2) (mvd M2 n) → 0 ≤ S ∧ S < 340282366920938463463374607431768211456 ∧ rnd up (mk (sgi s1 S) (E1 + 1 - 64)).1 (mk (sgi s1 S) (E1 + 1 - 64)).2 = addp up x y := fun S up hS => by
    obtain ⟨u1, u2, u3⟩ := sum_wide up q1 q2 (by omega) hn hS; refine ⟨u1, u2, ?_⟩
    rw [show E1 + 1 - 64 = E1 - 63 by omega, u3]
  have HSW := Lib.hid hsw; obtain ⟨N, hN⟩ : ∃ N, (n : Int) = N := ⟨_, rfl⟩; obtain ⟨D, hD⟩ : ∃ D, E1 - E2 = D := ⟨_, rfl⟩
  have n1 : 1 ≤ n := by omega
  have n3 : n ≤ 4000000 := by omega
  have HN := Lib.hid hN
  have HD := Lib.hid (show IntKind.i64.wrap (E1 - E2) = D by rw [hD]; exact IntWalk.i64_in _ (by omega))
  have HD2 := Lib.hid (show IntKind.i64.wrap (D + 1) = N by rw [show D + 1 = N by omega]; exact IntWalk.i64_in _ (by omega))
  obtain ⟨Y, hY⟩ : ∃ Y, E2 + N = Y := ⟨_, rfl⟩; have HY := Lib.hid hY; obtain ⟨Z, hZ⟩ : ∃ Z, E1 + 1 = Z := ⟨_, rfl⟩; have HZ := Lib.hid hZ
  have z1 : -2900000 ≤ Z := by omega
  have z2 : Z ≤ 2900000 := by omega
  have v1 : mvd M1 1 = M1 * 9223372036854775808 := by
    unfold mvd
    rw [if_pos (by decide)]
    rfl
  have HV1 := Lib.hid v1
  have g1 : 9223372036854775808 ≤ M1 := by omega
  have g2 : M1 < 18446744073709551616 := by omega
  have g3 : -2000000 ≤ E1 := by omega
  have g4 : E1 ≤ 2000000 := by omega
  have k1 : 9223372036854775808 ≤ M2 := by omega
  have k2 : M2 < 18446744073709551616 := by omega
  have k3 : -2000000 ≤ E2 := by omega
  have k4 : E2 ≤ 2000000 := by omega
  clear hn hN hD hY hZ v1 hsw h hm q1 q2 a1 a2 a3 a4 b1 b2 b3 b4
  go_enter Tryz.func84, Tryz.ntmps84
  go_upto_region 1 with (fail)
  generalize hW1 : ((w.alloc _).alloc _).alloc _ = w1 at *; obtain ⟨X2, X3, XR, HB⟩ := Bo.en3 hW1; replace hT := hT.below HB.out; clear hW1; have xX2 := X2.cell; have xX3 := X3.cell
  go_wp2_with fail
  refine (order_eqge HO.out.1 (by have := HO.out.2; omega)).mono ?_; rintro ee w2 ⟨rfl, B⟩; clear xX2 xX3; replace X2 := X2.below B; replace X3 := X3.below B; replace XR := XR.below B; replace hT := hT.below B; replace HB := Hqb HB B; clear B
  go_upto_region 2 with (fail)
  clear X2 X3
  have hsz : (World.alloc w2 (.cells #[.int .i64 1, .bool s1, .int .u64 M1, .int .i64 E1] 32)).heap.size = w2.heap.size + 1 := by simp
  have lX5 := Nat.le_refl (World.heap w2).size; have nX5XR := XR.lt; replace XR := XR.below (bel1 _ (.cells #[.int .i64 1, .bool s1, .int .u64 M1, .int .i64 E1] 32)); replace hT := hT.below (bel1 _ (.cells #[.int .i64 1, .bool s1, .int .u64 M1, .int .i64 E1] 32)); replace HB := Lib.hid (bt HB.out (bel1 _ (.cells #[.int .i64 1, .bool s1, .int .u64 M1, .int .i64 E1] 32))); have X5 := Bo.new w2 #[.int .i64 1, .bool s1, .int .u64 M1, .int .i64 E1] 32
  generalize hWn : World.alloc w2 (.cells #[.int .i64 1, .bool s1, .int .u64 M1, .int .i64 E1] 32) = w3 at *; clear hWn; have lX6 := Nat.le_refl (World.heap w3).size; have nX6XR := XR.lt; have nX6X5 := X5.lt; generalize hWn : w3.alloc _ = w4 at *; obtain ⟨X6, BW⟩ := Bo.nw hWn; clear hWn; replace XR := XR.below BW; replace X5 := X5.below BW; replace hT := hT.below BW; replace HB := Hqb HB BW
  clear BW; rw [hsz] at X6 nX6X5 nX6XR; clear lX5 lX6 hsz; have xX5 := X5.cell
  go_wp2_with fail
  refine (aMoved (n := 1) (s := s1) hT g1 g2 (by rfl) HZ.out g3 g4 (by decide) (by decide)).mono ?_; rintro ee w5 ⟨H1, L1, rfl, p1, B⟩; clear xX5; replace XR := XR.below B; replace X5 := X5.below B; replace X6 := X6.below B; replace hT := hT.below B; replace HB := Hqb HB B; clear B; rw [HV1.out] at p1
  go_upto_region 3 with (fail)
  have lX7 := Nat.le_refl (World.heap w5).size; have nX7XR := XR.lt; have nX7X5 := X5.lt; have nX7X6 := X6.lt; generalize hWn : w5.alloc _ = w6 at *; obtain ⟨X7, BW⟩ := Bo.nw hWn; clear hWn; replace XR := XR.below BW; replace X5 := X5.below BW; replace X6 := X6.below BW; replace hT := hT.below BW; replace HB := Hqb HB BW; clear BW; clear lX7; have xX5 := X5.cell; have xX6 := X6.cell
  have hd := HD.out; have hd2 := HD2.out
  go_wp2_with fail
  refine (aMoved (s := s2) hT k1 k2 HN.out HY.out k3 k4 n1 n3).mono ?_; rintro ee w7 ⟨H2, L2, rfl, p2, B⟩; clear xX5 xX6; replace XR := XR.below B; replace X5 := X5.below B; replace X6 := X6.below B; replace X7 := X7.below B; replace hT := hT.below B; replace HB := Hqb HB B; clear B; clear hd hd2
  go_upto_region 5 with (fail)
  have lX8 := Nat.le_refl (World.heap w7).size; have nX8XR := XR.lt; have nX8X5 := X5.lt; have nX8X6 := X6.lt; have nX8X7 := X7.lt; generalize hWn : w7.alloc _ = w8 at *; obtain ⟨X8, BW⟩ := Bo.nw hWn; clear hWn; replace XR := XR.below BW; replace X5 := X5.below BW; replace X6 := X6.below BW; replace X7 := X7.below BW; replace hT := hT.below BW; replace HB := Hqb HB BW; clear BW; clear lX8
  by_cases hs : s1 = s2
  · subst hs
    have hxor : (s1 != s1) = false := by cases s1 <;> rfl
    have hswv := HSW.out (M1 * 9223372036854775808 + mvd M2 n); rw [hxor, wsg_f] at hswv; have hb := (hswv true rfl).2.1; obtain ⟨S, c, T, d, f1, f2, f3, f4, c0, c1, o1, o2, o3, o4, o5⟩ := add_words p1 p2 hb
    have ha1 := fun W : World => aAdd64 W p1.2.2.1 p2.2.2.1 (by decide) (by decide) f1 f2
    have ha2 := fun W : World => aAdd64 W p1.1 p2.1 c0 c1 f3 f4
    have OO := Lib.hid (And.intro o5 hswv)
    clear f1 f2 f3 f4 p1 p2 hb hswv o5; have xX5 := X5.cell; have xX6 := X6.cell; have xX7 := X7.cell; have zX70 := X7.frozen; have xX8 := X8.cell
    go_upto_region 7 with (simp only [ha1])
    clear xX5 xX6 xX7 zX70 xX8
    have SX : StN w8 (World.setCell w8 ⟨w5.heap.size, 2, none⟩ (.int .u64 S)) _ _ #[.bool s1, .int .u64 H1, .int .u64 S, .int .i64 Z] _ := StN.at4 X7 2 (.int .u64 S)
    replace XR := XR.stn SX (by omega); replace X5 := X5.stn SX (by omega); replace X6 := X6.stn SX (by omega); replace X8 := X8.stn SX (by omega); replace HB := Hqs HB SX (by omega); replace X7 := SX.box; clear SX; generalize World.setCell w8 ⟨w5.heap.size, 2, none⟩ (.int .u64 S) = w9 at *; have xX7 := X7.cell; have zX70 := X7.frozen; have xX8 := X8.cell
    go_upto_region 10 with (simp only [ha2])
    clear xX7 zX70 xX8
    have SX : StN w9 (World.setCell w9 ⟨w5.heap.size, 1, none⟩ (.int .u64 T)) _ _ #[.bool s1, .int .u64 T, .int .u64 S, .int .i64 Z] _ := StN.at4 X7 1 (.int .u64 T)
    replace XR := XR.stn SX (by omega); replace X5 := X5.stn SX (by omega); replace X6 := X6.stn SX (by omega); replace X8 := X8.stn SX (by omega); replace HB := Hqs HB SX (by omega); replace X7 := SX.box; clear SX; generalize World.setCell w9 ⟨w5.heap.size, 1, none⟩ (.int .u64 T) = wA at *; have xXR := XR.cell; have zXR0 := XR.frozen; have xX7 := X7.cell
    go_wp2; clear xXR zXR0 xX7; have SX := StN.mk4 XR (.bool s1) (.int .u64 T) (.int .u64 S) (.int .i64 Z)
    exact bodyPost_ret (v := .agg #[.bool s1, .int .u64 T, .int .u64 S, .int .i64 Z]) (by simp [results, Tryz.results84, go_sem, SX.box.cell]) rfl ⟨_, _, _, _, rfl, wd_of o3 o4 o1 o2 OO.out.1 z1 z2 fun up => by rw [← HZ.out]; exact (OO.out.2 up (by first | rfl | trivial)).2.2, (SX.below HB.out (by omega))⟩
  · have hxor : (s1 != s2) = true := by cases s1 <;> cases s2 <;> first | rfl | exact absurd rfl hs
    have hne : (s1 == s2) = false := by cases s1 <;> cases s2 <;> first | rfl | exact absurd rfl hs
    have hswv := HSW.out (M1 * 9223372036854775808 - mvd M2 n); rw [hxor, wsg_t] at hswv; have hb := (hswv true (by omega)).1; obtain ⟨S, c, T, d, f1, f2, f3, f4, c0, c1, o1, o2, o3, o4, o5⟩ := sub_words p1 p2 hb
    have ha1 := fun W : World => aSub64 W p1.2.2.1 p1.2.2.2.1 p2.2.2.1 p2.2.2.2.1 (by decide) (by decide) f1 f2
    have ha2 := fun W : World => aSub64 W p1.1 p1.2.1 p2.1 p2.2.1 c0 c1 f3 f4
    have OO := Lib.hid (And.intro o5 hswv)
    clear f1 f2 f3 f4 p1 p2 hb hswv o5; have xX5 := X5.cell; have xX6 := X6.cell; have xX7 := X7.cell; have zX70 := X7.frozen; have xX8 := X8.cell
    go_upto_region 9 with (simp only [ha1])
    clear xX5 xX6 xX7 zX70 xX8
    have SX : StN w8 (World.setCell w8 ⟨w5.heap.size, 2, none⟩ (.int .u64 S)) _ _ #[.bool s1, .int .u64 H1, .int .u64 S, .int .i64 Z] _ := StN.at4 X7 2 (.int .u64 S)
    replace XR := XR.stn SX (by omega); replace X5 := X5.stn SX (by omega); replace X6 := X6.stn SX (by omega); replace X8 := X8.stn SX (by omega); replace HB := Hqs HB SX (by omega); replace X7 := SX.box; clear SX; generalize World.setCell w8 ⟨w5.heap.size, 2, none⟩ (.int .u64 S) = w9 at *; have xX7 := X7.cell; have zX70 := X7.frozen; have xX8 := X8.cell
    go_upto_region 10 with (simp only [ha2])
    clear xX7 zX70 xX8
    have SX : StN w9 (World.setCell w9 ⟨w5.heap.size, 1, none⟩ (.int .u64 T)) _ _ #[.bool s1, .int .u64 T, .int .u64 S, .int .i64 Z] _ := StN.at4 X7 1 (.int .u64 T)
    replace XR := XR.stn SX (by omega); replace X5 := X5.stn SX (by omega); replace X6 := X6.stn SX (by omega); replace X8 := X8.stn SX (by omega); replace HB := Hqs HB SX (by omega); replace X7 := SX.box; clear SX; generalize World.setCell w9 ⟨w5.heap.size, 1, none⟩ (.int .u64 T) = wA at *; have xXR := XR.cell; have zXR0 := XR.frozen; have xX7 := X7.cell
    go_wp2; clear xXR zXR0 xX7; have SX := StN.mk4 XR (.bool s1) (.int .u64 T) (.int .u64 S) (.int .i64 Z)
    exact bodyPost_ret (v := .agg #[.bool s1, .int .u64 T, .int .u64 S, .int .i64 Z]) (by simp [results, Tryz.results84, go_sem, SX.box.cell]) rfl ⟨_, _, _, _, rfl, wd_of o3 o4 o1 o2 OO.out.1 z1 z2 fun up => by rw [← HZ.out]; exact (OO.out.2 up (by omega)).2.2, (SX.below HB.out (by omega))⟩
theorem sum_gt {w : World} {s1 s2 : Bool} {M1 M2 E1 E2 x y : Int} (hT : Tb w) (q1 : Fq 1 s1 M1 E1 x) (q2 : Fq 1 s2 M2 E2 y) (h : E2 < E1) : Calls Tryz.prog 84 #[.agg #[.int .i64 1, .bool s1, .int .u64 M1, .int .i64 E1], .agg #[.int .i64 1, .bool s2, .int .u64 M2, .int .i64 E2]] w (PW6 w fun up => addp up x y) := by
  obtain ⟨a1, a2, a3, a4, _⟩ := fq_vr q1; obtain ⟨b1, b2, b3, b4, _⟩ := fq_vr q2; have HO := Lib.hid (h); obtain ⟨n, hn⟩ : ∃ n : Nat, (n : Int) = E1 - E2 + 1 := ⟨(E1 - E2 + 1).toNat, by omega⟩
  have hsw : ∀ (S : Int) up, S = M1 * 9223372036854775808 + sgi (s1 != s2) (mvd M2 n) → 0 ≤ S ∧ S < 340282366920938463463374607431768211456 ∧ rnd up (mk (sgi s1 S) (E1 + 1 - 64)).1 (mk (sgi s1 S) (E1 + 1 - 64)).2 = addp up x y := fun S up hS => by
    obtain ⟨u1, u2, u3⟩ := sum_wide up q1 q2 (by omega) hn hS; refine ⟨u1, u2, ?_⟩
    rw [show E1 + 1 - 64 = E1 - 63 by omega, u3]
  have HSW := Lib.hid hsw; obtain ⟨N, hN⟩ : ∃ N, (n : Int) = N := ⟨_, rfl⟩; obtain ⟨D, hD⟩ : ∃ D, E1 - E2 = D := ⟨_, rfl⟩
  have n1 : 1 ≤ n := by omega
  have n3 : n ≤ 4000000 := by omega
  have HN := Lib.hid hN
  have HD := Lib.hid (show IntKind.i64.wrap (E1 - E2) = D by rw [hD]; exact IntWalk.i64_in _ (by omega))
  have HD2 := Lib.hid (show IntKind.i64.wrap (D + 1) = N by rw [show D + 1 = N by omega]; exact IntWalk.i64_in _ (by omega))
  obtain ⟨Y, hY⟩ : ∃ Y, E2 + N = Y := ⟨_, rfl⟩; have HY := Lib.hid hY; obtain ⟨Z, hZ⟩ : ∃ Z, E1 + 1 = Z := ⟨_, rfl⟩; have HZ := Lib.hid hZ
  have z1 : -2900000 ≤ Z := by omega
  have z2 : Z ≤ 2900000 := by omega
  have v1 : mvd M1 1 = M1 * 9223372036854775808 := by
    unfold mvd
    rw [if_pos (by decide)]
    rfl
  have HV1 := Lib.hid v1
  have g1 : 9223372036854775808 ≤ M1 := by omega
  have g2 : M1 < 18446744073709551616 := by omega
  have g3 : -2000000 ≤ E1 := by omega
  have g4 : E1 ≤ 2000000 := by omega
  have k1 : 9223372036854775808 ≤ M2 := by omega
  have k2 : M2 < 18446744073709551616 := by omega
  have k3 : -2000000 ≤ E2 := by omega
  have k4 : E2 ≤ 2000000 := by omega
  clear hn hN hD hY hZ v1 hsw h q1 q2 a1 a2 a3 a4 b1 b2 b3 b4
  go_enter Tryz.func84, Tryz.ntmps84
  go_upto_region 1 with (fail)
  generalize hW1 : ((w.alloc _).alloc _).alloc _ = w1 at *; obtain ⟨X2, X3, XR, HB⟩ := Bo.en3 hW1; replace hT := hT.below HB.out; clear hW1; have xX2 := X2.cell; have xX3 := X3.cell
  go_wp2_with fail
  refine (order_gt HO.out).mono ?_; rintro ee w2 ⟨rfl, B⟩; clear xX2 xX3; replace X2 := X2.below B; replace X3 := X3.below B; replace XR := XR.below B; replace hT := hT.below B; replace HB := Hqb HB B; clear B
  go_upto_region 2 with (fail)
  clear X2 X3
  have hsz : (World.alloc w2 (.cells #[.int .i64 1, .bool s1, .int .u64 M1, .int .i64 E1] 32)).heap.size = w2.heap.size + 1 := by simp
  have lX5 := Nat.le_refl (World.heap w2).size; have nX5XR := XR.lt; replace XR := XR.below (bel1 _ (.cells #[.int .i64 1, .bool s1, .int .u64 M1, .int .i64 E1] 32)); replace hT := hT.below (bel1 _ (.cells #[.int .i64 1, .bool s1, .int .u64 M1, .int .i64 E1] 32)); replace HB := Lib.hid (bt HB.out (bel1 _ (.cells #[.int .i64 1, .bool s1, .int .u64 M1, .int .i64 E1] 32))); have X5 := Bo.new w2 #[.int .i64 1, .bool s1, .int .u64 M1, .int .i64 E1] 32
  generalize hWn : World.alloc w2 (.cells #[.int .i64 1, .bool s1, .int .u64 M1, .int .i64 E1] 32) = w3 at *; clear hWn; have lX6 := Nat.le_refl (World.heap w3).size; have nX6XR := XR.lt; have nX6X5 := X5.lt; generalize hWn : w3.alloc _ = w4 at *; obtain ⟨X6, BW⟩ := Bo.nw hWn; clear hWn; replace XR := XR.below BW; replace X5 := X5.below BW; replace hT := hT.below BW; replace HB := Hqb HB BW
  clear BW; rw [hsz] at X6 nX6X5 nX6XR; clear lX5 lX6 hsz; have xX5 := X5.cell
  go_wp2_with fail
  refine (aMoved (n := 1) (s := s1) hT g1 g2 (by rfl) HZ.out g3 g4 (by decide) (by decide)).mono ?_; rintro ee w5 ⟨H1, L1, rfl, p1, B⟩; clear xX5; replace XR := XR.below B; replace X5 := X5.below B; replace X6 := X6.below B; replace hT := hT.below B; replace HB := Hqb HB B; clear B; rw [HV1.out] at p1
  go_upto_region 3 with (fail)
  have lX7 := Nat.le_refl (World.heap w5).size; have nX7XR := XR.lt; have nX7X5 := X5.lt; have nX7X6 := X6.lt; generalize hWn : w5.alloc _ = w6 at *; obtain ⟨X7, BW⟩ := Bo.nw hWn; clear hWn; replace XR := XR.below BW; replace X5 := X5.below BW; replace X6 := X6.below BW; replace hT := hT.below BW; replace HB := Hqb HB BW; clear BW; clear lX7; have xX5 := X5.cell; have xX6 := X6.cell
  have hd := HD.out; have hd2 := HD2.out
  go_wp2_with fail
  refine (aMoved (s := s2) hT k1 k2 HN.out HY.out k3 k4 n1 n3).mono ?_; rintro ee w7 ⟨H2, L2, rfl, p2, B⟩; clear xX5 xX6; replace XR := XR.below B; replace X5 := X5.below B; replace X6 := X6.below B; replace X7 := X7.below B; replace hT := hT.below B; replace HB := Hqb HB B; clear B; clear hd hd2
  go_upto_region 5 with (fail)
  have lX8 := Nat.le_refl (World.heap w7).size; have nX8XR := XR.lt; have nX8X5 := X5.lt; have nX8X6 := X6.lt; have nX8X7 := X7.lt; generalize hWn : w7.alloc _ = w8 at *; obtain ⟨X8, BW⟩ := Bo.nw hWn; clear hWn; replace XR := XR.below BW; replace X5 := X5.below BW; replace X6 := X6.below BW; replace X7 := X7.below BW; replace hT := hT.below BW; replace HB := Hqb HB BW; clear BW; clear lX8
  by_cases hs : s1 = s2
  · subst hs
    have hxor : (s1 != s1) = false := by cases s1 <;> rfl
    have hswv := HSW.out (M1 * 9223372036854775808 + mvd M2 n); rw [hxor, wsg_f] at hswv; have hb := (hswv true rfl).2.1; obtain ⟨S, c, T, d, f1, f2, f3, f4, c0, c1, o1, o2, o3, o4, o5⟩ := add_words p1 p2 hb
    have ha1 := fun W : World => aAdd64 W p1.2.2.1 p2.2.2.1 (by decide) (by decide) f1 f2
    have ha2 := fun W : World => aAdd64 W p1.1 p2.1 c0 c1 f3 f4
    have OO := Lib.hid (And.intro o5 hswv)
    clear f1 f2 f3 f4 p1 p2 hb hswv o5; have xX5 := X5.cell; have xX6 := X6.cell; have xX7 := X7.cell; have zX70 := X7.frozen; have xX8 := X8.cell
    go_upto_region 7 with (simp only [ha1])
    clear xX5 xX6 xX7 zX70 xX8
    have SX : StN w8 (World.setCell w8 ⟨w5.heap.size, 2, none⟩ (.int .u64 S)) _ _ #[.bool s1, .int .u64 H1, .int .u64 S, .int .i64 Z] _ := StN.at4 X7 2 (.int .u64 S)
    replace XR := XR.stn SX (by omega); replace X5 := X5.stn SX (by omega); replace X6 := X6.stn SX (by omega); replace X8 := X8.stn SX (by omega); replace HB := Hqs HB SX (by omega); replace X7 := SX.box; clear SX; generalize World.setCell w8 ⟨w5.heap.size, 2, none⟩ (.int .u64 S) = w9 at *; have xX7 := X7.cell; have zX70 := X7.frozen; have xX8 := X8.cell
    go_upto_region 10 with (simp only [ha2])
    clear xX7 zX70 xX8
    have SX : StN w9 (World.setCell w9 ⟨w5.heap.size, 1, none⟩ (.int .u64 T)) _ _ #[.bool s1, .int .u64 T, .int .u64 S, .int .i64 Z] _ := StN.at4 X7 1 (.int .u64 T)
    replace XR := XR.stn SX (by omega); replace X5 := X5.stn SX (by omega); replace X6 := X6.stn SX (by omega); replace X8 := X8.stn SX (by omega); replace HB := Hqs HB SX (by omega); replace X7 := SX.box; clear SX; generalize World.setCell w9 ⟨w5.heap.size, 1, none⟩ (.int .u64 T) = wA at *; have xXR := XR.cell; have zXR0 := XR.frozen; have xX7 := X7.cell
    go_wp2; clear xXR zXR0 xX7; have SX := StN.mk4 XR (.bool s1) (.int .u64 T) (.int .u64 S) (.int .i64 Z)
    exact bodyPost_ret (v := .agg #[.bool s1, .int .u64 T, .int .u64 S, .int .i64 Z]) (by simp [results, Tryz.results84, go_sem, SX.box.cell]) rfl ⟨_, _, _, _, rfl, wd_of o3 o4 o1 o2 OO.out.1 z1 z2 fun up => by rw [← HZ.out]; exact (OO.out.2 up (by first | rfl | trivial)).2.2, (SX.below HB.out (by omega))⟩
  · have hxor : (s1 != s2) = true := by cases s1 <;> cases s2 <;> first | rfl | exact absurd rfl hs
    have hne : (s1 == s2) = false := by cases s1 <;> cases s2 <;> first | rfl | exact absurd rfl hs
    have hswv := HSW.out (M1 * 9223372036854775808 - mvd M2 n); rw [hxor, wsg_t] at hswv; have hb := (hswv true (by omega)).1; obtain ⟨S, c, T, d, f1, f2, f3, f4, c0, c1, o1, o2, o3, o4, o5⟩ := sub_words p1 p2 hb
    have ha1 := fun W : World => aSub64 W p1.2.2.1 p1.2.2.2.1 p2.2.2.1 p2.2.2.2.1 (by decide) (by decide) f1 f2
    have ha2 := fun W : World => aSub64 W p1.1 p1.2.1 p2.1 p2.2.1 c0 c1 f3 f4
    have OO := Lib.hid (And.intro o5 hswv)
    clear f1 f2 f3 f4 p1 p2 hb hswv o5; have xX5 := X5.cell; have xX6 := X6.cell; have xX7 := X7.cell; have zX70 := X7.frozen; have xX8 := X8.cell
    go_upto_region 9 with (simp only [ha1])
    clear xX5 xX6 xX7 zX70 xX8
    have SX : StN w8 (World.setCell w8 ⟨w5.heap.size, 2, none⟩ (.int .u64 S)) _ _ #[.bool s1, .int .u64 H1, .int .u64 S, .int .i64 Z] _ := StN.at4 X7 2 (.int .u64 S)
    replace XR := XR.stn SX (by omega); replace X5 := X5.stn SX (by omega); replace X6 := X6.stn SX (by omega); replace X8 := X8.stn SX (by omega); replace HB := Hqs HB SX (by omega); replace X7 := SX.box; clear SX; generalize World.setCell w8 ⟨w5.heap.size, 2, none⟩ (.int .u64 S) = w9 at *; have xX7 := X7.cell; have zX70 := X7.frozen; have xX8 := X8.cell
    go_upto_region 10 with (simp only [ha2])
    clear xX7 zX70 xX8
    have SX : StN w9 (World.setCell w9 ⟨w5.heap.size, 1, none⟩ (.int .u64 T)) _ _ #[.bool s1, .int .u64 T, .int .u64 S, .int .i64 Z] _ := StN.at4 X7 1 (.int .u64 T)
    replace XR := XR.stn SX (by omega); replace X5 := X5.stn SX (by omega); replace X6 := X6.stn SX (by omega); replace X8 := X8.stn SX (by omega); replace HB := Hqs HB SX (by omega); replace X7 := SX.box; clear SX; generalize World.setCell w9 ⟨w5.heap.size, 1, none⟩ (.int .u64 T) = wA at *; have xXR := XR.cell; have zXR0 := XR.frozen; have xX7 := X7.cell
    go_wp2; clear xXR zXR0 xX7; have SX := StN.mk4 XR (.bool s1) (.int .u64 T) (.int .u64 S) (.int .i64 Z)
    exact bodyPost_ret (v := .agg #[.bool s1, .int .u64 T, .int .u64 S, .int .i64 Z]) (by simp [results, Tryz.results84, go_sem, SX.box.cell]) rfl ⟨_, _, _, _, rfl, wd_of o3 o4 o1 o2 OO.out.1 z1 z2 fun up => by rw [← HZ.out]; exact (OO.out.2 up (by omega)).2.2, (SX.below HB.out (by omega))⟩
theorem aSum2 {w : World} {s1 s2 : Bool} {M1 M2 E1 E2 x y : Int} (hT : Tb w) (q1 : Fq 1 s1 M1 E1 x) (q2 : Fq 1 s2 M2 E2 y) : Calls Tryz.prog 84 #[.agg #[.int .i64 1, .bool s1, .int .u64 M1, .int .i64 E1], .agg #[.int .i64 1, .bool s2, .int .u64 M2, .int .i64 E2]] w (PW6 w fun up => addp up x y) := by
  rcases Int.lt_trichotomy E1 E2 with h | h | h
  · exact sum_lt hT q1 q2 h
  · by_cases hm : M1 < M2
    · exact sum_eqlt hT q1 q2 h hm
    · exact sum_eqge hT q1 q2 h hm
  · exact sum_gt hT q1 q2 h
theorem aProduct {w : World} {s1 s2 : Bool} {M1 M2 E1 E2 x y : Int} (q1 : Fq 1 s1 M1 E1 x) (q2 : Fq 1 s2 M2 E2 y) : Calls Tryz.prog 87 #[.agg #[.int .i64 1, .bool s1, .int .u64 M1, .int .i64 E1], .agg #[.int .i64 1, .bool s2, .int .u64 M2, .int .i64 E2]] w (PW6 w fun up => mulp up x y) := by
  obtain ⟨a1, a2, a3, a4, _⟩ := fq_vr q1; obtain ⟨b1, b2, b3, b4, _⟩ := fq_vr q2; obtain ⟨u1, u2, _⟩ := pro_wide true q1 q2
  have HU := Lib.hid (fun up => (pro_wide up q1 q2).2.2)
  obtain ⟨G, hG⟩ : ∃ G, E1 + E2 = G := ⟨_, rfl⟩; obtain ⟨Z, hZ⟩ : ∃ Z, G + 64 = Z := ⟨_, rfl⟩
  have HG := Lib.hid (show IntKind.i64.wrap (E1 + E2) = G by rw [hG]; exact IntWalk.i64_in _ (by omega))
  have HZ := Lib.hid (show IntKind.i64.wrap (G + 64) = Z by rw [hZ]; exact IntWalk.i64_in _ (by omega))
  have HGZ := Lib.hid (And.intro hG hZ)
  obtain ⟨H, hH⟩ : ∃ H, M1 * M2 / 18446744073709551616 = H := ⟨_, rfl⟩; obtain ⟨L, hL⟩ : ∃ L, M1 * M2 % 18446744073709551616 = L := ⟨_, rfl⟩
  have z1 : -2900000 ≤ Z := by omega
  have z2 : Z ≤ 2900000 := by omega
  have HV : Hid (0 ≤ H ∧ H < 18446744073709551616 ∧ 0 ≤ L ∧ L < 18446744073709551616 ∧ H * 18446744073709551616 + L = M1 * M2) := Lib.hid (by
    revert u1 u2 hH hL
    generalize M1 * M2 = P
    intro u1 u2 hH hL
    omega)
  have HH := Lib.hid hH; have HL := Lib.hid hL
  have k1 : 0 ≤ M1 := by omega
  have k2 : 0 ≤ M2 := by omega
  clear u1 u2 hH hL hG hZ q1 q2 a1 a3 a4 b1 b3 b4
  go_enter Tryz.func87, Tryz.ntmps87
  go_upto_region 1 with (fail)
  generalize hW1 : ((w.alloc _).alloc _).alloc _ = w1 at *; obtain ⟨X2, X3, XR, HB⟩ := Bo.en3 hW1; clear hW1; have xX2 := X2.cell; have xX3 := X3.cell
  go_wp2_with fail
  refine (aMul64 _ k1 a2 k2 b2 HH.out HL.out).mono ?_; rintro ee w2 ⟨rfl, B⟩; clear xX2 xX3; replace X2 := X2.below B; replace X3 := X3.below B; replace XR := XR.below B; replace HB := Hqb HB B; clear B; have hg := HG.out; have hz := HZ.out; have xXR := XR.cell; have zXR0 := XR.frozen; have xX2 := X2.cell; have xX3 := X3.cell
  go_wp2; clear xXR zXR0 xX2 xX3; have SX := StN.mk4 XR (.bool (!(s1 == s2))) (.int .u64 H) (.int .u64 L) (.int .i64 Z)
  exact bodyPost_ret (v := .agg #[.bool (!(s1 == s2)), .int .u64 H, .int .u64 L, .int .i64 Z]) (by simp [results, Tryz.results87, go_sem, SX.box.cell]) rfl ⟨_, _, _, _, rfl, wd_of HV.out.1 HV.out.2.1 HV.out.2.2.1 HV.out.2.2.2.1 HV.out.2.2.2.2 z1 z2 fun up => by rw [← HU.out up, show (!(s1 == s2)) = (s1 != s2) from rfl, show Z - 64 = E1 + E2 by have := HGZ.out; omega], (SX.below HB.out (by omega))⟩
end Go.Proofs.YtpnmphofengoeaaGreatDoor

namespace Go.Proofs.YtpnmphofengoeaaGreatDoor
set_option maxHeartbeats 8000000
open Go.RowKit
set_option linter.unusedVariables false
set_option linter.unusedSimpArgs false
set_option maxRecDepth 100000

theorem fq_tk {D : Int} {s : Bool} {M E : Int} (hM : M < 18446744073709551616) : ∃ K1 s1 M1 E1, Fq K1 s1 M1 E1 (rk D s M E) := by
  by_cases hm : MayQ D s M E
  · exact ⟨_, _, _, _, rk_fq hM hm⟩
  · rw [rk_not hm]; exact ⟨_, _, _, _, Fq.nought⟩
theorem aTaken {w : World} {D M E : Int} {s : Bool} {K1 M1 E1 x : Int} {s1 : Bool} (hM : M < 18446744073709551616) (q : Fq K1 s1 M1 E1 x) (hx : rk D s M E = x) : Calls Tryz.prog 83 #[.agg #[.int .i64 D, .bool s, .int .u64 M, .int .i64 E]] w (fun e w' => e = .returned (.agg #[.int .i64 K1, .bool s1, .int .u64 M1, .int .i64 E1]) ∧ Below w.heap.size w w') := by
  by_cases hm : MayQ D s M E
  · obtain ⟨rfl, rfl, rfl, rfl⟩ := q.uniq (hx ▸ rk_fq hM hm)
    have HC := Lib.hid (show decide (MayQ K1 s1 M1 E1) = true from decide_eq_true hm)
    clear hm hx hM q
    go_enter Tryz.func83, Tryz.ntmps83
    go_upto_region 1 with (fail)
    generalize hW1 : (w.alloc _).alloc _ = w1 at *; obtain ⟨X1, XR, HB⟩ := Bo.en2 hW1; clear hW1; have xX1 := X1.cell
    go_wp2_with fail
    refine (nMay HC.out).mono ?_; rintro ee w2 ⟨rfl, B⟩; clear xX1; replace X1 := X1.below B; replace XR := XR.below B; replace HB := Hqb HB B; clear B; have xXR := XR.cell; have zXR0 := XR.frozen; have xX1 := X1.cell; go_wp2; clear xXR zXR0 xX1; have SX := StN.mk4 XR (.int .i64 K1) (.bool s1) (.int .u64 M1) (.int .i64 E1)
    exact bodyPost_ret (v := .agg #[.int .i64 K1, .bool s1, .int .u64 M1, .int .i64 E1]) (by simp [results, Tryz.results83, go_sem, SX.box.cell]) rfl ⟨rfl, (SX.below HB.out (by omega))⟩
  · rw [rk_not hm] at hx; subst hx; obtain ⟨rfl, rfl, rfl, rfl⟩ := q.uniq Fq.nought
    have HC := Lib.hid (show decide (MayQ D s M E) = false from decide_eq_false hm)
    clear hm hM q
    go_enter Tryz.func83, Tryz.ntmps83
    go_upto_region 1 with (fail)
    generalize hW1 : (w.alloc _).alloc _ = w1 at *; obtain ⟨X1, XR, HB⟩ := Bo.en2 hW1; clear hW1; have xX1 := X1.cell
    go_wp2_with fail
    refine (nMay HC.out).mono ?_; rintro ee w2 ⟨rfl, B⟩; clear xX1; replace X1 := X1.below B; replace XR := XR.below B; replace HB := Hqb HB B; clear B; have xXR := XR.cell; have zXR0 := XR.frozen; have xX1 := X1.cell; go_wp2; clear xXR zXR0 xX1; have SX := StN.mk4 XR (.int .i64 0) (.bool false) (.int .u64 0) (.int .i64 0)
    exact bodyPost_ret (v := .agg #[.int .i64 0, .bool false, .int .u64 0, .int .i64 0]) (by simp [results, Tryz.results83, go_sem, SX.box.cell]) rfl ⟨rfl, (SX.below HB.out (by omega))⟩
theorem aAdd {w : World} {D D' M M' E E' : Int} {s s' : Bool} {up : Bool} {x y r : Int} (hT : Tb w) (hM : M < 18446744073709551616) (hM' : M' < 18446744073709551616) (hx : rk D s M E = x) (hy : rk D' s' M' E' = y) (hr : addp up x y = r) : Calls Tryz.prog 65 #[.agg #[.int .i64 D, .bool s, .int .u64 M, .int .i64 E], .agg #[.int .i64 D', .bool s', .int .u64 M', .int .i64 E'], .bool up] w (PN w r) := by
  obtain ⟨K1, s1, M1, E1, q1⟩ := fq_tk (D := D) (s := s) (M := M) (E := E) hM; obtain ⟨K2, s2, M2, E2, q2⟩ := fq_tk (D := D') (s := s') (M := M') (E := E') hM'; rw [hx] at q1; rw [hy] at q2; have HX := Lib.hid hx; have HY := Lib.hid hy; clear hx hy
  go_enter Tryz.func65, Tryz.ntmps65
  go_upto_region 1 with (fail)
  generalize hW1 : ((w.alloc _).alloc _).alloc _ = w1 at *; obtain ⟨X3, X4, XR, HB⟩ := Bo.en3 hW1; replace hT := hT.below HB.out; clear hW1; refine Jo.rk [0, 1, 2, 3] [some 7, some 8, some 9, some 10, none, none] [[], [0], [], [2], [], []] 6 2 [Jo.q4 D s M E, Jo.q4 K1 s1 M1 E1, Jo.q4 D' s' M' E', Jo.q4 K2 s2 M2 E2, Jo.Fact.any, Jo.Fact.any] (by kernel_rfl) (by kernel_rfl) (by decide) rfl ?_ ?_
  · refine Jo.jm rfl ?_ ?_; rotate_left
    refine Jo.jm rfl ?_ ?_
    · rintro wj hJ _ rfl K hK; simp only [Jo.z] at hK ⊢; go_simp; refine (aTaken hM q1 HX.out).mono ?_; rintro ee wk ⟨rfl, B⟩; exact hK.out _ _ rfl B
    refine Jo.jm rfl ?_ ?_; rotate_left
    refine Jo.jm rfl ?_ ?_
    · rintro wj hJ _ rfl K hK; simp only [Jo.z] at hK ⊢; go_simp; refine (aTaken hM' q2 HY.out).mono ?_; rintro ee wk ⟨rfl, B⟩; exact hK.out _ _ rfl B
    exact Jo.Steps.nil
    all_goals (rintro wj hJ; (repeat rintro _ rfl); intro K hK; simp only [Jo.z] at hK ⊢; have xX3 := (X3.below hJ).cell; have xX4 := (X4.below hJ).cell; go_simp; exact hK.out _ _ rfl (br _ _))
  rintro w2 hJ _ rfl _ rfl _ rfl _ rfl -; simp only [Jo.z]; replace X3 := X3.below hJ; replace X4 := X4.below hJ; replace XR := XR.below hJ; replace hT := hT.below hJ; replace HB := Hqb HB hJ; have xX3 := X3.cell; have zX30 := X3.frozen
  refine Jo.jnext (i := 4) (o := ⟨none, _, _, _, _, _⟩) (by kernel_rfl) rfl (fun K hK => ?_)
  go_simp; refine hK.out _ _ ?_; clear hK K xX3 zX30; generalize hS : (((w2.setCell _ _).setCell _ _).setCell _ _).setCell _ _ = w3 at *; have SX := StN.of4 X3 hS; replace X4 := X4.stn SX (by omega); replace XR := XR.stn SX (by omega); replace hT := hT.stn SX (by simp [no8]); replace HB := Hqs HB SX (by omega); replace X3 := SX.box; clear SX hS; have xX4 := X4.cell
  have zX40 := X4.frozen
  refine Jo.jnext (i := 5) (o := ⟨none, _, _, _, _, _⟩) (by kernel_rfl) rfl (fun K hK => ?_)
  go_simp; refine hK.out _ _ ?_; clear hK K xX4 zX40; generalize hS : (((w3.setCell _ _).setCell _ _).setCell _ _).setCell _ _ = w4 at *; have SX := StN.of4 X4 hS; replace X3 := X3.stn SX (by omega); replace XR := XR.stn SX (by omega); replace hT := hT.stn SX (by simp [no8]); replace HB := Hqs HB SX (by omega); replace X4 := SX.box; clear SX hS; refine Jo.jdone (by kernel_rfl) ?_
  clear HX HY hM hM'; have i1 := fq_inf q1; have i2 := fq_inf q2; have z1 := q1.zero_iff; have z2 := q2.zero_iff; have d1 := q1.bd; have d2 := q2.bd
  have kk1 : K1 = 2 ∨ K1 = 0 ∨ K1 = 1 := by rcases q1.cases with ⟨h, _⟩ | ⟨h, _⟩ | ⟨h, _⟩ <;> omega
  have kk2 : K2 = 2 ∨ K2 = 0 ∨ K2 = 1 := by rcases q2.cases with ⟨h, _⟩ | ⟨h, _⟩ | ⟨h, _⟩ <;> omega
  rcases kk1 with rfl | rfl | rfl
  · rcases kk2 with rfl | rfl | rfl
    · by_cases ks : s1 = s2
      · rw [addp_same up i1 ((fq_same q1 q2).2 ks)] at hr; subst hr; subst ks; clear i1 i2 z1 z2 d1 d2 q2; have xXR := XR.cell; have zXR0 := XR.frozen; have xX3 := X3.cell; have xX4 := X4.cell; go_wp2; clear xXR zXR0 xX3 xX4; have SX := StN.mk4 XR (.int .i64 2) (.bool s1) (.int .u64 M1) (.int .i64 E1)
        exact bodyPost_ret (by simp [results, Tryz.results65, go_sem, SX.box.cell]) rfl ⟨_, _, _, _, rfl, q1, (SX.below HB.out (by omega))⟩
      · rw [addp_diff up i1 i2 (fun e => ks ((fq_same q1 q2).1 e))] at hr
        obtain rfl : (!s1) = s2 := by cases s1 <;> cases s2 <;> first | rfl | exact absurd rfl ks
        have e2 : (s1 == !s1) = false := by cases s1 <;> rfl
        have HRR := Lib.hid hr; clear i1 i2 z1 z2 d1 d2 q1 q2 hr ks; have xX3 := X3.cell; have xX4 := X4.cell
        go_wp2_with fail
        refine (nInf (s := !up) HRR.out).mono ?_; rintro ee w5 ⟨K3, s3, M3, E3, rfl, q3, B⟩; clear xX3 xX4; replace X3 := X3.below B; replace X4 := X4.below B; replace XR := XR.below B; replace HB := Hqb HB B; clear B; have xXR := XR.cell; have zXR0 := XR.frozen; go_wp2; clear xXR zXR0; have SX := StN.mk4 XR (.int .i64 K3) (.bool s3) (.int .u64 M3) (.int .i64 E3)
        exact bodyPost_ret (by simp [results, Tryz.results65, go_sem, SX.box.cell]) rfl ⟨_, _, _, _, rfl, q3, (SX.below HB.out (by omega))⟩
    · rw [addp_tf up i1 i2] at hr; subst hr; clear i1 i2 z1 z2 d1 d2 q2; have xXR := XR.cell; have zXR0 := XR.frozen; have xX3 := X3.cell; have xX4 := X4.cell; go_wp2; clear xXR zXR0 xX3 xX4; have SX := StN.mk4 XR (.int .i64 2) (.bool s1) (.int .u64 M1) (.int .i64 E1); exact bodyPost_ret (by simp [results, Tryz.results65, go_sem, SX.box.cell]) rfl ⟨_, _, _, _, rfl, q1, (SX.below HB.out (by omega))⟩
    · rw [addp_tf up i1 i2] at hr; subst hr; clear i1 i2 z1 z2 d1 d2 q2; have xXR := XR.cell; have zXR0 := XR.frozen; have xX3 := X3.cell; have xX4 := X4.cell; go_wp2; clear xXR zXR0 xX3 xX4; have SX := StN.mk4 XR (.int .i64 2) (.bool s1) (.int .u64 M1) (.int .i64 E1); exact bodyPost_ret (by simp [results, Tryz.results65, go_sem, SX.box.cell]) rfl ⟨_, _, _, _, rfl, q1, (SX.below HB.out (by omega))⟩
  · rcases kk2 with rfl | rfl | rfl
    · rw [addp_ft up i1 i2] at hr; subst hr; clear i1 i2 z1 z2 d1 d2 q1; have xXR := XR.cell; have zXR0 := XR.frozen; have xX3 := X3.cell; have xX4 := X4.cell; go_wp2; clear xXR zXR0 xX3 xX4; have SX := StN.mk4 XR (.int .i64 2) (.bool s2) (.int .u64 M2) (.int .i64 E2); exact bodyPost_ret (by simp [results, Tryz.results65, go_sem, SX.box.cell]) rfl ⟨_, _, _, _, rfl, q2, (SX.below HB.out (by omega))⟩
    · rw [z2.1 rfl, addp_zero up d1.1 d1.2] at hr; subst hr; clear i1 i2 z1 z2 d1 d2 q2; have xXR := XR.cell; have zXR0 := XR.frozen; have xX3 := X3.cell; have xX4 := X4.cell; go_wp2; clear xXR zXR0 xX3 xX4; have SX := StN.mk4 XR (.int .i64 0) (.bool s1) (.int .u64 M1) (.int .i64 E1); exact bodyPost_ret (by simp [results, Tryz.results65, go_sem, SX.box.cell]) rfl ⟨_, _, _, _, rfl, q1, (SX.below HB.out (by omega))⟩
    · rw [z1.1 rfl, addp_comm, addp_zero up d2.1 d2.2] at hr; subst hr; clear i1 i2 z1 z2 d1 d2 q1; have xXR := XR.cell; have zXR0 := XR.frozen; have xX3 := X3.cell; have xX4 := X4.cell; go_wp2; clear xXR zXR0 xX3 xX4; have SX := StN.mk4 XR (.int .i64 1) (.bool s2) (.int .u64 M2) (.int .i64 E2)
      exact bodyPost_ret (by simp [results, Tryz.results65, go_sem, SX.box.cell]) rfl ⟨_, _, _, _, rfl, q2, (SX.below HB.out (by omega))⟩
  · rcases kk2 with rfl | rfl | rfl
    · rw [addp_ft up i1 i2] at hr; subst hr; clear i1 i2 z1 z2 d1 d2 q1; have xXR := XR.cell; have zXR0 := XR.frozen; have xX3 := X3.cell; have xX4 := X4.cell; go_wp2; clear xXR zXR0 xX3 xX4; have SX := StN.mk4 XR (.int .i64 2) (.bool s2) (.int .u64 M2) (.int .i64 E2); exact bodyPost_ret (by simp [results, Tryz.results65, go_sem, SX.box.cell]) rfl ⟨_, _, _, _, rfl, q2, (SX.below HB.out (by omega))⟩
    · rw [z2.1 rfl, addp_zero up d1.1 d1.2] at hr; subst hr; clear i1 i2 z1 z2 d1 d2 q2; have xXR := XR.cell; have zXR0 := XR.frozen; have xX3 := X3.cell; have xX4 := X4.cell; go_wp2; clear xXR zXR0 xX3 xX4; have SX := StN.mk4 XR (.int .i64 1) (.bool s1) (.int .u64 M1) (.int .i64 E1); exact bodyPost_ret (by simp [results, Tryz.results65, go_sem, SX.box.cell]) rfl ⟨_, _, _, _, rfl, q1, (SX.below HB.out (by omega))⟩
    · have HRR := Lib.hid hr; clear i1 i2 z1 z2 d1 d2 hr; have xX3 := X3.cell; have xX4 := X4.cell
      go_wp2_with fail
      refine (aSum2 hT q1 q2).mono ?_; rintro ee w5 ⟨s3, H3, L3, x3, rfl, p3, B⟩; clear xX3 xX4; replace X3 := X3.below B; replace X4 := X4.below B; replace XR := XR.below B; replace hT := hT.below B; replace HB := Hqb HB B; clear B
      go_wp2_with fail
      refine (aRound p3 HRR.out).mono ?_; rintro ee w6 ⟨K4, s4, M4, E4, rfl, q4, B⟩; replace X3 := X3.below B; replace X4 := X4.below B; replace XR := XR.below B; replace HB := Hqb HB B; clear B; have xXR := XR.cell; have zXR0 := XR.frozen; go_wp2; clear xXR zXR0; have SX := StN.mk4 XR (.int .i64 K4) (.bool s4) (.int .u64 M4) (.int .i64 E4); exact bodyPost_ret (by simp [results, Tryz.results65, go_sem, SX.box.cell]) rfl ⟨_, _, _, _, rfl, q4, (SX.below HB.out (by omega))⟩
theorem aMul {w : World} {D D' M M' E E' : Int} {s s' : Bool} {up : Bool} {x y r : Int} (hM : M < 18446744073709551616) (hM' : M' < 18446744073709551616) (hx : rk D s M E = x) (hy : rk D' s' M' E' = y) (hr : mulp up x y = r) : Calls Tryz.prog 75 #[.agg #[.int .i64 D, .bool s, .int .u64 M, .int .i64 E], .agg #[.int .i64 D', .bool s', .int .u64 M', .int .i64 E'], .bool up] w (PN w r) := by
  obtain ⟨K1, s1, M1, E1, q1⟩ := fq_tk (D := D) (s := s) (M := M) (E := E) hM; obtain ⟨K2, s2, M2, E2, q2⟩ := fq_tk (D := D') (s := s') (M := M') (E := E') hM'; rw [hx] at q1; rw [hy] at q2; have HX := Lib.hid hx; have HY := Lib.hid hy; clear hx hy
  go_enter Tryz.func75, Tryz.ntmps75
  go_upto_region 1 with (fail)
  generalize hW1 : ((w.alloc _).alloc _).alloc _ = w1 at *; obtain ⟨X3, X4, XR, HB⟩ := Bo.en3 hW1; clear hW1; refine Jo.rk [0, 1, 2, 3] [some 7, some 8, some 9, some 10, none, none] [[], [0], [], [2], [], []] 6 2 [Jo.q4 D s M E, Jo.q4 K1 s1 M1 E1, Jo.q4 D' s' M' E', Jo.q4 K2 s2 M2 E2, Jo.Fact.any, Jo.Fact.any] (by kernel_rfl) (by kernel_rfl) (by decide) rfl ?_ ?_
  · refine Jo.jm rfl ?_ ?_; rotate_left
    refine Jo.jm rfl ?_ ?_
    · rintro wj hJ _ rfl K hK; simp only [Jo.z] at hK ⊢; go_simp; refine (aTaken hM q1 HX.out).mono ?_; rintro ee wk ⟨rfl, B⟩; exact hK.out _ _ rfl B
    refine Jo.jm rfl ?_ ?_; rotate_left
    refine Jo.jm rfl ?_ ?_
    · rintro wj hJ _ rfl K hK; simp only [Jo.z] at hK ⊢; go_simp; refine (aTaken hM' q2 HY.out).mono ?_; rintro ee wk ⟨rfl, B⟩; exact hK.out _ _ rfl B
    exact Jo.Steps.nil
    all_goals (rintro wj hJ; (repeat rintro _ rfl); intro K hK; simp only [Jo.z] at hK ⊢; have xX3 := (X3.below hJ).cell; have xX4 := (X4.below hJ).cell; go_simp; exact hK.out _ _ rfl (br _ _))
  rintro w2 hJ _ rfl _ rfl _ rfl _ rfl -; simp only [Jo.z]; replace X3 := X3.below hJ; replace X4 := X4.below hJ; replace XR := XR.below hJ; replace HB := Hqb HB hJ; have xX3 := X3.cell; have zX30 := X3.frozen
  refine Jo.jnext (i := 4) (o := ⟨none, _, _, _, _, _⟩) (by kernel_rfl) rfl (fun K hK => ?_)
  go_simp; refine hK.out _ _ ?_; clear hK K xX3 zX30; generalize hS : (((w2.setCell _ _).setCell _ _).setCell _ _).setCell _ _ = w3 at *; have SX := StN.of4 X3 hS; replace X4 := X4.stn SX (by omega); replace XR := XR.stn SX (by omega); replace HB := Hqs HB SX (by omega); replace X3 := SX.box; clear SX hS; have xX4 := X4.cell; have zX40 := X4.frozen
  refine Jo.jnext (i := 5) (o := ⟨none, _, _, _, _, _⟩) (by kernel_rfl) rfl (fun K hK => ?_)
  go_simp; refine hK.out _ _ ?_; clear hK K xX4 zX40; generalize hS : (((w3.setCell _ _).setCell _ _).setCell _ _).setCell _ _ = w4 at *; have SX := StN.of4 X4 hS; replace X3 := X3.stn SX (by omega); replace XR := XR.stn SX (by omega); replace HB := Hqs HB SX (by omega); replace X4 := SX.box; clear SX hS; refine Jo.jdone (by kernel_rfl) ?_; clear HX HY hM hM'; have i1 := fq_inf q1
  have i2 := fq_inf q2; have z1 := q1.zero_iff; have z2 := q2.zero_iff; have d1 := q1.bd; have d2 := q2.bd
  have kk1 : K1 = 2 ∨ K1 = 0 ∨ K1 = 1 := by rcases q1.cases with ⟨h, _⟩ | ⟨h, _⟩ | ⟨h, _⟩ <;> omega
  have kk2 : K2 = 2 ∨ K2 = 0 ∨ K2 = 1 := by rcases q2.cases with ⟨h, _⟩ | ⟨h, _⟩ | ⟨h, _⟩ <;> omega
  rcases kk1 with rfl | rfl | rfl
  · rcases kk2 with rfl | rfl | rfl
    · have hnz : ¬ (x = 0 ∨ y = 0) := fun c => c.elim (fun c => absurd (z1.2 c) (by decide)) (fun c => absurd (z2.2 c) (by decide))
      have sx : decide (x < 0) = s1 := by
        rcases q1.three with ⟨a, _⟩ | ⟨_, rfl, b⟩ | ⟨_, rfl, b⟩
        · exact absurd a (by decide)
        · exact decide_eq_false (by omega)
        · exact decide_eq_true b
      have sy : decide (y < 0) = s2 := by
        rcases q2.three with ⟨a, _⟩ | ⟨_, rfl, b⟩ | ⟨_, rfl, b⟩
        · exact absurd a (by decide)
        · exact decide_eq_false (by omega)
        · exact decide_eq_true b
      rw [mulp_inf up hnz (.inl i1), sx, sy] at hr; have HRR := Lib.hid hr; clear i1 i2 z1 z2 d1 d2 q1 q2 hr sx sy hnz; have xX3 := X3.cell; have xX4 := X4.cell
      go_wp2_with fail
      refine (nInf (s := s1 != s2) HRR.out).mono ?_; rintro ee w5 ⟨K3, s3, M3, E3, rfl, q3, B⟩; clear xX3 xX4; replace X3 := X3.below B; replace X4 := X4.below B; replace XR := XR.below B; replace HB := Hqb HB B; clear B; have xXR := XR.cell; have zXR0 := XR.frozen; go_wp2; clear xXR zXR0; have SX := StN.mk4 XR (.int .i64 K3) (.bool s3) (.int .u64 M3) (.int .i64 E3)
      exact bodyPost_ret (by simp [results, Tryz.results75, go_sem, SX.box.cell]) rfl ⟨_, _, _, _, rfl, q3, (SX.below HB.out (by omega))⟩
    · rw [mulp_zero up (.inr (z2.1 rfl))] at hr; subst hr; clear i1 i2 z1 z2 d1 d2 q1 q2; have xXR := XR.cell; have zXR0 := XR.frozen; have xX3 := X3.cell; have xX4 := X4.cell; go_wp2; clear xXR zXR0 xX3 xX4; have SX := StN.mk4 XR (.int .i64 0) (.bool false) (.int .u64 0) (.int .i64 0); exact bodyPost_ret (by simp [results, Tryz.results75, go_sem, SX.box.cell]) rfl ⟨_, _, _, _, rfl, Fq.nought, (SX.below HB.out (by omega))⟩
    · have hnz : ¬ (x = 0 ∨ y = 0) := fun c => c.elim (fun c => absurd (z1.2 c) (by decide)) (fun c => absurd (z2.2 c) (by decide))
      have sx : decide (x < 0) = s1 := by
        rcases q1.three with ⟨a, _⟩ | ⟨_, rfl, b⟩ | ⟨_, rfl, b⟩
        · exact absurd a (by decide)
        · exact decide_eq_false (by omega)
        · exact decide_eq_true b
      have sy : decide (y < 0) = s2 := by
        rcases q2.three with ⟨a, _⟩ | ⟨_, rfl, b⟩ | ⟨_, rfl, b⟩
        · exact absurd a (by decide)
        · exact decide_eq_false (by omega)
        · exact decide_eq_true b
      rw [mulp_inf up hnz (.inl i1), sx, sy] at hr; have HRR := Lib.hid hr; clear i1 i2 z1 z2 d1 d2 q1 q2 hr sx sy hnz; have xX3 := X3.cell; have xX4 := X4.cell
      go_wp2_with fail
      refine (nInf (s := s1 != s2) HRR.out).mono ?_; rintro ee w5 ⟨K3, s3, M3, E3, rfl, q3, B⟩; clear xX3 xX4; replace X3 := X3.below B; replace X4 := X4.below B; replace XR := XR.below B; replace HB := Hqb HB B; clear B; have xXR := XR.cell; have zXR0 := XR.frozen; go_wp2; clear xXR zXR0; have SX := StN.mk4 XR (.int .i64 K3) (.bool s3) (.int .u64 M3) (.int .i64 E3)
      exact bodyPost_ret (by simp [results, Tryz.results75, go_sem, SX.box.cell]) rfl ⟨_, _, _, _, rfl, q3, (SX.below HB.out (by omega))⟩
  · rcases kk2 with rfl | rfl | rfl
    · rw [mulp_zero up (.inl (z1.1 rfl))] at hr; subst hr; clear i1 i2 z1 z2 d1 d2 q1 q2; have xXR := XR.cell; have zXR0 := XR.frozen; have xX3 := X3.cell; have xX4 := X4.cell; go_wp2; clear xXR zXR0 xX3 xX4; have SX := StN.mk4 XR (.int .i64 0) (.bool false) (.int .u64 0) (.int .i64 0); exact bodyPost_ret (by simp [results, Tryz.results75, go_sem, SX.box.cell]) rfl ⟨_, _, _, _, rfl, Fq.nought, (SX.below HB.out (by omega))⟩
    · rw [mulp_zero up (.inl (z1.1 rfl))] at hr; subst hr; clear i1 i2 z1 z2 d1 d2 q1 q2; have xXR := XR.cell; have zXR0 := XR.frozen; have xX3 := X3.cell; have xX4 := X4.cell; go_wp2; clear xXR zXR0 xX3 xX4; have SX := StN.mk4 XR (.int .i64 0) (.bool false) (.int .u64 0) (.int .i64 0); exact bodyPost_ret (by simp [results, Tryz.results75, go_sem, SX.box.cell]) rfl ⟨_, _, _, _, rfl, Fq.nought, (SX.below HB.out (by omega))⟩
    · rw [mulp_zero up (.inl (z1.1 rfl))] at hr; subst hr; clear i1 i2 z1 z2 d1 d2 q1 q2; have xXR := XR.cell; have zXR0 := XR.frozen; have xX3 := X3.cell; have xX4 := X4.cell; go_wp2; clear xXR zXR0 xX3 xX4; have SX := StN.mk4 XR (.int .i64 0) (.bool false) (.int .u64 0) (.int .i64 0); exact bodyPost_ret (by simp [results, Tryz.results75, go_sem, SX.box.cell]) rfl ⟨_, _, _, _, rfl, Fq.nought, (SX.below HB.out (by omega))⟩
  · rcases kk2 with rfl | rfl | rfl
    · have hnz : ¬ (x = 0 ∨ y = 0) := fun c => c.elim (fun c => absurd (z1.2 c) (by decide)) (fun c => absurd (z2.2 c) (by decide))
      have sx : decide (x < 0) = s1 := by
        rcases q1.three with ⟨a, _⟩ | ⟨_, rfl, b⟩ | ⟨_, rfl, b⟩
        · exact absurd a (by decide)
        · exact decide_eq_false (by omega)
        · exact decide_eq_true b
      have sy : decide (y < 0) = s2 := by
        rcases q2.three with ⟨a, _⟩ | ⟨_, rfl, b⟩ | ⟨_, rfl, b⟩
        · exact absurd a (by decide)
        · exact decide_eq_false (by omega)
        · exact decide_eq_true b
      rw [mulp_inf up hnz (.inr i2), sx, sy] at hr; have HRR := Lib.hid hr; clear i1 i2 z1 z2 d1 d2 q1 q2 hr sx sy hnz; have xX3 := X3.cell; have xX4 := X4.cell
      go_wp2_with fail
      refine (nInf (s := s1 != s2) HRR.out).mono ?_; rintro ee w5 ⟨K3, s3, M3, E3, rfl, q3, B⟩; clear xX3 xX4; replace X3 := X3.below B; replace X4 := X4.below B; replace XR := XR.below B; replace HB := Hqb HB B; clear B; have xXR := XR.cell; have zXR0 := XR.frozen; go_wp2; clear xXR zXR0; have SX := StN.mk4 XR (.int .i64 K3) (.bool s3) (.int .u64 M3) (.int .i64 E3)
      exact bodyPost_ret (by simp [results, Tryz.results75, go_sem, SX.box.cell]) rfl ⟨_, _, _, _, rfl, q3, (SX.below HB.out (by omega))⟩
    · rw [mulp_zero up (.inr (z2.1 rfl))] at hr; subst hr; clear i1 i2 z1 z2 d1 d2 q1 q2; have xXR := XR.cell; have zXR0 := XR.frozen; have xX3 := X3.cell; have xX4 := X4.cell; go_wp2; clear xXR zXR0 xX3 xX4; have SX := StN.mk4 XR (.int .i64 0) (.bool false) (.int .u64 0) (.int .i64 0); exact bodyPost_ret (by simp [results, Tryz.results75, go_sem, SX.box.cell]) rfl ⟨_, _, _, _, rfl, Fq.nought, (SX.below HB.out (by omega))⟩
    · have HRR := Lib.hid hr; clear i1 i2 z1 z2 d1 d2 hr; have xX3 := X3.cell; have xX4 := X4.cell
      go_wp2_with fail
      refine (aProduct q1 q2).mono ?_; rintro ee w5 ⟨s3, H3, L3, x3, rfl, p3, B⟩; clear xX3 xX4; replace X3 := X3.below B; replace X4 := X4.below B; replace XR := XR.below B; replace HB := Hqb HB B; clear B
      go_wp2_with fail
      refine (aRound p3 HRR.out).mono ?_; rintro ee w6 ⟨K4, s4, M4, E4, rfl, q4, B⟩; replace X3 := X3.below B; replace X4 := X4.below B; replace XR := XR.below B; replace HB := Hqb HB B; clear B; have xXR := XR.cell; have zXR0 := XR.frozen; go_wp2; clear xXR zXR0; have SX := StN.mk4 XR (.int .i64 K4) (.bool s4) (.int .u64 M4) (.int .i64 E4); exact bodyPost_ret (by simp [results, Tryz.results75, go_sem, SX.box.cell]) rfl ⟨_, _, _, _, rfl, q4, (SX.below HB.out (by omega))⟩
theorem aSub {w : World} {D D' M M' E E' : Int} {s s' : Bool} {up : Bool} {x y r : Int} (hT : Tb w) (hM : M < 18446744073709551616) (hM' : M' < 18446744073709551616) (hx : rk D s M E = x) (hy : -rk D' s' M' E' = y) (hr : addp up x y = r) : Calls Tryz.prog 42 #[.agg #[.int .i64 D, .bool s, .int .u64 M, .int .i64 E], .agg #[.int .i64 D', .bool s', .int .u64 M', .int .i64 E'], .bool up] w (PN w r) := by
  have HX := Lib.hid hx; have HY := Lib.hid hy; have HR := Lib.hid hr; clear hx hy hr
  go_enter Tryz.func42, Tryz.ntmps42
  go_upto_region 1 with (fail)
  generalize hW1 : ((w.alloc _).alloc _).alloc _ = w1 at *; obtain ⟨X3, X4, XR, HB⟩ := Bo.en3 hW1; replace hT := hT.below HB.out; clear hW1; refine Jo.rk [0, 1, 2, 3, 4] [some 7, some 8, some 9, some 10, some 11, none] [[], [], [1], [], [0, 2, 3], []] 6 1 [Jo.q4 D s M E, Jo.q4 D' s' M' E', Jo.Fact.num y, Jo.qb up, Jo.Fact.num r, Jo.Fact.any] (by kernel_rfl) (by kernel_rfl) (by decide) rfl ?_ ?_
  · iterate 2 (refine Jo.jm rfl ?_ ?_; rotate_left)
    refine Jo.jm rfl ?_ ?_
    · rintro wj hJ _ rfl K hK; simp only [Jo.z] at hK ⊢; go_simp; refine (nNeg hM' HY.out).mono ?_; rintro ee wk ⟨K4, s4, M4, E4, rfl, q4, B⟩; exact hK.out _ _ ⟨K4, s4, M4, E4, rfl, q4⟩ B
    refine Jo.jm rfl ?_ ?_; rotate_left
    refine Jo.jm rfl ?_ ?_
    · rintro wj hJ _ rfl _ ⟨K4, s4, M4, E4, rfl, q4⟩ _ rfl K hK; simp only [Jo.z] at hK ⊢; go_simp; refine (aAdd (hT.below hJ) hM q4.top HX.out q4.rk HR.out).mono ?_; rintro ee wk ⟨K5, s5, M5, E5, rfl, q5, B⟩; exact hK.out _ _ ⟨K5, s5, M5, E5, rfl, q5⟩ B
    exact Jo.Steps.nil
    all_goals (rintro wj hJ; (repeat rintro _ rfl); intro K hK; simp only [Jo.z] at hK ⊢; have xX3 := (X3.below hJ).cell; have xX4 := (X4.below hJ).cell; go_simp; exact hK.out _ _ rfl (br _ _))
  rintro w2 hJ _ rfl _ rfl _ ⟨K4, s4, M4, E4, rfl, q4⟩ _ rfl _ ⟨K5, s5, M5, E5, rfl, q5⟩ -; simp only [Jo.z]; replace X3 := X3.below hJ; replace X4 := X4.below hJ; replace XR := XR.below hJ; replace hT := hT.below hJ; replace HB := Hqb HB hJ; have xXR := XR.cell; have zXR0 := XR.frozen
  refine Jo.jnext (i := 5) (o := ⟨none, _, _, _, _, _⟩) (by kernel_rfl) rfl (fun K hK => ?_)
  go_simp; refine hK.out _ _ ?_; clear hK K xXR zXR0; have SX := StN.mk4 XR (.int .i64 K5) (.bool s5) (.int .u64 M5) (.int .i64 E5); refine Jo.jdone (by kernel_rfl) ?_; go_wp2; exact bodyPost_ret (by simp [results, Tryz.results42, go_sem, SX.box.cell]) rfl ⟨_, _, _, _, rfl, q5, (SX.below HB.out (by omega))⟩
theorem fq_hlf : Fq 1 false 9223372036854775808 (-64) hlf := Fq.fin (by decide) (by decide) (by decide) (by decide) (by decide)
theorem aHalf {w : World} {D M E : Int} {s : Bool} {up : Bool} {x r : Int} (hM : M < 18446744073709551616) (hx : rk D s M E = x) (hr : mulp up x hlf = r) : Calls Tryz.prog 57 #[.agg #[.int .i64 D, .bool s, .int .u64 M, .int .i64 E], .bool up] w (PN w r) := by
  have HX := Lib.hid hx; have HR := Lib.hid hr; clear hx hr
  go_enter Tryz.func57, Tryz.ntmps57
  go_upto_region 1 with (fail)
  generalize hW1 : (w.alloc _).alloc _ = w1 at *; obtain ⟨X1, XR, HB⟩ := Bo.en2 hW1; clear hW1
  go_wp2_with fail
  refine (nOf _ (by decide) (by decide) rfl).mono ?_; rintro ee w2 ⟨K1, s1, M1, E1, rfl, q1, B⟩; replace X1 := X1.below B; replace XR := XR.below B; replace HB := Hqb HB B; clear B; obtain ⟨rfl, rfl, rfl, rfl⟩ := q1.uniq fq_one; clear q1
  go_upto_region 2 with (fail)
  have lX5 := Nat.le_refl (World.heap w2).size; have nX5X1 := X1.lt; have nX5XR := XR.lt; generalize hWn : w2.alloc _ = w3 at *; obtain ⟨X5, BW⟩ := Bo.nw hWn; clear hWn; replace X1 := X1.below BW; replace XR := XR.below BW; replace HB := Hqb HB BW; clear BW; clear lX5; have xX5 := X5.cell; have zX50 := X5.frozen
  go_upto_region 3 with (fail)
  clear xX5 zX50
  have SX : StN w3 (World.setCell w3 ⟨w2.heap.size, 3, none⟩ (.int .i64 (-64))) _ _ #[.int .i64 1, .bool false, .int .u64 9223372036854775808, .int .i64 (-64)] _ := StN.at4 X5 3 (.int .i64 (-64))
  replace X1 := X1.stn SX (by omega); replace XR := XR.stn SX (by omega); replace HB := Hqs HB SX (by omega); replace X5 := SX.box; clear SX; generalize World.setCell w3 ⟨w2.heap.size, 3, none⟩ (.int .i64 (-64)) = w4 at *; have xX1 := X1.cell; have xX5 := X5.cell
  go_wp2_with fail
  refine (aMul hM fq_hlf.top HX.out fq_hlf.rk HR.out).mono ?_; rintro ee w5 ⟨K2, s2, M2, E2, rfl, q2, B⟩; clear xX1 xX5; replace X1 := X1.below B; replace XR := XR.below B; replace X5 := X5.below B; replace HB := Hqb HB B; clear B; have xXR := XR.cell; have zXR0 := XR.frozen; go_wp2; clear xXR zXR0; have SX := StN.mk4 XR (.int .i64 K2) (.bool s2) (.int .u64 M2) (.int .i64 E2)
  exact bodyPost_ret (by simp [results, Tryz.results57, go_sem, SX.box.cell]) rfl ⟨_, _, _, _, rfl, q2, (SX.below HB.out (by omega))⟩
end Go.Proofs.YtpnmphofengoeaaGreatDoor

namespace Go.Proofs.YtpnmphofengoeaaGreatDoor
open Go.RowKit
set_option linter.unusedVariables false
set_option linter.unusedSimpArgs false
set_option maxRecDepth 100000

def smA (up : Bool) (l : List Int) : Int := l.foldl (addp up) 0
theorem smA_take (up : Bool) {l : List Int} {k : Nat} (h : k < l.length) : smA up (l.take (k + 1)) = addp up (smA up (l.take k)) (l.getD k 0) := by
  unfold smA
  rw [List.take_succ_eq_append_getElem h, List.foldl_append]
  simp [List.getD_eq_getElem?_getD, h]
set_option maxHeartbeats 8000000 in
theorem aSum {w : World} {A : Option Addr} {n c : Nat} {l : List Int} {up : Bool} {r : Int} (hT : Tb w) (h : Nl w A n c l) (hr : smA up l = r) : Calls Tryz.prog 58 #[.bool up, .slice A n c] w (PN w r) := by
  have HR := Lib.hid hr; have HLn := Lib.hid h.1; have hcap := h.2.1; have hbig := h.2.2.1; have hD0 := h; have hT0 := hT; clear hr
  go_enter Tryz.func58, Tryz.ntmps58
  go_upto_region 1 with (fail)
  generalize hW1 : w.alloc _ = w1 at *; obtain ⟨XR, HB⟩ := Bo.en1 hW1; replace h := h.below HB.out; replace hT := hT.below HB.out; clear hW1
  go_upto_region 2 with (fail)
  have hg3 := XR.lt; have lX3 := Nat.le_refl (World.heap w1).size; have nX3XR := XR.lt; generalize hWn : w1.alloc _ = w3 at *; obtain ⟨X3, BW⟩ := Bo.nw hWn; clear hWn; replace XR := XR.below BW; replace h := h.below BW; replace hT := hT.below BW; replace HB := Hqb HB BW; clear BW
  go_wp2_with fail
  generalize w1.heap.size = g3 at *; clear h hT w1
  go_loopw [11] (fun i wr => ∃ k : Nat, k ≤ n ∧ i = .int .i64 k ∧ NInv w g3 (smA up (l.take k)) wr) (fun i _ => n - (intOf i).toNat)
  case atStart => exact ⟨0, Nat.zero_le _, rfl, _, _, _, _, XR, X3, Fq.nought, HB.out⟩
  clear HB XR X3 lX3
  case round =>
    obtain ⟨k, hk, rfl, hI⟩ := hrel; obtain ⟨K1, s1, M1, E1, XR, X3, q1, hB⟩ := hI; have HB := Lib.hid hB; have h := hD0.below hB; have hT := hT0.below hB; clear hB
    by_cases hlt : k < n
    · obtain ⟨b, o, rfl, hcell⟩ := h.2.2.2 (by omega); obtain ⟨D, s, M, E, c0, c1, c2, c3, hM, hx⟩ := hcell k hlt; clear hcell h hD0
      have i1 : (k : Int) < n := by omega
      have i2 : (0 : Int) ≤ k := by omega
      have hst := smA_take up (l := l) (k := k) (by rw [HLn.out]; exact hlt); rw [← hx] at hst; generalize smA up (l.take k) = R at *; obtain ⟨x, hX⟩ : ∃ x, rk D s M E = x := ⟨_, rfl⟩; rw [hX] at hst; obtain ⟨r2, hr2⟩ : ∃ r2, addp up R x = r2 := ⟨_, rfl⟩; rw [hr2] at hst; have HX := Lib.hid hX; have HST := Lib.hid hst; have HAD := Lib.hid hr2; clear hst hX hx hr2
      go_upto_region 5 with (fail)
      have hgd := X3.lt; have lX5 := Nat.le_refl (World.heap wr).size; have nX5XR := XR.lt; have nX5X3 := X3.lt; generalize hWn : wr.alloc _ = w3 at *; obtain ⟨X5, BW⟩ := Bo.nw hWn; clear hWn; replace XR := XR.below BW; replace X3 := X3.below BW; replace hT := hT.below BW; replace HB := Hqb HB BW; clear BW; clear c0 c1 c2 c3 lX5; have xX3 := X3.cell; have xX5 := X5.cell
      go_wp2_with fail
      refine (aAdd hT q1.top hM q1.rk HX.out HAD.out).mono ?_; rintro ee w4 ⟨K2, s2, M2, E2, rfl, q2, B⟩; clear xX3 xX5; replace XR := XR.below B; replace X3 := X3.below B; replace X5 := X5.below B; replace hT := hT.below B; replace HB := Hqb HB B; clear B; have xX3 := X3.cell; have zX30 := X3.frozen
      go_upto_region 6 with (fail)
      clear xX3 zX30; generalize hS : (((w4.setCell _ _).setCell _ _).setCell _ _).setCell _ _ = w5 at *; have SX := StN.of4 X3 hS; replace XR := XR.stn SX (by omega); replace X5 := X5.stn SX (by omega); replace HB := Hqs HB SX (by omega); replace X3 := SX.box; clear SX hS; go_wp2
      go_roundw
      case rel =>
        refine ⟨k + 1, by omega, by go_num, K2, s2, M2, E2, XR, X3, ?_, HB.out⟩
        rw [HST.out]; exact q2
      case measure => simp [intOf]; omega
    · obtain rfl : k = n := by omega
      rw [List.take_of_length_le (by rw [HLn.out]; omega), HR.out] at q1; have xXR := XR.cell; have zXR0 := XR.frozen; have xX3 := X3.cell; go_wp2; clear xXR zXR0 xX3; have SX := StN.mk4 XR (.int .i64 K1) (.bool s1) (.int .u64 M1) (.int .i64 E1); exact bodyPost_ret (by simp [results, Tryz.results58, go_sem, SX.box.cell]) rfl ⟨_, _, _, _, rfl, q1, (SX.below HB.out (by omega))⟩
end Go.Proofs.YtpnmphofengoeaaGreatDoor

namespace Go.Proofs.YtpnmphofengoeaaGreatDoor
open Go.RowKit
set_option linter.unusedVariables false
set_option linter.unusedSimpArgs false
set_option maxRecDepth 100000

def fewq (D E : Int) : Bool := decide (D ≠ 1) || (decide (-1500 ≤ E) && decide (E ≤ 1500))
set_option maxHeartbeats 2000000 in
theorem aFew {w : World} {D M E : Int} {s : Bool} {r : Bool} (hr : fewq D E = r) : Calls Tryz.prog 33 #[.agg #[.int .i64 D, .bool s, .int .u64 M, .int .i64 E]] w (PB w r) := by
  unfold fewq at hr
  by_cases h1 : D ≠ 1
  · rw [show decide (D ≠ 1) = true from decide_eq_true h1, Bool.true_or] at hr
    subst hr
    have e1 : (D == 1) = false := by simpa using h1
    have e2 : (D = 1) = False := by simpa using h1
    clear h1
    go_enter Tryz.func33, Tryz.ntmps33
    go_upto_region 1 with (fail)
    generalize hW1 : w.alloc _ = w1 at *; obtain ⟨X1, HB⟩ := Bo.en1 hW1; clear hW1; have xX1 := X1.cell; go_wp2
    go_ret
    exact ⟨rfl, HB.out⟩
  · have h1 : D = 1 := by omega
    subst h1
    rw [show decide ((1 : Int) ≠ 1) = false by decide, Bool.false_or] at hr
    by_cases h2 : ¬ -1500 ≤ E
    · rw [decide_eq_false h2, Bool.false_and] at hr; subst hr
      go_enter Tryz.func33, Tryz.ntmps33
      go_upto_region 1 with (fail)
      generalize hW1 : w.alloc _ = w1 at *; obtain ⟨X1, HB⟩ := Bo.en1 hW1; clear hW1; have xX1 := X1.cell; go_wp2
      go_ret
      exact ⟨rfl, HB.out⟩
    · have h2 : -1500 ≤ E := by omega
      rw [decide_eq_true h2, Bool.true_and] at hr; subst hr
      go_enter Tryz.func33, Tryz.ntmps33
      go_upto_region 1 with (fail)
      generalize hW1 : w.alloc _ = w1 at *; obtain ⟨X1, HB⟩ := Bo.en1 hW1; clear hW1; have xX1 := X1.cell; go_wp2
      go_ret
      exact ⟨rfl, HB.out⟩
end Go.Proofs.YtpnmphofengoeaaGreatDoor

namespace Go.Proofs.YtpnmphofengoeaaGreatDoor
open Go.RowKit
set_option linter.unusedVariables false

def Fz (x : Int) (h : Nat) : Prop := infp x = true ∨ Fit h (ep x)
theorem Fz.zero (h : Nat) : Fz 0 h := .inr (by rw [ep_zero]; exact Fit.zero h)
theorem Fz.neg {x : Int} {h : Nat} (f : Fz x h) : Fz (-x) h := by
  rcases f with f | f
  · exact .inl (by rw [infp_neg]; exact f)
  · exact .inr (by rw [ep_neg]; exact f.neg)
theorem Fz.near {x y : Int} {h k : Nat} (f : Fz x h) (g : Fz y k) (hh : h + k ≤ 640000) : infp x = false → infp y = false → Near (ep x) (ep y) := fun hx hy => by
  rcases f with f | f
  · rw [hx] at f; cases f
  · rcases g with g | g
    · rw [hy] at g; cases g
    · exact f.near g hh
theorem few_fz {D : Int} {s : Bool} {M E : Int} (hM : M < 18446744073709551616) (hf : fewq D E = true) : Fz (rk D s M E) 1600 := by
  by_cases hm : MayQ D s M E
  · have q := rk_fq hM hm
    revert q
    generalize rk D s M E = x
    intro q
    rcases q.cases with ⟨_, _, _, _, h0⟩ | ⟨rfl, h1, h2, h3, h4, _⟩ | ⟨rfl, _⟩
    · subst h0; exact Fz.zero _
    · obtain ⟨_, hb, he⟩ := fq_fin q (by decide)
      have hb2 : -1500 ≤ E ∧ E ≤ 1500 := by
        unfold fewq at hf
        simpa using hf
      right
      rw [← he]
      unfold exq
      rw [if_pos hb]; obtain ⟨η, hη⟩ : ∃ η : Nat, η = 1600 := ⟨_, rfl⟩; rw [← hη]; refine (mk_fit (h := η) (by omega) (by omega) ?_).1; rw [sgi_abs s (by omega)]
      have : M.toNat < 2 ^ 64 := by omega
      have := Nat.mul_lt_mul_of_pos_right this (Nat.pow_pos (n := (E + (η : Int)).toNat) (show 0 < 2 by decide))
      rw [← Nat.pow_add] at this; exact Nat.lt_of_lt_of_le this (Nat.pow_le_pow_right (by decide) (by omega))
    · left
      rw [fq_inf q]
      rfl
  · rw [rk_not hm]; exact Fz.zero _
end Go.Proofs.YtpnmphofengoeaaGreatDoor

namespace Go.Proofs.YtpnmphofengoeaaGreatDoor
open Go.RowKit
set_option linter.unusedVariables false

theorem mid_some (a b : Int) : midI (some (a, b)) = if a = -19342822337206103650074625 ∧ b = 19342822337206103650074625 then 0 else if a = -19342822337206103650074625 then b else if b = 19342822337206103650074625 then a else clp (mulp false (addp false a b) hlf) a b := rfl
theorem meet_stuck : ∀ l : List Sp, l.foldl meetI none = none
  | [] => rfl
  | _ :: l => meet_stuck l
end Go.Proofs.YtpnmphofengoeaaGreatDoor

namespace Go.Proofs.YtpnmphofengoeaaGreatDoor
open Go.RowKit
set_option linter.unusedVariables false

def bxEmp (l : List Sp) : Bool := l.any fun x => decide (x = none)
def bxFair (l : List Sp) : List Sp := if bxEmp l = true then List.replicate l.length none else l
def bxMeet (a b : List Sp) : List Sp := if a.length = b.length then bxFair (List.zipWith meetI a b) else []
def bxArg (f : Nat → Int) : Nat → Nat
  | 0 => 0
  | k + 1 => if f (bxArg f k) < f (k + 1) then k + 1 else bxArg f k
def bxWid (l : List Sp) (k : Nat) : Int := widI (l.getD k none)
def bxWidest (l : List Sp) : Int := if bxEmp l = true ∨ l.length = 0 then -1 else (bxArg (bxWid l) (l.length - 1) : Int)
def bxLo (l : List Sp) (i : Nat) : List Sp := bxFair (l.set i (loI (l.getD i none)))
def bxHi (l : List Sp) (i : Nat) : List Sp := bxFair (l.set i (hiI (l.getD i none)))

theorem bxEmp_iff {l : List Sp} : bxEmp l = true ↔ none ∈ l := by
  simp [bxEmp]
theorem bxEmp_no {l : List Sp} : bxEmp l = false ↔ none ∉ l := by
  rw [← bxEmp_iff]
  simp
theorem bxEmp_app {l m : List Sp} : bxEmp (l ++ m) = (bxEmp l || bxEmp m) := by
  simp [bxEmp]
theorem bxFair_len (l : List Sp) : (bxFair l).length = l.length := by
  unfold bxFair
  split
  · exact List.length_replicate
  · rfl
theorem bxFair_t {l : List Sp} (h : bxEmp l = true) : bxFair l = List.replicate l.length none := if_pos h
theorem bxFair_f {l : List Sp} (h : bxEmp l = false) : bxFair l = l := if_neg (by rw [h]; exact Bool.false_ne_true)
theorem bxEmp_pos {l : List Sp} (h : bxEmp l = true) : 0 < l.length := by
  rw [bxEmp_iff] at h; exact List.length_pos_of_mem h
theorem getD_ok {l : List Sp} (h : ∀ y ∈ l, SpOk y) (k : Nat) : SpOk (l.getD k none) := by
  rw [List.getD_eq_getElem?_getD]
  rcases e : l[k]? with _ | x
  · exact trivial
  · exact h x (List.mem_of_getElem? e)
theorem bxLo_len (l : List Sp) (i : Nat) : (bxLo l i).length = l.length := by
  unfold bxLo
  rw [bxFair_len, List.length_set]
theorem bxHi_len (l : List Sp) (i : Nat) : (bxHi l i).length = l.length := by
  unfold bxHi
  rw [bxFair_len, List.length_set]
theorem getD_some {l : List Sp} {k : Nat} (h : bxEmp l = false) (hk : k < l.length) : l.getD k none ≠ none := by
  rw [bxEmp_no] at h; rw [List.getD_eq_getElem?_getD, List.getElem?_eq_getElem hk]
  exact fun c => h (c ▸ List.getElem_mem hk)
/-! ### the widest place -/
theorem bxArg_le (f : Nat → Int) : ∀ k, bxArg f k ≤ k
  | 0 => Nat.le_refl _
  | k + 1 => by
    show (if f (bxArg f k) < f (k + 1) then k + 1 else bxArg f k) ≤ k + 1
    have := bxArg_le f k
    split <;> omega
theorem bxArg_succ (f : Nat → Int) (k : Nat) : bxArg f (k + 1) = if f (bxArg f k) < f (k + 1) then k + 1 else bxArg f k := rfl
theorem bxWidest_neg {l : List Sp} (h : bxEmp l = true ∨ l.length = 0) : bxWidest l = -1 := if_pos h
theorem bxWidest_pos {l : List Sp} (h1 : bxEmp l = false) (h2 : 0 < l.length) : bxWidest l = (bxArg (bxWid l) (l.length - 1) : Int) ∧ bxArg (bxWid l) (l.length - 1) < l.length := by
  refine ⟨if_neg (fun c => ?_), ?_⟩
  · rcases c with c | c
    · rw [h1] at c
      cases c
    · omega
  · have := bxArg_le (bxWid l) (l.length - 1)
    omega
theorem wid_nn {x : Sp} (hx : SpOk x) : 0 ≤ widI x ∧ -19342822337206103650074625 ≤ widI x ∧ widI x ≤ 19342822337206103650074625 := by
  rcases x with _ | ⟨a, b⟩
  · exact ⟨Int.le_refl _, by decide, by decide⟩
  · obtain ⟨h1, h2, h3, h4, h5⟩ := hx; have b1 := addp_bd (x := b) (y := -a) true (by omega) (by omega) (by omega) (by omega); refine ⟨?_, b1⟩
    show 0 ≤ addp true b (-a)
    rcases Int.lt_or_le 0 a with ha | ha
    · have := addp_mono (x := a) (y := b) (z := -a) true (by omega) (by omega) (by omega) (by omega) (by omega) (by omega) h2
      rw [addp_self true (by omega) (by omega)] at this; exact this
    · rcases Int.lt_or_le b 0 with hb | hb
      · have := addp_mono (x := -b) (y := -a) (z := b) true (by omega) (by omega) (by omega) (by omega) (by omega) (by omega) (by omega)
        rw [addp_comm (x := -b), addp_self true (by omega) (by omega), addp_comm (x := -a)] at this; exact this
      · have := addp_mono (x := 0) (y := b) (z := -a) true (by omega) (by omega) (by omega) (by omega) (by omega) (by omega) (by omega)
        rw [addp_comm (x := 0), addp_zero true (by omega) (by omega)] at this
        omega
end Go.Proofs.YtpnmphofengoeaaGreatDoor

namespace Go.Proofs.YtpnmphofengoeaaGreatDoor
open Go.RowKit
set_option linter.unusedVariables false

theorem StN.trans {w w' w'' : World} {g : Nat} {a b c : Array Value} {T : TypeId} (h : StN w w' g a b T) (k : StN w' w'' g b c T) : StN w w'' g a c T :=
  ⟨h.1, k.2.1, fun j hj => (k.2.2.1 j hj).trans (h.2.2.1 j hj), fun B x hB hb => k.2.2.2 B x hB (h.2.2.2 B x hB hb)⟩
theorem StN.mk9 {w : World} {g : Nat} {T : TypeId} {a0 a1 a2 a3 a4 a5 a6 a7 a8 : Value} (X : Bo w g #[a0, a1, a2, a3, a4, a5, a6, a7, a8] T) (v0 v1 v2 v3 v4 v5 v6 v7 v8 : Value) :
    StN w (((((((((w.setCell ⟨g, 0, none⟩ v0).setCell ⟨g, 1, none⟩ v1).setCell ⟨g, 2, none⟩ v2).setCell ⟨g, 3, none⟩ v3).setCell ⟨g, 4, none⟩ v4).setCell ⟨g, 5, none⟩ v5).setCell ⟨g, 6, none⟩ v6).setCell ⟨g, 7, none⟩ v7).setCell ⟨g, 8, none⟩ v8) g #[a0, a1, a2, a3, a4, a5, a6, a7, a8] #[v0, v1, v2, v3, v4, v5, v6, v7, v8] T := by
  have t0 : StN w (w.setCell ⟨g, 0, none⟩ v0) g #[a0, a1, a2, a3, a4, a5, a6, a7, a8] #[v0, a1, a2, a3, a4, a5, a6, a7, a8] T := StN.at4 X 0 v0
  have s0 := t0
  have t1 : StN (w.setCell ⟨g, 0, none⟩ v0) ((w.setCell ⟨g, 0, none⟩ v0).setCell ⟨g, 1, none⟩ v1) g #[v0, a1, a2, a3, a4, a5, a6, a7, a8] #[v0, v1, a2, a3, a4, a5, a6, a7, a8] T := StN.at4 s0.box 1 v1
  have s1 := s0.trans t1
  have t2 : StN ((w.setCell ⟨g, 0, none⟩ v0).setCell ⟨g, 1, none⟩ v1) (((w.setCell ⟨g, 0, none⟩ v0).setCell ⟨g, 1, none⟩ v1).setCell ⟨g, 2, none⟩ v2) g #[v0, v1, a2, a3, a4, a5, a6, a7, a8] #[v0, v1, v2, a3, a4, a5, a6, a7, a8] T := StN.at4 s1.box 2 v2
  have s2 := s1.trans t2
  have t3 : StN (((w.setCell ⟨g, 0, none⟩ v0).setCell ⟨g, 1, none⟩ v1).setCell ⟨g, 2, none⟩ v2) ((((w.setCell ⟨g, 0, none⟩ v0).setCell ⟨g, 1, none⟩ v1).setCell ⟨g, 2, none⟩ v2).setCell ⟨g, 3, none⟩ v3) g #[v0, v1, v2, a3, a4, a5, a6, a7, a8] #[v0, v1, v2, v3, a4, a5, a6, a7, a8] T := StN.at4 s2.box 3 v3
  have s3 := s2.trans t3
  have t4 : StN ((((w.setCell ⟨g, 0, none⟩ v0).setCell ⟨g, 1, none⟩ v1).setCell ⟨g, 2, none⟩ v2).setCell ⟨g, 3, none⟩ v3) (((((w.setCell ⟨g, 0, none⟩ v0).setCell ⟨g, 1, none⟩ v1).setCell ⟨g, 2, none⟩ v2).setCell ⟨g, 3, none⟩ v3).setCell ⟨g, 4, none⟩ v4) g #[v0, v1, v2, v3, a4, a5, a6, a7, a8] #[v0, v1, v2, v3, v4, a5, a6, a7, a8] T := StN.at4 s3.box 4 v4
  have s4 := s3.trans t4
  have t5 : StN (((((w.setCell ⟨g, 0, none⟩ v0).setCell ⟨g, 1, none⟩ v1).setCell ⟨g, 2, none⟩ v2).setCell ⟨g, 3, none⟩ v3).setCell ⟨g, 4, none⟩ v4) ((((((w.setCell ⟨g, 0, none⟩ v0).setCell ⟨g, 1, none⟩ v1).setCell ⟨g, 2, none⟩ v2).setCell ⟨g, 3, none⟩ v3).setCell ⟨g, 4, none⟩ v4).setCell ⟨g, 5, none⟩ v5) g #[v0, v1, v2, v3, v4, a5, a6, a7, a8] #[v0, v1, v2, v3, v4, v5, a6, a7, a8] T := StN.at4 s4.box 5 v5
  have s5 := s4.trans t5
  have t6 : StN ((((((w.setCell ⟨g, 0, none⟩ v0).setCell ⟨g, 1, none⟩ v1).setCell ⟨g, 2, none⟩ v2).setCell ⟨g, 3, none⟩ v3).setCell ⟨g, 4, none⟩ v4).setCell ⟨g, 5, none⟩ v5) (((((((w.setCell ⟨g, 0, none⟩ v0).setCell ⟨g, 1, none⟩ v1).setCell ⟨g, 2, none⟩ v2).setCell ⟨g, 3, none⟩ v3).setCell ⟨g, 4, none⟩ v4).setCell ⟨g, 5, none⟩ v5).setCell ⟨g, 6, none⟩ v6) g #[v0, v1, v2, v3, v4, v5, a6, a7, a8] #[v0, v1, v2, v3, v4, v5, v6, a7, a8] T := StN.at4 s5.box 6 v6
  have s6 := s5.trans t6
  have t7 : StN (((((((w.setCell ⟨g, 0, none⟩ v0).setCell ⟨g, 1, none⟩ v1).setCell ⟨g, 2, none⟩ v2).setCell ⟨g, 3, none⟩ v3).setCell ⟨g, 4, none⟩ v4).setCell ⟨g, 5, none⟩ v5).setCell ⟨g, 6, none⟩ v6) ((((((((w.setCell ⟨g, 0, none⟩ v0).setCell ⟨g, 1, none⟩ v1).setCell ⟨g, 2, none⟩ v2).setCell ⟨g, 3, none⟩ v3).setCell ⟨g, 4, none⟩ v4).setCell ⟨g, 5, none⟩ v5).setCell ⟨g, 6, none⟩ v6).setCell ⟨g, 7, none⟩ v7) g #[v0, v1, v2, v3, v4, v5, v6, a7, a8] #[v0, v1, v2, v3, v4, v5, v6, v7, a8] T := StN.at4 s6.box 7 v7
  have s7 := s6.trans t7
  have t8 : StN ((((((((w.setCell ⟨g, 0, none⟩ v0).setCell ⟨g, 1, none⟩ v1).setCell ⟨g, 2, none⟩ v2).setCell ⟨g, 3, none⟩ v3).setCell ⟨g, 4, none⟩ v4).setCell ⟨g, 5, none⟩ v5).setCell ⟨g, 6, none⟩ v6).setCell ⟨g, 7, none⟩ v7) (((((((((w.setCell ⟨g, 0, none⟩ v0).setCell ⟨g, 1, none⟩ v1).setCell ⟨g, 2, none⟩ v2).setCell ⟨g, 3, none⟩ v3).setCell ⟨g, 4, none⟩ v4).setCell ⟨g, 5, none⟩ v5).setCell ⟨g, 6, none⟩ v6).setCell ⟨g, 7, none⟩ v7).setCell ⟨g, 8, none⟩ v8) g #[v0, v1, v2, v3, v4, v5, v6, v7, a8] #[v0, v1, v2, v3, v4, v5, v6, v7, v8] T := StN.at4 s7.box 8 v8
  have s8 := s7.trans t8; exact s8
def Ci (e : Bool) (K : Int) (s : Bool) (M E K' : Int) (s' : Bool) (M' E' : Int) : Sp → Prop
  | none => e = true ∧ Fq K s M E 0 ∧ Fq K' s' M' E' 0
  | some (a, b) => e = false ∧ Fq K s M E a ∧ Fq K' s' M' E' b ∧ a ≤ b ∧ a < 19342822337206103650074625 ∧ -19342822337206103650074625 < b
section
variable {e e2 : Bool} {K M E K' M' E' K2 M2 E2 K2' M2' E2' : Int} {s s' s2 s2' : Bool} {x y : Sp}
theorem Ci.top (h : Ci e K s M E K' s' M' E' x) : M < 18446744073709551616 ∧ M' < 18446744073709551616 := by
  rcases x with _ | ⟨a, b⟩
  · exact ⟨h.2.1.top, h.2.2.top⟩
  · exact ⟨h.2.1.top, h.2.2.1.top⟩
theorem Ci.empty (h : Ci e K s M E K' s' M' E' x) : e = true ↔ x = none := by
  rcases x with _ | ⟨a, b⟩
  · exact ⟨fun _ => rfl, fun _ => h.1⟩
  · rw [h.1]
    exact ⟨fun c => (by cases c), fun c => (by cases c)⟩
theorem Ci.uniq (h : Ci e K s M E K' s' M' E' x) (k : Ci e2 K2 s2 M2 E2 K2' s2' M2' E2' x) : e = e2 ∧ K = K2 ∧ s = s2 ∧ M = M2 ∧ E = E2 ∧ K' = K2' ∧ s' = s2' ∧ M' = M2' ∧ E' = E2' := by
  rcases x with _ | ⟨a, b⟩
  · obtain ⟨h1, q1, q2⟩ := h; obtain ⟨k1, p1, p2⟩ := k; obtain ⟨c1, c2, c3, c4⟩ := q1.uniq p1; obtain ⟨d1, d2, d3, d4⟩ := q2.uniq p2; exact ⟨h1.trans k1.symm, c1, c2, c3, c4, d1, d2, d3, d4⟩
  · obtain ⟨h1, q1, q2, _⟩ := h; obtain ⟨k1, p1, p2, _⟩ := k; obtain ⟨c1, c2, c3, c4⟩ := q1.uniq p1; obtain ⟨d1, d2, d3, d4⟩ := q2.uniq p2; exact ⟨h1.trans k1.symm, c1, c2, c3, c4, d1, d2, d3, d4⟩
end
theorem Ci.none : Ci true 0 false 0 0 0 false 0 0 none := ⟨rfl, Fq.nought, Fq.nought⟩
def rkI (e : Bool) (K : Int) (s : Bool) (M E K' : Int) (s' : Bool) (M' E' : Int) : Sp := if e = true then none else if MayQ K s M E ∧ MayQ K' s' M' E' then mkI (rk K s M E) (rk K' s' M' E') else none
def mayI (e : Bool) (K : Int) (s : Bool) (M E K' : Int) (s' : Bool) (M' E' : Int) : Bool := if e = true then (decide (K = 0 ∧ s = false ∧ M = 0 ∧ E = 0) && decide (K' = 0 ∧ s' = false ∧ M' = 0 ∧ E' = 0)) else decide (rkI e K s M E K' s' M' E' ≠ none)
section
variable {e : Bool} {K M E K' M' E' : Int} {s s' : Bool} {x : Sp}
theorem rkI_t : rkI true K s M E K' s' M' E' = none := if_pos rfl
theorem rkI_f : rkI false K s M E K' s' M' E' = if MayQ K s M E ∧ MayQ K' s' M' E' then mkI (rk K s M E) (rk K' s' M' E') else none := if_neg ff
theorem rkI_ok (hM : M < 18446744073709551616) (hM' : M' < 18446744073709551616) : SpOk (rkI e K s M E K' s' M' E') := by
  cases e
  · rw [rkI_f]
    by_cases h : MayQ K s M E ∧ MayQ K' s' M' E'
    · rw [if_pos h]; exact mkI_ok (rk_fq hM h.1).bd.1 (rk_fq hM' h.2).bd.2
    · rw [if_neg h]; exact trivial
  · exact trivial
theorem mayI_ci (hM : M < 18446744073709551616) (hM' : M' < 18446744073709551616) (h : mayI e K s M E K' s' M' E' = true) : Ci e K s M E K' s' M' E' (rkI e K s M E K' s' M' E') := by
  unfold mayI at h
  cases e
  · rw [if_neg ff, decide_eq_true_iff] at h; rw [rkI_f] at h ⊢
    by_cases hq : MayQ K s M E ∧ MayQ K' s' M' E'
    · rw [if_pos hq] at h ⊢
      by_cases hc : rk K s M E ≤ rk K' s' M' E' ∧ rk K s M E < 19342822337206103650074625 ∧ -19342822337206103650074625 < rk K' s' M' E'
      · rw [mkI_some hc.1 hc.2.1 hc.2.2]; exact ⟨rfl, rk_fq hM hq.1, rk_fq hM' hq.2, hc⟩
      · exact absurd (mkI_none hc) h
    · rw [if_neg hq] at h; exact absurd rfl h
  · rw [if_pos rfl, Bool.and_eq_true, decide_eq_true_iff, decide_eq_true_iff] at h; obtain ⟨⟨rfl, rfl, rfl, rfl⟩, rfl, rfl, rfl, rfl⟩ := h; exact Ci.none
theorem mayI_no (h : mayI e K s M E K' s' M' E' = false) : rkI e K s M E K' s' M' E' = none := by
  cases e
  · unfold mayI at h
    rw [if_neg ff, decide_eq_false_iff_not] at h; exact Decidable.not_not.1 h
  · exact rkI_t
theorem Ci.rk (h : Ci e K s M E K' s' M' E' x) : rkI e K s M E K' s' M' E' = x := by
  rcases x with _ | ⟨a, b⟩
  · obtain ⟨rfl, _⟩ := h; exact rkI_t
  · obtain ⟨rfl, q1, q2, h1, h2, h3⟩ := h; rw [rkI_f, if_pos ⟨q1.1, q2.1⟩, q1.rk, q2.rk, mkI_some h1 h2 h3]
theorem Ci.may (h : Ci e K s M E K' s' M' E' x) : mayI e K s M E K' s' M' E' = true := by
  have hr := h.rk
  unfold mayI
  rcases x with _ | ⟨a, b⟩
  · obtain ⟨rfl, q1, q2⟩ := h; obtain ⟨rfl, rfl, rfl, rfl⟩ := q1.uniq Fq.nought; obtain ⟨rfl, rfl, rfl, rfl⟩ := q2.uniq Fq.nought
    rfl
  · obtain ⟨rfl, _⟩ := h; rw [if_neg ff, hr]
    rfl
end
def PV (w : World) (x : Sp) (e : Ending) (w' : World) : Prop := ∃ e0 K s M E K' s' M' E', e = .returned (.agg #[.bool e0, .int .i64 K, .bool s, .int .u64 M, .int .i64 E, .int .i64 K', .bool s', .int .u64 M', .int .i64 E']) ∧ Ci e0 K s M E K' s' M' E' x ∧ Below w.heap.size w w'
def Jo.Fact.iv (x : Sp) : Jo.Fact := ⟨fun v w => ∃ e0 K s M E K' s' M' E', v = .agg #[.bool e0, .int .i64 K, .bool s, .int .u64 M, .int .i64 E, .int .i64 K', .bool s', .int .u64 M', .int .i64 E'] ∧ Ci e0 K s M E K' s' M' E' x, fun v w w' h b => h⟩
def Il8 (w : World) (A : Option Addr) (n c : Nat) (l : List Sp) : Prop :=
  l.length = n ∧ n ≤ c ∧ n ≤ 1099511627776 ∧ (0 < n → ∃ b o, A = some ⟨b, o, none⟩ ∧ ∀ k, k < n → ∃ e K s M E K' s' M' E', w.cell? ⟨b, o + k * 9, none⟩ = some (.bool e) ∧ w.cell? ⟨b, o + k * 9 + 1, none⟩ = some (.int .i64 K) ∧ w.cell? ⟨b, o + k * 9 + 2, none⟩ = some (.bool s) ∧ w.cell? ⟨b, o + k * 9 + 3, none⟩ = some (.int .u64 M) ∧ w.cell? ⟨b, o + k * 9 + 4, none⟩ = some (.int .i64 E) ∧ w.cell? ⟨b, o + k * 9 + 5, none⟩ = some (.int .i64 K') ∧ w.cell? ⟨b, o + k * 9 + 6, none⟩ = some (.bool s') ∧ w.cell? ⟨b, o + k * 9 + 7, none⟩ = some (.int .u64 M') ∧ w.cell? ⟨b, o + k * 9 + 8, none⟩ = some (.int .i64 E') ∧ M < 18446744073709551616 ∧ M' < 18446744073709551616 ∧ rkI e K s M E K' s' M' E' = l.getD k none)
theorem Il8.below {w w' : World} {A : Option Addr} {n c : Nat} {l : List Sp} (h : Il8 w A n c l) (hb : Below w.heap.size w w') : Il8 w' A n c l := by
  obtain ⟨h1, h2, h3, h4⟩ := h
  refine ⟨h1, h2, h3, fun hn => ?_⟩
  obtain ⟨b, o, e, hc⟩ := h4 hn
  refine ⟨b, o, e, fun k hk => ?_⟩
  obtain ⟨e, K, s, M, E, K', s', M', E', c0, c1, c2, c3, c4, c5, c6, c7, c8, hM, hM', hr⟩ := hc k hk
  have t : ∀ {i : Nat} {v : Value}, w.cell? ⟨b, i, none⟩ = some v → w'.cell? ⟨b, i, none⟩ = some v := fun c => (hb.cell (p := ⟨b, _, none⟩) (block_lt_of_cell c)).trans c
  exact ⟨e, K, s, M, E, K', s', M', E', t c0, t c1, t c2, t c3, t c4, t c5, t c6, t c7, t c8, hM, hM', hr⟩
theorem Il8.ok {w : World} {A : Option Addr} {n c : Nat} {l : List Sp} (h : Il8 w A n c l) : ∀ y ∈ l, SpOk y := by
  intro y hy
  obtain ⟨k, hk, e⟩ := List.getElem_of_mem hy; obtain ⟨h1, h2, h3, h4⟩ := h; obtain ⟨b, o, _, hc⟩ := h4 (by omega); obtain ⟨e0, K, s, M, E, K', s', M', E', _, _, _, _, _, _, _, _, _, hM, hM', hr⟩ := hc k (by omega)
  have : l.getD k none = y := by
    rw [List.getD_eq_getElem?_getD, List.getElem?_eq_getElem hk, e]
    rfl
  rw [← this, ← hr]; exact rkI_ok hM hM'
end Go.Proofs.YtpnmphofengoeaaGreatDoor
namespace Go.Proofs.YtpnmphofengoeaaGreatDoor
open Go.RowKit
set_option linter.unusedVariables false
theorem StN.of9 {w w1 : World} {g : Nat} {T : TypeId} {a0 a1 a2 a3 a4 a5 a6 a7 a8 v0 v1 v2 v3 v4 v5 v6 v7 v8 : Value} (X : Bo w g #[a0, a1, a2, a3, a4, a5, a6, a7, a8] T) (h : ((((((((w.setCell ⟨g, 0, none⟩ v0).setCell ⟨g, 1, none⟩ v1).setCell ⟨g, 2, none⟩ v2).setCell ⟨g, 3, none⟩ v3).setCell ⟨g, 4, none⟩ v4).setCell ⟨g, 5, none⟩ v5).setCell ⟨g, 6, none⟩ v6).setCell ⟨g, 7, none⟩ v7).setCell ⟨g, 8, none⟩ v8 = w1) : StN w w1 g #[a0, a1, a2, a3, a4, a5, a6, a7, a8] #[v0, v1, v2, v3, v4, v5, v6, v7, v8] T := h ▸ StN.mk9 X v0 v1 v2 v3 v4 v5 v6 v7 v8
end Go.Proofs.YtpnmphofengoeaaGreatDoor

namespace Go.Proofs.YtpnmphofengoeaaGreatDoor
open Go.RowKit
set_option linter.unusedVariables false

def lo1 : Sp → List Int
  | none => []
  | some (a, _) => [a]
def hi1 : Sp → List Int
  | none => []
  | some (_, b) => [b]
def lowL : List Sp → List Int
  | [] => []
  | x :: l => lo1 x ++ lowL l
def highL : List Sp → List Int
  | [] => []
  | x :: l => hi1 x ++ highL l
theorem lowL_append : ∀ (l m : List Sp), lowL (l ++ m) = lowL l ++ lowL m
  | [], m => rfl
  | x :: l, m => by
    show lo1 x ++ lowL (l ++ m) = (lo1 x ++ lowL l) ++ lowL m
    rw [lowL_append l m, List.append_assoc]
theorem highL_append : ∀ (l m : List Sp), highL (l ++ m) = highL l ++ highL m
  | [], m => rfl
  | x :: l, m => by
    show hi1 x ++ highL (l ++ m) = (hi1 x ++ highL l) ++ highL m
    rw [highL_append l m, List.append_assoc]
theorem lowL_take {l : List Sp} {k : Nat} (h : k < l.length) : lowL (l.take (k + 1)) = lowL (l.take k) ++ lo1 (l.getD k none) := by
  rw [List.take_succ_eq_append_getElem h, lowL_append, List.getD_eq_getElem?_getD, List.getElem?_eq_getElem h]; exact congrArg _ (List.append_nil _)
theorem highL_take {l : List Sp} {k : Nat} (h : k < l.length) : highL (l.take (k + 1)) = highL (l.take k) ++ hi1 (l.getD k none) := by
  rw [List.take_succ_eq_append_getElem h, highL_append, List.getD_eq_getElem?_getD, List.getElem?_eq_getElem h]; exact congrArg _ (List.append_nil _)
theorem len_lo : ∀ l : List Sp, (lowL l).length ≤ l.length
  | [] => Nat.le_refl _
  | none :: l => Nat.le_succ_of_le (len_lo l)
  | some (a, b) :: l => Nat.succ_le_succ (len_lo l)
theorem meetI_mk (A B a b : Int) : meetI (mkI A B) (some (a, b)) = mkI (max A a) (min B b) := by
  by_cases h : A ≤ B ∧ A < 19342822337206103650074625 ∧ -19342822337206103650074625 < B
  · rw [mkI_some h.1 h.2.1 h.2.2]
    rfl
  · rw [mkI_none h, mkI_none (fun c => h (by omega))]
    rfl
theorem meet_fold : ∀ (l : List Sp) (A B : Int), (lowL l).length = l.length → l.foldl meetI (mkI A B) = mkI ((lowL l).foldl max A) ((highL l).foldl min B)
  | [], A, B, _ => rfl
  | none :: l, A, B, h => by
    have h1 : (lowL l).length = l.length + 1 := h
    have h2 := len_lo l
    omega
  | some (a, b) :: l, A, B, h => by
    show l.foldl meetI (meetI (mkI A B) (some (a, b))) = _
    rw [meetI_mk]; exact meet_fold l (max A a) (min B b) (Nat.succ_inj.1 h)
theorem meet_some {l : List Sp} (h : (lowL l).length = l.length) : meetL l = mkI (mxp (lowL l)) (mnp (highL l)) := by
  have e : allI = mkI (-19342822337206103650074625) 19342822337206103650074625 := (mkI_some (by omega) (by omega) (by omega)).symm
  unfold meetL mxp mnp
  rw [e, TP_eq]; exact meet_fold l _ _ h
theorem meet_gone : ∀ (l : List Sp) (x : Sp), (lowL l).length < l.length → l.foldl meetI x = none
  | [], x, h => absurd h (Nat.lt_irrefl _)
  | none :: l, x, h => by
    show l.foldl meetI (meetI x none) = none
    rw [meetI_none]; exact meet_stuck l
  | some (a, b) :: l, x, h => meet_gone l _ (Nat.lt_of_succ_lt_succ h)
theorem meet_no {l : List Sp} (h : (lowL l).length < l.length) : meetL l = none := meet_gone l allI h
theorem clp_min {m a b : Int} (h : a ≤ b) : min (max m a) b = clp m a b := by
  unfold clp
  split
  · omega
  · split <;> omega
def nrow : List (Int × Bool × Int × Int) → List Value
  | [] => []
  | (K, s, M, E) :: l => .int .i64 K :: .bool s :: .int .u64 M :: .int .i64 E :: nrow l
theorem nrow_append : ∀ l m, nrow (l ++ m) = nrow l ++ nrow m
  | [], m => rfl
  | (K, s, M, E) :: l, m => by
    show _ :: _ :: _ :: _ :: nrow (l ++ m) = _
    rw [nrow_append l m]
    rfl
theorem nrow_len : ∀ l, (nrow l).length = l.length * 4
  | [] => rfl
  | (K, s, M, E) :: l => by
    show (nrow l).length + 4 = (l.length + 1) * 4
    rw [nrow_len l]
    omega
theorem nrow_at : ∀ (l : List (Int × Bool × Int × Int)) (k : Nat) (K : Int) (s : Bool) (M E : Int), l[k]? = some (K, s, M, E) → (nrow l)[k * 4]? = some (.int .i64 K) ∧ (nrow l)[k * 4 + 1]? = some (.bool s) ∧ (nrow l)[k * 4 + 2]? = some (.int .u64 M) ∧ (nrow l)[k * 4 + 3]? = some (.int .i64 E)
  | [], k, _, _, _, _, h => by cases h
  | (K, s, M, E) :: l, 0, _, _, _, _, h => by
    cases h
    exact ⟨rfl, rfl, rfl, rfl⟩
  | (K, s, M, E) :: l, k + 1, K2, s2, M2, E2, h => by
    have := nrow_at l k K2 s2 M2 E2 h
    have e : (k + 1) * 4 = k * 4 + 4 := by omega
    rw [e]; exact this
def Na (w : World) (base : Nat) (A : Option Addr) (n c : Nat) (l : List Int) : Prop :=
  ∃ r : List (Int × Bool × Int × Int), w.ownsRow base 32 4 (.slice A n c) n (nrow r) ∧ r.length = n ∧ l.length = n ∧ ∀ k, k < n → ∃ K s M E, r[k]? = some (K, s, M, E) ∧ Fq K s M E (l.getD k 0)
theorem Na.nil (w : World) (base : Nat) : Na w base none 0 0 [] := ⟨[], World.ownsRow_nil w base _ 4, rfl, rfl, fun k h => absurd h (Nat.not_lt_zero _)⟩
theorem Na.len {w : World} {base n c : Nat} {A : Option Addr} {l : List Int} (h : Na w base A n c l) : l.length = n := by
  obtain ⟨_, _, _, h, _⟩ := h; exact h
theorem Na.below {w w' : World} {base n c : Nat} {A : Option Addr} {l : List Int} (h : Na w base A n c l) (hb : Below w.heap.size w w') : Na w' base A n c l := by
  obtain ⟨r, h1, h2⟩ := h; refine ⟨r, ⟨h1.1, ?_⟩, h2⟩
  rcases h1.2 with h3 | ⟨g, cap, cur, hv, hg, hh, q⟩
  · exact .inl h3
  · refine .inr ⟨g, cap, cur, hv, hg, ?_, q⟩; rw [hb.block g (Array.getElem?_eq_some_iff.1 hh).1]; exact hh
theorem Na.nl {w : World} {base n c : Nat} {A : Option Addr} {l : List Int} (h : Na w base A n c l) (hn : n ≤ 1099511627776) : Nl w A n c l := by
  obtain ⟨r, h1, h2, h3, h4⟩ := h
  rcases h1.2 with ⟨e1, e2⟩ | ⟨g, cap, cur, hv, hg, hh, hc, hm, hs, ht⟩
  · injection e1 with a1 a2 a3
    subst a1; subst a2; subst a3
    exact ⟨h3, Nat.le_refl _, by omega, fun h => absurd h (Nat.lt_irrefl _)⟩
  · injection hv with a1 a2 a3
    subst a1; subst a3
    refine ⟨h3, hc, hn, fun _ => ⟨g, 0, rfl, fun k hk => ?_⟩⟩
    obtain ⟨K, s, M, E, hr, q⟩ := h4 k hk; obtain ⟨c0, c1, c2, c3⟩ := nrow_at r k K s M E hr
    have cell : ∀ j v, (nrow r)[j]? = some v → w.cell? ⟨g, 0 + j, none⟩ = some v := by
      intro j v hv
      rw [cell_of_row w g (0 + j) _ _ (0, 0) hh, Nat.zero_add, ← Array.getElem?_toList]; rw [← ht, List.getElem?_take] at hv
      split at hv
      · exact hv
      · cases hv
    exact ⟨K, s, M, E, cell _ _ c0, by rw [Nat.add_assoc]; exact cell _ _ c1, by rw [Nat.add_assoc]; exact cell _ _ c2, by rw [Nat.add_assoc]; exact cell _ _ c3, q.top, q.rk⟩
end Go.Proofs.YtpnmphofengoeaaGreatDoor

namespace Go.Proofs.YtpnmphofengoeaaGreatDoor
open Go.RowKit
set_option linter.unusedVariables false
set_option maxRecDepth 100000

theorem infoNum : (Tryz.prog.info? 32).map (fun i => (i.zero, i.size, i.bytes)) = some (some (.agg #[.int .i64 0, .bool false, .int .u64 0, .int .i64 0]), 4, 32) := by kernel_rfl
section
variable {w w' : World} {base n c : Nat} {A : Option Addr} {l : List Int}
def ownA (A : Option Addr) : Option Nat := A.map (·.block)
theorem own_eq (A : Option Addr) (n c : Nat) : (Value.slice A n c).ownBlock = ownA A := by cases A <;> rfl
theorem Na.kept {row : Option Nat} (h : Na w base A n c l) (hg : w.grownBy w' row) (hne : ownA A = none ∨ ownA A ≠ row) : Na w' base A n c l := by
  obtain ⟨r, h1, h2⟩ := h; exact ⟨r, h1.kept hg (by rw [own_eq]; exact hne), h2⟩
theorem Na.own_lt (h : Na w base A n c l) : ∀ k, ownA A = some k → base ≤ k ∧ k < w.heap.size := by
  obtain ⟨r, h1, h2⟩ := h
  intro k hk
  exact h1.lt k (by rw [own_eq]; exact hk)
theorem run_na {ty : TypeId} {g : Nat} {K M E a : Int} {s : Bool} (h : Na w base A n c l) (q : Fq K s M E a) (X : Bo w g #[.int .i64 K, .bool s, .int .u64 M, .int .i64 E] 32) (hn : n + 1 ≤ 1099511627776) (hb : base ≤ w.heap.size) :
    ∃ A2 c2 w', (Builtin.append_ #[61, 61] ty #[.slice A n c, .slice (some ⟨g, 0, none⟩) 1 1]).run Tryz.prog w = .ok (.slice A2 (n + 1) c2) w' ∧ Na w' base A2 (n + 1) c2 (l ++ [a]) ∧ w.grownBy w' (ownA A) ∧ (ownA A2 = ownA A ∨ ownA A2 = some w.heap.size) := by
  obtain ⟨i, hi, hz, hsi, hby⟩ := info_parts infoNum; obtain ⟨r, h1, h2, h3, h4⟩ := h
  obtain ⟨v', w', hr, ho, hg, _, hat⟩ := run_append_own_at (P := Tryz.prog) w base 61 ty 32 i _ 4 32 Tryz.underlying61 hi hz hsi hby rfl (by decide) _ n (nrow r) h1 ⟨g, 0, none⟩ 1 1 (nrow [(K, s, M, E)]) rfl (by
    intro j u hj
    have hc := X.cell
    rcases j with _ | _ | _ | _ | j
    · cases hj
      exact hc 0
    · cases hj
      exact hc 1
    · cases hj
      exact hc 2
    · cases hj
      exact hc 3
    · cases hj) (by
    intro u hu
    simp only [nrow, List.mem_cons, List.not_mem_nil, or_false] at hu
    rcases hu with rfl | rfl | rfl | rfl <;> rfl) (by unfold maxLen; omega) (by omega) hb
  rw [own_eq] at hg hat; rw [← nrow_append] at ho
  obtain ⟨A2, c2, rfl⟩ : ∃ A2 c2, v' = .slice A2 (n + 1) c2 := by
    rcases ho.2 with ⟨_, h0⟩ | ⟨g', cap', cur', hv, _⟩
    · omega
    · exact ⟨_, _, hv⟩
  rw [own_eq] at hat
  refine ⟨A2, c2, w', hr, ⟨_, ho, by rw [List.length_append, h2]; rfl, by rw [List.length_append, h3]; rfl, fun k hk => ?_⟩, hg, hat⟩
  by_cases hkn : k < n
  · obtain ⟨K1, s1, M1, E1, hq, qq⟩ := h4 k hkn; refine ⟨K1, s1, M1, E1, by rw [List.getElem?_append_left (by omega)]; exact hq, ?_⟩
    rw [List.getD_eq_getElem?_getD, List.getElem?_append_left (by omega), ← List.getD_eq_getElem?_getD]; exact qq
  · obtain rfl : k = n := by omega
    refine ⟨K, s, M, E, by rw [List.getElem?_append_right (by omega), h2]; simp, ?_⟩
    rw [List.getD_eq_getElem?_getD, List.getElem?_append_right (by omega), h3]
    simpa using q
theorem wpList_na {ops : Array Oper} {rest : List Oper} {o : Oper} {a : Act} {Q : Exit → Act → World → Prop} (hgd : o.guard = none) (s x : Operand)
    (ho : o.op = .call { callee := .builtin .append, args := #[s, x], argTypes := #[61, 61] }) {g : Nat} {K M E p : Int} {b : Bool}
    (hs : a.eval s = .slice A n c) (hx : a.eval x = .slice (some ⟨g, 0, none⟩) 1 1) (h : Na w base A n c l) (q : Fq K b M E p) (X : Bo w g #[.int .i64 K, .bool b, .int .u64 M, .int .i64 E] 32) (hn : n + 1 ≤ 1099511627776) (hb : base ≤ w.heap.size)
    (hK : ∀ A2 c2 w', Na w' base A2 (n + 1) c2 (l ++ [p]) → w.grownBy w' (ownA A) → (ownA A2 = ownA A ∨ ownA A2 = some w.heap.size) → wpList Tryz.prog ops Q rest (a.put o.dst (.slice A2 (n + 1) c2)) w') : wpList Tryz.prog ops Q (o :: rest) a w := by
  refine wpList_plain hgd fun K hK2 => ?_
  obtain ⟨A2, c2, w', hr, h1, h2, h3⟩ := run_na (ty := o.type) h q X hn hb
  unfold Oper.wp execOp
  simp only [ho, resolve, invoke, builtin, Sem.run_bind, Sem.run_pure, Result.andThen_ok, List.map_toArray, List.map_cons, List.map_nil, hs, hx, hr]; exact hK2 _ _ (hK A2 c2 w' h1 h2 h3)
end
end Go.Proofs.YtpnmphofengoeaaGreatDoor

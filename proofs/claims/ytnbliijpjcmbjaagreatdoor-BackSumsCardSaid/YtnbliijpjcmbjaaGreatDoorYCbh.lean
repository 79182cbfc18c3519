/-
 Contracts that the proof rests on.
-/
import Derived.Test.YtnbliijpjcmbjaaGreatDoorYCbg
namespace Go.Proofs.YtnbliijpjcmbjaaGreatDoor
set_option maxHeartbeats 8000000
open Go.RowKit
set_option linter.unusedVariables false
set_option linter.unusedSimpArgs false
set_option maxRecDepth 100000
def Ro (up : Bool) (x r : Int) (t : Bool) : Prop := if x < 0 then r = 0 ∧ t = false else if x = 0 ∨ infp x = true then r = x ∧ t = true else Rt up (vr x * 2 ^ KK) r ∧ t = true
theorem ro_neg {up : Bool} {x r : Int} {t : Bool} (h : x < 0) : Ro up x r t ↔ (r = 0 ∧ t = false) := by
 unfold Ro
 rw [if_pos h]
theorem ro_it {up : Bool} {x r : Int} {t : Bool} (h : ¬ x < 0) (h2 : x = 0 ∨ infp x = true) : Ro up x r t ↔ (r = x ∧ t = true) := by
 unfold Ro
 rw [if_neg h, if_pos h2]
theorem ro_fin {up : Bool} {x r : Int} {t : Bool} (h : ¬ x < 0) (h2 : ¬ (x = 0 ∨ infp x = true)) : Ro up x r t ↔ (Rt up (vr x * 2 ^ KK) r ∧ t = true) := by
 unfold Ro
 rw [if_neg h, if_neg h2]
theorem tmod_two (e : Int) : Int.tmod e 2 = 0 ↔ e % 2 = 0 := by
 rw [← Int.dvd_iff_tmod_eq_zero, Int.dvd_iff_emod_eq_zero]
theorem stk_le {s d : Nat} {X k : Nat} (h : s * s + d = X) (hX : X < 2 ^ k) : stk s d < 2 ^ (k + 2) := by
 have h1 : s ≤ X := by
   rcases Nat.eq_zero_or_pos s with e | e
   · omega
   · have := Nat.le_mul_of_pos_right s e
     omega
 have h2 : stk s d ≤ 2 * s + 1 := by
   unfold stk
   split <;> omega
 have h3 : 2 ^ (k + 2) = 2 ^ k * 4 := by rw [Nat.pow_add]
 omega
theorem rt_big {α n : Nat} (h : 0 < α) (hn : 140 ≤ n) : 9223372036854775808 ≤ rt (α * 2 ^ n) := by
 rcases Nat.lt_or_ge (rt (α * 2 ^ n)) 9223372036854775808 with c | c
 · exfalso
   have h1 := (rt_spec (α * 2 ^ n)).2
   have h2 : (rt (α * 2 ^ n) + 1) * (rt (α * 2 ^ n) + 1) ≤ 2 ^ 63 * 2 ^ 63 := Nat.mul_le_mul (by omega) (by omega)
   have h3 : 1 * 2 ^ 140 ≤ α * 2 ^ n := Nat.mul_le_mul h (Nat.pow_le_pow_right (by decide) hn)
   omega
 · exact c
theorem jRoot {w : World} {D M E : Int} {s : Bool} {up t : Bool} {x r : Int} (hM : LQ M) (hx : rk D s M E = x) (hr : Ro up x r t) : Calls Tryz.prog 80 #[VQ D s M E, .bool up] w (PNB w r t) := by
 delta VQ
 have HX := Lib.hid hx; clear hx
 go_enter Tryz.func80, Tryz.ntmps80
 go_upto_region 1 with (fail)
 generalize hW1 : (w.alloc _).alloc _ = w1 at *; obtain ⟨X2, XR, HB⟩ := Bo.en2 hW1; clear hW1; have xX2 := X2.cell
 go_wp2_with fail
 refine (gFair hM HX.out).mono ?_; rintro ee w2 ⟨K1, s1, M1, E1, rfl, q1, B⟩; clear xX2; replace X2 := X2.below B; replace XR := XR.below B; replace HB := Hqb HB B; clear B
 go_upto_region 2 with (fail)
 have lX6 := Nat.le_refl (World.heap w2).size; have nX6X2 := X2.lt; have nX6XR := XR.lt; generalize hWn : w2.alloc _ = w3 at *; obtain ⟨X6, BW⟩ := Bo.nw hWn; clear hWn; replace X2 := X2.below BW; replace XR := XR.below BW; replace HB := Hqb HB BW; clear BW; clear lX6 HX hM; have i1 := fq_inf q1; have z1 := q1.zero_iff
 have kk1 : K1 = 2 ∨ K1 = 0 ∨ K1 = 1 := by rcases q1.cases with ⟨h, _⟩ | ⟨h, _⟩ | ⟨h, _⟩ <;> omega
 have hsx : K1 ≠ 0 → decide (x < 0) = s1 := fun h0 => by
   rcases q1.three with ⟨a, _⟩ | ⟨_, rfl, b⟩ | ⟨_, rfl, b⟩
   · exact absurd a h0
   · exact decide_eq_false (by omega)
   · exact decide_eq_true b
 rcases kk1 with rfl | rfl | rfl
 · by_cases hs : s1 = true
   · subst hs
     have hx0 : x < 0 := of_decide_eq_true (hsx (by decide))
     obtain ⟨rfl, rfl⟩ := (ro_neg hx0).1 hr; clear hr hx0 i1 z1 hsx q1; have xXR := XR.cell; have zXR0 := XR.frozen; have xX6 := X6.cell; go_wp2; clear xXR zXR0 xX6; have SX := StN.mk4 XR (.int .i64 0) (.bool false) (.int .u64 0) (.int .i64 0); exact bodyPost_ret (v := .tuple #[.agg #[.int .i64 0, .bool false, .int .u64 0, .int .i64 0], .bool false]) (by simp [results, Tryz.results80, go_sem, SX.box.cell]) rfl ⟨_, _, _, _, rfl, Fq.nought, (SX.below HB.out (by omega))⟩
   · have hs : s1 = false := by simpa using hs
     subst hs
     have hx0 : ¬ x < 0 := of_decide_eq_false (hsx (by decide))
     have hx1 : x = 0 ∨ infp x = true := .inr i1
     obtain ⟨rfl, rfl⟩ := (ro_it hx0 hx1).1 hr; clear hr hx0 hx1 i1 z1 hsx; have xXR := XR.cell; have zXR0 := XR.frozen; have xX6 := X6.cell; go_wp2; clear xXR zXR0 xX6; have SX := StN.mk4 XR (.int .i64 2) (.bool false) (.int .u64 M1) (.int .i64 E1); exact bodyPost_ret (v := .tuple #[.agg #[.int .i64 2, .bool false, .int .u64 M1, .int .i64 E1], .bool true]) (by simp [results, Tryz.results80, go_sem, SX.box.cell]) rfl ⟨_, _, _, _, rfl, q1, (SX.below HB.out (by omega))⟩
 · have hx0 : ¬ x < 0 := by have := z1.1 rfl; omega
   have hx1 : x = 0 ∨ infp x = true := .inl (z1.1 rfl)
   obtain ⟨rfl, rfl⟩ := (ro_it hx0 hx1).1 hr; clear hr hx0 hx1 i1 z1 hsx; have xXR := XR.cell; have zXR0 := XR.frozen; have xX6 := X6.cell; go_wp2; clear xXR zXR0 xX6; have SX := StN.mk4 XR (.int .i64 0) (.bool s1) (.int .u64 M1) (.int .i64 E1); exact bodyPost_ret (v := .tuple #[.agg #[.int .i64 0, .bool s1, .int .u64 M1, .int .i64 E1], .bool true]) (by simp [results, Tryz.results80, go_sem, SX.box.cell]) rfl ⟨_, _, _, _, rfl, q1, (SX.below HB.out (by omega))⟩
 · by_cases hs : s1 = true
   · subst hs
     have hx0 : x < 0 := of_decide_eq_true (hsx (by decide))
     obtain ⟨rfl, rfl⟩ := (ro_neg hx0).1 hr; clear hr hx0 i1 z1 hsx q1; have xXR := XR.cell; have zXR0 := XR.frozen; have xX6 := X6.cell; go_wp2; clear xXR zXR0 xX6; have SX := StN.mk4 XR (.int .i64 0) (.bool false) (.int .u64 0) (.int .i64 0); exact bodyPost_ret (v := .tuple #[.agg #[.int .i64 0, .bool false, .int .u64 0, .int .i64 0], .bool false]) (by simp [results, Tryz.results80, go_sem, SX.box.cell]) rfl ⟨_, _, _, _, rfl, Fq.nought, (SX.below HB.out (by omega))⟩
   · have hs : s1 = false := by simpa using hs
     subst hs
     have hx0 : ¬ x < 0 := of_decide_eq_false (hsx (by decide))
     have hx1 : ¬ (x = 0 ∨ infp x = true) := by
       rw [i1]; rintro (c | c)
       · exact absurd (z1.2 c) (by decide)
       · exact absurd c (by decide)
     obtain ⟨hr2, ht⟩ := (ro_fin hx0 hx1).1 hr; subst ht; obtain ⟨a1, a2, a3, a4, _⟩ := fq_vr q1; obtain ⟨α, v, u1, u2, u3, u4, u5, u6⟩ := exq_one (s := false) a1 a2; rw [wsg_f] at u1; obtain ⟨V, hV⟩ : ∃ V : Int, (v : Int) = V := ⟨_, rfl⟩; rw [hV] at u2
     have w1_ : 0 ≤ V ∧ V < 64 := by omega
     obtain ⟨e, he⟩ : ∃ e, V + E1 = e := ⟨_, rfl⟩; have HXA := Lib.hid u1; have HXB := Lib.hid u2; have HEA := Lib.hid (exb_one (s := false) a1)
     have HW1 : Hid (IntKind.i64.wrap (V + E1) = e) := Lib.hid (by rw [he]; exact IntWalk.i64_in _ (by omega))
     have m1 : 0 ≤ M1 := by omega
     have eb : -1100000 ≤ e ∧ e ≤ 1100000 := by omega
     have key : ∀ n : Nat, (n = 140 ∨ n = 141) → ∀ f : Int, 2 * f = e - n → ∀ S d : Nat, rt (α * 2 ^ n) = S → S * S + d = α * 2 ^ n → rnd up (mk ((stk S d : Nat) : Int) (f - 1)).1 (mk ((stk S d : Nat) : Int) (f - 1)).2 = r := by
       intro n hn f hf S d hS hd
       obtain ⟨κ, hκ⟩ : ∃ κ : Nat, κ = 500000 := ⟨_, rfl⟩; have hsp := rt_spec (α * 2 ^ n); rw [hS] at hsp
       have hX : α * 2 ^ n < 2 ^ 205 := by
         have l1 : α * 2 ^ n < 2 ^ 64 * 2 ^ n := Nat.mul_lt_mul_of_pos_right u5 (Nat.pow_pos (by decide))
         rw [← Nat.pow_add] at l1; exact Nat.lt_of_lt_of_le l1 (Nat.pow_le_pow_right (by decide) (by omega))
       have hst := Nat.lt_of_lt_of_le (stk_le hd hX) (Nat.pow_le_pow_right (show 0 < 2 by decide) (show 205 + 2 ≤ κ by omega))
       have hb : 9223372036854775808 ≤ S := by rw [← hS]; exact rt_big u4 (by omega)
       have hside := root_side (N := α) (e := e) up hd hsp.2 hb hf hκ hst (by omega) (by omega) (by omega) (by omega)
       have hfin := root_fin (up := up) q1 u3 u6 (by rw [show E1 + (v : Int) + 2 * (KK : Int) = e + 2 * (KK : Int) by omega]; exact hside)
       exact hfin.uniq hr2
     have HKEY := Lib.hid key; clear key hr hr2 hx0 hx1 i1 z1 hsx a1 a3 a4 u1 u2 u3 u5 u6 hV w1_ he q1; have xX6 := X6.cell
     go_wp2_with fail
     refine (yExact0 m1 a2 HEA.out HXA.out HXB.out).mono ?_; rintro ee w4 ⟨sa, Aa, na, ca, rfl, pa, ka, B⟩; clear xX6; replace XR := XR.below B; replace X6 := X6.below B; replace HB := Hqb HB B; clear B; obtain ⟨ra, hsa⟩ := wn_rd (s := false) (by rw [wsg_f]; exact pa) u4; subst hsa; clear pa
     go_upto_region 7 with (fail)
     have lX7 := Nat.le_refl (World.heap w4).size; have nX7XR := XR.lt; have nX7X6 := X6.lt; generalize hWn : w4.alloc _ = w5 at *; obtain ⟨X7, BW⟩ := Bo.nw hWn; clear hWn; replace XR := XR.below BW; replace X6 := X6.below BW; replace ra := ra.below BW; replace HB := Hqb HB BW; clear BW; clear lX7; have xX6 := X6.cell; have xX7 := X7.cell; have hw1 := HW1.out
     go_upto_region 9 with (fail)
     clear hw1; clear xX6 xX7
     by_cases hpar : e % 2 = 0
     · obtain ⟨f, hf⟩ : ∃ f : Int, 2 * f = e - 140 := ⟨(e - 140) / 2, by omega⟩
       obtain ⟨S, hS⟩ : ∃ S, rt (α * 2 ^ 140) = S := ⟨_, rfl⟩; obtain ⟨d, hd⟩ : ∃ d, S * S + d = α * 2 ^ 140 := ⟨α * 2 ^ 140 - S * S, by have := (rt_spec (α * 2 ^ 140)).1; rw [hS] at this; omega⟩
       have hk := HKEY.out 140 (by decide) f (by omega) S d hS hd; obtain ⟨T, hT⟩ : ∃ T, stk S d = T := ⟨_, rfl⟩; rw [hT] at hk; obtain ⟨P, hP⟩ : ∃ P, mk (T : Int) (f - 1) = P := ⟨_, rfl⟩; rw [hP] at hk
       have hPn : mk P.1 P.2 = P := by rw [← hP]; exact mk_nf _ _
       have HRR := Lib.hid (show rnd up (mk P.1 P.2).1 (mk P.1 P.2).2 = r by rw [hPn]; exact hk)
       have HP1 : Hid ((mk (sg false T) (f - 1)).1 = P.1) := Lib.hid (by rw [sg_false, hP])
       have HP2 : Hid ((mk (sg false T) (f - 1)).2 = P.2) := Lib.hid (by rw [sg_false, hP])
       obtain ⟨X, hX⟩ : ∃ X, α * 2 ^ 140 = X := ⟨_, rfl⟩; rw [hX] at hS hd
       have HX2 : Hid (α * 2 ^ (140 : Int).toNat = X) := Lib.hid hX
       have HS := Lib.hid hS; obtain ⟨b, hb⟩ : ∃ b, decide (S * S = X) = b := ⟨_, rfl⟩; have HBB := Lib.hid hb
       have HCT : Hid (decide (d ≠ 0) = !b) := Lib.hid (by
         rw [← hb]
         by_cases c : d = 0
         · rw [decide_eq_true (show S * S = X by omega), c]
           rfl
         · rw [decide_eq_false (show ¬ S * S = X by omega), decide_eq_true c]
           rfl)
       have HT2 := Lib.hid hT
       have hrem : Int.tmod e 2 = 0 := by exact (tmod_two e).2 hpar
       have hrem2 : (Int.tmod e 2 == 0) = true := by
         rw [hrem]
         rfl
       have HW2 : Hid (IntKind.i64.wrap (e - 140) = e - 140) := Lib.hid (IntWalk.i64_in _ (by omega))
       have HQ : Hid (Int.tdiv (e - 140) 2 = f) := Lib.hid (by rw [← hf]; exact Int.mul_tdiv_cancel_left _ (by decide))
       have HW3 : Hid (IntKind.i64.wrap (f - 1) = f - 1) := Lib.hid (IntWalk.i64_in _ (by omega))
       have HW4 : Hid (IntKind.i64.wrap f = f) := Lib.hid (IntWalk.i64_in _ (by omega))
       clear HKEY hk hP hPn hX hS hd hb hT hf; have xX6 := X6.cell; have xX7 := X7.cell
       go_upto_region 11 with (fail)
       go_wp2_with fail
       refine (rShlN (z := 140) ra (by omega) (by decide) (by decide) HX2.out).mono ?_; rintro ee w6 ⟨A3, n3, c3, rfl, p3, k3, B⟩; clear xX6 xX7; replace XR := XR.below B; replace X6 := X6.below B; replace X7 := X7.below B; replace ra := ra.below B; replace HB := Hqb HB B; clear B; clear ra
       have hn3 : n3 ≤ 100 := by
         have : (140 : Int).toNat / 32 = 4 := rfl
         omega
       go_wp2_with fail
       refine (rRoot p3.rd (by omega) HS.out HBB.out).mono ?_; rintro ee w7 ⟨A4, n4, c4, rfl, p4, k4, B⟩; replace XR := XR.below B; replace X6 := X6.below B; replace X7 := X7.below B; replace p3 := p3.below B; replace HB := Hqb HB B; clear B; clear p3
       go_wp2_with fail
       refine (jSticky (d := d) (cut := !b) p4.rd (by omega) HCT.out HT2.out).mono ?_; rintro ee w8 ⟨A5, n5, c5, rfl, p5, k5, B⟩; replace XR := XR.below B; replace X6 := X6.below B; replace X7 := X7.below B; replace p4 := p4.below B; replace HB := Hqb HB B; clear B; clear p4
       go_wp2_with fail
       refine (qMake false p5.rd).mono ?_; rintro ee w9 ⟨s6, A6, n6, c6, rfl, p6, k6, B⟩; replace XR := XR.below B; replace X6 := X6.below B; replace X7 := X7.below B; replace p5 := p5.below B; replace HB := Hqb HB B; clear B; clear p5; have hw2 := HW2.out; have hq := HQ.out; have hw3 := HW3.out; have hw4 := HW4.out
       go_wp2_with fail
       refine (q3Make p6.wr (by omega) HP1.out HP2.out).mono ?_; rintro ee wA ⟨s8, A8, n8, c8, rfl, p8, k8, B⟩; replace XR := XR.below B; replace X6 := X6.below B; replace X7 := X7.below B; replace p6 := p6.below B; replace HB := Hqb HB B; clear B; clear p6 hw2 hq hw3 hw4
       go_wp2_with fail
       refine (yRound p8.wr (by omega) rfl rfl HRR.out).mono ?_; rintro ee wB ⟨K9, s9, M9, E9, rfl, q9, B⟩; replace XR := XR.below B; replace X6 := X6.below B; replace X7 := X7.below B; replace p8 := p8.below B; replace HB := Hqb HB B; clear B; have xXR := XR.cell; have zXR0 := XR.frozen; go_wp2; clear xXR zXR0; have SX := StN.mk4 XR (.int .i64 K9) (.bool s9) (.int .u64 M9) (.int .i64 E9)
       exact bodyPost_ret (v := .tuple #[.agg #[.int .i64 K9, .bool s9, .int .u64 M9, .int .i64 E9], .bool true]) (by simp [results, Tryz.results80, go_sem, SX.box.cell]) rfl ⟨_, _, _, _, rfl, q9, (SX.below HB.out (by omega))⟩
     · obtain ⟨f, hf⟩ : ∃ f : Int, 2 * f = e - 141 := ⟨(e - 141) / 2, by omega⟩
       obtain ⟨S, hS⟩ : ∃ S, rt (α * 2 ^ 141) = S := ⟨_, rfl⟩; obtain ⟨d, hd⟩ : ∃ d, S * S + d = α * 2 ^ 141 := ⟨α * 2 ^ 141 - S * S, by have := (rt_spec (α * 2 ^ 141)).1; rw [hS] at this; omega⟩
       have hk := HKEY.out 141 (by decide) f (by omega) S d hS hd; obtain ⟨T, hT⟩ : ∃ T, stk S d = T := ⟨_, rfl⟩; rw [hT] at hk; obtain ⟨P, hP⟩ : ∃ P, mk (T : Int) (f - 1) = P := ⟨_, rfl⟩; rw [hP] at hk
       have hPn : mk P.1 P.2 = P := by rw [← hP]; exact mk_nf _ _
       have HRR := Lib.hid (show rnd up (mk P.1 P.2).1 (mk P.1 P.2).2 = r by rw [hPn]; exact hk)
       have HP1 : Hid ((mk (sg false T) (f - 1)).1 = P.1) := Lib.hid (by rw [sg_false, hP])
       have HP2 : Hid ((mk (sg false T) (f - 1)).2 = P.2) := Lib.hid (by rw [sg_false, hP])
       obtain ⟨X, hX⟩ : ∃ X, α * 2 ^ 141 = X := ⟨_, rfl⟩; rw [hX] at hS hd
       have HX2 : Hid (α * 2 ^ (141 : Int).toNat = X) := Lib.hid hX
       have HS := Lib.hid hS; obtain ⟨b, hb⟩ : ∃ b, decide (S * S = X) = b := ⟨_, rfl⟩; have HBB := Lib.hid hb
       have HCT : Hid (decide (d ≠ 0) = !b) := Lib.hid (by
         rw [← hb]
         by_cases c : d = 0
         · rw [decide_eq_true (show S * S = X by omega), c]
           rfl
         · rw [decide_eq_false (show ¬ S * S = X by omega), decide_eq_true c]
           rfl)
       have HT2 := Lib.hid hT
       have hrem : Int.tmod e 2 = Int.tmod e 2 := by rfl
       have hrem2 : (Int.tmod e 2 == 0) = false := by
         have : Int.tmod e 2 ≠ 0 := fun c => hpar ((tmod_two e).1 c)
         simpa using this
       have HW2 : Hid (IntKind.i64.wrap (e - 141) = e - 141) := Lib.hid (IntWalk.i64_in _ (by omega))
       have HQ : Hid (Int.tdiv (e - 141) 2 = f) := Lib.hid (by rw [← hf]; exact Int.mul_tdiv_cancel_left _ (by decide))
       have HW3 : Hid (IntKind.i64.wrap (f - 1) = f - 1) := Lib.hid (IntWalk.i64_in _ (by omega))
       have HW4 : Hid (IntKind.i64.wrap f = f) := Lib.hid (IntWalk.i64_in _ (by omega))
       clear HKEY hk hP hPn hX hS hd hb hT hf hrem; have xX6 := X6.cell; have xX7 := X7.cell
       go_upto_region 11 with (fail)
       go_wp2_with fail
       refine (rShlN (z := 141) ra (by omega) (by decide) (by decide) HX2.out).mono ?_; rintro ee w6 ⟨A3, n3, c3, rfl, p3, k3, B⟩; clear xX6 xX7; replace XR := XR.below B; replace X6 := X6.below B; replace X7 := X7.below B; replace ra := ra.below B; replace HB := Hqb HB B; clear B; clear ra
       have hn3 : n3 ≤ 100 := by
         have : (141 : Int).toNat / 32 = 4 := rfl
         omega
       go_wp2_with fail
       refine (rRoot p3.rd (by omega) HS.out HBB.out).mono ?_; rintro ee w7 ⟨A4, n4, c4, rfl, p4, k4, B⟩; replace XR := XR.below B; replace X6 := X6.below B; replace X7 := X7.below B; replace p3 := p3.below B; replace HB := Hqb HB B; clear B; clear p3
       go_wp2_with fail
       refine (jSticky (d := d) (cut := !b) p4.rd (by omega) HCT.out HT2.out).mono ?_; rintro ee w8 ⟨A5, n5, c5, rfl, p5, k5, B⟩; replace XR := XR.below B; replace X6 := X6.below B; replace X7 := X7.below B; replace p4 := p4.below B; replace HB := Hqb HB B; clear B; clear p4
       go_wp2_with fail
       refine (qMake false p5.rd).mono ?_; rintro ee w9 ⟨s6, A6, n6, c6, rfl, p6, k6, B⟩; replace XR := XR.below B; replace X6 := X6.below B; replace X7 := X7.below B; replace p5 := p5.below B; replace HB := Hqb HB B; clear B; clear p5; have hw2 := HW2.out; have hq := HQ.out; have hw3 := HW3.out; have hw4 := HW4.out
       go_wp2_with fail
       refine (q3Make p6.wr (by omega) HP1.out HP2.out).mono ?_; rintro ee wA ⟨s8, A8, n8, c8, rfl, p8, k8, B⟩; replace XR := XR.below B; replace X6 := X6.below B; replace X7 := X7.below B; replace p6 := p6.below B; replace HB := Hqb HB B; clear B; clear p6 hw2 hq hw3 hw4
       go_wp2_with fail
       refine (yRound p8.wr (by omega) rfl rfl HRR.out).mono ?_; rintro ee wB ⟨K9, s9, M9, E9, rfl, q9, B⟩; replace XR := XR.below B; replace X6 := X6.below B; replace X7 := X7.below B; replace p8 := p8.below B; replace HB := Hqb HB B; clear B; have xXR := XR.cell; have zXR0 := XR.frozen; go_wp2; clear xXR zXR0; have SX := StN.mk4 XR (.int .i64 K9) (.bool s9) (.int .u64 M9) (.int .i64 E9)
       exact bodyPost_ret (v := .tuple #[.agg #[.int .i64 K9, .bool s9, .int .u64 M9, .int .i64 E9], .bool true]) (by simp [results, Tryz.results80, go_sem, SX.box.cell]) rfl ⟨_, _, _, _, rfl, q9, (SX.below HB.out (by omega))⟩
theorem root_pre {up : Bool} {M1 E1 x r : Int} {α : Nat} (q1 : Fq 1 false M1 E1 x) (ha : (α : Int) = M1) (hr : Rt up (vr x * 2 ^ KK) r) :
   ∃ P : Bool → Bool → Int → Prop, (∀ up r', Rt up ((α : Int) * 2 ^ (E1 + 2 * (KK : Int)).toNat) r' → P false up r') ∧ (∀ up r', P true up r') ∧ (∀ r', P false up r' → r' = r) := by
 refine ⟨fun σ up r' => σ = false → Rt up ((α : Int) * 2 ^ (E1 + 2 * (KK : Int)).toNat) r', fun _ _ h _ => h, fun _ _ h => absurd h (by decide), fun r' h => ?_⟩
 have e0 : E1 + ((0 : Nat) : Int) + 2 * (KK : Int) = E1 + 2 * (KK : Int) := by omega
 exact (root_fin (v := 0) q1 (by rw [← ha]; exact (Int.mul_one _).symm) (by decide) (by rw [e0]; exact h rfl)).uniq hr
theorem kRoot {w : World} {D M E : Int} {s : Bool} {up t : Bool} {x r : Int} (hT : Tab w) (hM : LQ M) (hx : rk D s M E = x) (hr : Ro up x r t) : Calls Tryz.prog 78 #[VQ D s M E, .bool up] w (PNB w r t) := by
 delta VQ
 obtain ⟨K1, s1, M1, E1, q1⟩ := fq_tk7 (D := D) (s := s) (M := M) (E := E) hM; rw [hx] at q1; have HX := Lib.hid hx; clear hx
 go_enter Tryz.func78, Tryz.ntmps78
 go_upto_region 1 with (fail)
 generalize hW1 : (w.alloc _).alloc _ = w1 at *; obtain ⟨X2, XR, HB⟩ := Bo.en2 hW1; replace hT := hT.below HB.out; clear hW1; have xX2 := X2.cell
 go_wp2_with fail
 refine (qTaken hM q1 HX.out).mono ?_; rintro ee w2 ⟨rfl, B⟩; clear xX2; replace X2 := X2.below B; replace XR := XR.below B; replace hT := hT.below B; replace HB := Hqb HB B; clear B; have xX2 := X2.cell; have zX20 := X2.frozen
 go_upto_region 2 with (fail)
 clear xX2 zX20; generalize hS : (((w2.setCell _ _).setCell _ _).setCell _ _).setCell _ _ = w3 at *; have SX := StN.of4 X2 hS; replace XR := XR.stn SX (by omega); replace hT := hT.stn SX (by simp [no8]); replace HB := Hqs HB SX (by omega); replace X2 := SX.box; clear SX hS; clear HX hM; have i1 := fq_inf q1; have z1 := q1.zero_iff
 have kk1 : K1 = 2 ∨ K1 = 0 ∨ K1 = 1 := by rcases q1.cases with ⟨h, _⟩ | ⟨h, _⟩ | ⟨h, _⟩ <;> omega
 have hsx : K1 ≠ 0 → decide (x < 0) = s1 := fun h0 => by
   rcases q1.three with ⟨a, _⟩ | ⟨_, rfl, b⟩ | ⟨_, rfl, b⟩
   · exact absurd a h0
   · exact decide_eq_false (by omega)
   · exact decide_eq_true b
 rcases kk1 with rfl | rfl | rfl
 · by_cases hs : s1 = true
   · subst hs
     have hx0 : x < 0 := of_decide_eq_true (hsx (by decide))
     obtain ⟨rfl, rfl⟩ := (ro_neg hx0).1 hr; clear hr hx0 i1 z1 hsx q1 hT; have xXR := XR.cell; have zXR0 := XR.frozen; have xX2 := X2.cell; go_wp2; clear xXR zXR0 xX2; have SX := StN.mk4 XR (.int .i64 0) (.bool false) (.int .u64 0) (.int .i64 0); exact bodyPost_ret (v := .tuple #[.agg #[.int .i64 0, .bool false, .int .u64 0, .int .i64 0], .bool false]) (by simp [results, Tryz.results78, go_sem, SX.box.cell]) rfl ⟨_, _, _, _, rfl, Fq.nought, (SX.below HB.out (by omega))⟩
   · have hs : s1 = false := by simpa using hs
     subst hs
     have hx0 : ¬ x < 0 := of_decide_eq_false (hsx (by decide))
     have hx1 : x = 0 ∨ infp x = true := .inr i1
     obtain ⟨rfl, rfl⟩ := (ro_it hx0 hx1).1 hr; clear hr hx0 hx1 i1 z1 hsx hT; have xXR := XR.cell; have zXR0 := XR.frozen; have xX2 := X2.cell; go_wp2; clear xXR zXR0 xX2; have SX := StN.mk4 XR (.int .i64 2) (.bool false) (.int .u64 M1) (.int .i64 E1); exact bodyPost_ret (v := .tuple #[.agg #[.int .i64 2, .bool false, .int .u64 M1, .int .i64 E1], .bool true]) (by simp [results, Tryz.results78, go_sem, SX.box.cell]) rfl ⟨_, _, _, _, rfl, q1, (SX.below HB.out (by omega))⟩
 · have hs0 : s1 = false := by
     rcases q1.cases with ⟨_, c, _⟩ | ⟨c, _⟩ | ⟨c, _⟩
     · exact c
     · exact absurd c (by decide)
     · exact absurd c (by decide)
   subst hs0
   have hx0 : ¬ x < 0 := by have := z1.1 rfl; omega
   have hx1 : x = 0 ∨ infp x = true := .inl (z1.1 rfl)
   obtain ⟨rfl, rfl⟩ := (ro_it hx0 hx1).1 hr; clear hr hx0 hx1 i1 z1 hsx hT; have xXR := XR.cell; have zXR0 := XR.frozen; have xX2 := X2.cell; go_wp2; clear xXR zXR0 xX2; have SX := StN.mk4 XR (.int .i64 0) (.bool false) (.int .u64 M1) (.int .i64 E1); exact bodyPost_ret (v := .tuple #[.agg #[.int .i64 0, .bool false, .int .u64 M1, .int .i64 E1], .bool true]) (by simp [results, Tryz.results78, go_sem, SX.box.cell]) rfl ⟨_, _, _, _, rfl, q1, (SX.below HB.out (by omega))⟩
 · by_cases hs : s1 = true
   · subst hs
     have hx0 : x < 0 := of_decide_eq_true (hsx (by decide))
     obtain ⟨rfl, rfl⟩ := (ro_neg hx0).1 hr; clear hr hx0 i1 z1 hsx q1 hT; have xXR := XR.cell; have zXR0 := XR.frozen; have xX2 := X2.cell; go_wp2; clear xXR zXR0 xX2; have SX := StN.mk4 XR (.int .i64 0) (.bool false) (.int .u64 0) (.int .i64 0); exact bodyPost_ret (v := .tuple #[.agg #[.int .i64 0, .bool false, .int .u64 0, .int .i64 0], .bool false]) (by simp [results, Tryz.results78, go_sem, SX.box.cell]) rfl ⟨_, _, _, _, rfl, Fq.nought, (SX.below HB.out (by omega))⟩
   · have hs : s1 = false := by simpa using hs
     subst hs
     have hx0 : ¬ x < 0 := of_decide_eq_false (hsx (by decide))
     have hx1 : ¬ (x = 0 ∨ infp x = true) := by
       rw [i1]; rintro (c | c)
       · exact absurd (z1.2 c) (by decide)
       · exact absurd c (by decide)
     obtain ⟨hr2, ht⟩ := (ro_fin hx0 hx1).1 hr; subst ht; obtain ⟨a1, a2, a3, a4, _⟩ := fq_vr q1; obtain ⟨α, hα⟩ : ∃ α : Nat, (α : Int) = M1 := ⟨M1.toNat, by omega⟩
     have α1 : 9223372036854775808 ≤ α := by omega
     have α2 : α < 18446744073709551616 := by omega
     obtain ⟨P, hP, hPt, hPr⟩ := root_pre q1 hα hr2
     have eb1 : -2200000 ≤ E1 := by omega
     have eb2 : E1 ≤ 2200000 := by omega
     have HPP := Lib.hid hP; have HPT := Lib.hid hPt; have HPR := Lib.hid hPr; have HA := Lib.hid hα; clear hr hr2 hx0 hx1 i1 z1 hsx a1 a2 a3 a4 hα hP hPt hPr q1; have xX2 := X2.cell
     go_upto_region 6 with (fail)
     clear xX2; refine Jo.rk [0, 1, 2, 3, 4, 5, 6, 7] [some 17, some 18, some 19, some 20, some 21, some 22, some 23, some 24, none, some 5] [[], [0], [1], [], [3], [2, 4], [], [5, 6], [], []] 10 2 [Jo.qp w.heap.size 2, Jo.Fact.eq (.int .u64 M1), Jo.Fact.rd α 2, Jo.qp w.heap.size 3, Jo.qi E1, Jo.Fact.pk P, Jo.qb up, Jo.Fact.num r, Jo.Fact.any, Jo.Fact.any] (by kernel_rfl) (by kernel_rfl) (by decide) rfl ?_ ?_
     · refine Jo.jm rfl ?_ ?_; rotate_left
       refine Jo.jm rfl ?_ ?_
       · rintro wj hJ _ rfl K hK; simp only [Jo.z] at hK ⊢; have xX22 := (X2.below hJ).a 2 (.int .u64 M1) rfl; go_simp; exact hK.out _ _ rfl (br _ _)
       refine Jo.jm rfl ?_ ?_
       · rintro wj hJ _ rfl K hK; simp only [Jo.z] at hK ⊢; go_simp; refine (qLimbs HA.out α2).mono ?_; rintro ee wk ⟨A2, rfl, p2, B⟩; exact hK.out _ _ ⟨A2, 2, 2, rfl, p2, Nat.le_refl _⟩ B
       refine Jo.jm rfl ?_ ?_; rotate_left
       refine Jo.jm rfl ?_ ?_
       · rintro wj hJ _ rfl K hK; simp only [Jo.z] at hK ⊢; have xX23 := (X2.below hJ).a 3 (.int .i64 E1) rfl; go_simp; exact hK.out _ _ rfl (br _ _)
       refine Jo.jm rfl ?_ ?_
       · rintro wj hJ _ ⟨A2, n2, c2, rfl, p2, k2⟩ _ rfl K hK; simp only [Jo.z] at hK ⊢; go_simp; refine (qRoot0 p2 (by omega) α1 α2 eb1 eb2 HPP.out HPT.out).mono ?_; rintro ee wk ⟨A7, n7, c7, t7, x7, rfl, p7, B⟩; exact hK.out _ _ ⟨A7, n7, c7, t7, x7, rfl, p7⟩ B
       refine Jo.jm rfl ?_ ?_; rotate_left
       refine Jo.jm rfl ?_ ?_
       · rintro wj hJ _ ⟨A7, n7, c7, t7, x7, rfl, p7⟩ _ rfl K hK; simp only [Jo.z] at hK ⊢; go_simp; refine (qRound (hT.below hJ) p7 HPR.out).mono ?_; rintro ee wk ⟨K9, s9, M9, E9, rfl, q9, B⟩; exact hK.out _ _ ⟨K9, s9, M9, E9, rfl, q9⟩ B
       exact Jo.Steps.nil
       all_goals (rintro wj hJ; (repeat rintro _ rfl); intro K hK; simp only [Jo.z] at hK ⊢; go_simp; exact hK.out _ _ rfl (br _ _))
     rintro w8 hJ _ _ _ rfl _ ⟨_, _, _, rfl, _⟩ _ _ _ rfl _ ⟨_, _, _, _, _, rfl, _⟩ _ rfl _ ⟨K9, s9, M9, E9, rfl, q9⟩ -; simp only [Jo.z]; replace X2 := X2.below hJ; replace XR := XR.below hJ; replace hT := hT.below hJ; replace HB := Hqb HB hJ; have xXR := XR.cell; have zXR0 := XR.frozen
     refine Jo.jnext (i := 8) (o := ⟨none, _, _, _, _, _⟩) (by kernel_rfl) rfl (fun K hK => ?_)
     go_simp; refine hK.out _ _ ?_; clear hK K xXR zXR0; generalize hS : (((w8.setCell _ _).setCell _ _).setCell _ _).setCell _ _ = w9 at *; have SX := StN.of4 XR hS; replace X2 := X2.stn SX (by omega); replace HB := Hqs HB SX (by omega); replace XR := SX.box; clear SX hS
     refine Jo.jnext (i := 9) (o := ⟨some 5, _, _, _, _, _⟩) (by kernel_rfl) rfl (fun K hK => ?_)
     go_simp; refine hK.out _ _ ?_; clear hK K; refine Jo.jdone (by kernel_rfl) ?_; go_wp2; exact bodyPost_ret (v := .tuple #[.agg #[.int .i64 K9, .bool s9, .int .u64 M9, .int .i64 E9], .bool true]) (by simp [results, Tryz.results78, go_sem, XR.cell]) rfl ⟨_, _, _, _, rfl, q9, HB.out⟩
def absI (x : Sp) : Sp := match x with
 | none => none
 | some (a, b) => if 0 ≤ a then some (a, b) else if b ≤ 0 then negI (some (a, b)) else mkI 0 (max b (-a))
def sqrI (x : Sp) : Sp := match absI x with
 | none => none
 | some (a, b) => mkI (mulp false a a) (mulp true b b)
def rootI (r : Bool → Int → Int) (x : Sp) : Sp := match meetI x (some (0, 19342822337206103650074625)) with
 | none => none
 | some (a, b) => mkI (r false a) (r true b)
def RF (r : Bool → Int → Int) : Prop := ∀ up x, 0 ≤ x → Ro up x (r up x) true
theorem rt_ex9 (up : Bool) {X : Int} (hX : 0 < X) : ∃ r, Rt up X r := by
 obtain ⟨n, hn⟩ : ∃ n : Nat, (n : Int) = 19342822337206103650074625 := ⟨19342822337206103650074625, rfl⟩
 obtain ⟨k, hk, a, b⟩ := last_yes (fun k => (k : Int) ≤ 19342822337206103650074624 ∧ vr (k : Int) * vr (k : Int) ≤ X) ⟨by decide, by rw [show vr ((0 : Nat) : Int) = 0 from rfl]; omega⟩ n (by omega)
 have b' : (k : Int) < 19342822337206103650074624 → X < vr ((k : Int) + 1) * vr ((k : Int) + 1) := fun c => by
   have d : ¬ vr ((k + 1 : Nat) : Int) * vr ((k + 1 : Nat) : Int) ≤ X := fun d => b ⟨by omega, d⟩
   rw [show ((k + 1 : Nat) : Int) = (k : Int) + 1 by omega] at d
   omega
 cases up
 · exact ⟨k, rt_f.2 ⟨by omega, a.1, a.2, b'⟩⟩
 · by_cases e : vr (k : Int) * vr (k : Int) = X
   · have k0 : 0 < (k : Int) := by
       rcases Int.lt_or_le 0 (k : Int) with q | q
       · exact q
       · exfalso
         rw [show (k : Int) = 0 by omega, show vr 0 = 0 from rfl] at e
         omega
     have s := sq_lt (vr_nn (x := (k : Int) - 1) (by omega)) (vr_lt (show (k : Int) - 1 < k by omega))
     exact ⟨k, rt_t.2 ⟨k0, by omega, fun _ => by omega, by omega⟩⟩
   · refine ⟨(k : Int) + 1, rt_t.2 ⟨by omega, by omega, fun c => Int.le_of_lt (b' (by omega)), ?_⟩⟩
     rw [show (k : Int) + 1 - 1 = k by omega]
     omega
theorem ro_ex9 (up : Bool) (x : Int) (h : 0 ≤ x) : ∃ r, Ro up x r true := by
 by_cases c2 : x = 0 ∨ infp x = true
 · exact ⟨x, (ro_it (by omega) c2).2 ⟨rfl, rfl⟩⟩
 · obtain ⟨r, hr⟩ := rt_ex9 up (Int.mul_pos (vr_pos (show 0 < x by omega)) (p2pos KK))
   exact ⟨r, (ro_fin (by omega) c2).2 ⟨hr, rfl⟩⟩
theorem rf_ex : ∃ r, RF r := by
 have h : ∀ p : Bool × Int, ∃ r, 0 ≤ p.2 → Ro p.1 p.2 r true := fun p => by
   by_cases c : 0 ≤ p.2
   · obtain ⟨r, hr⟩ := ro_ex9 p.1 p.2 c
     exact ⟨r, fun _ => hr⟩
   · exact ⟨0, fun e => absurd e c⟩
 exact ⟨fun up x => Classical.choose (h (up, x)), fun up x => Classical.choose_spec (h (up, x))⟩
theorem Rt.mono9 {up : Bool} {X Y r t : Int} (h : Rt up X r) (k : Rt up Y t) (hXY : X ≤ Y) : r ≤ t := by
 rcases Int.lt_or_le t r with c | c
 · exfalso
   cases up
   · obtain ⟨h1, h2, h3, h4⟩ := rt_f.1 h; obtain ⟨k1, k2, k3, k4⟩ := rt_f.1 k; have a := k4 (by omega); have b := vr_sq (r := t + 1) (t := r) (by omega) (by omega)
     omega
   · obtain ⟨h1, h2, h3, h4⟩ := rt_t.1 h; obtain ⟨k1, k2, k3, k4⟩ := rt_t.1 k; have a := k3 (by omega); have b := vr_sq (r := t) (t := r - 1) (by omega) (by omega)
     omega
 · exact c
theorem infp_top : infp 19342822337206103650074625 = true := by decide
section
variable {r : Bool → Int → Int}
theorem RF.zero (hr : RF r) (up : Bool) : r up 0 = 0 := ((ro_it (by decide) (.inl rfl)).1 (hr up 0 (by decide))).1
theorem RF.top (hr : RF r) (up : Bool) : r up 19342822337206103650074625 = 19342822337206103650074625 := ((ro_it (by decide) (.inr infp_top)).1 (hr up _ (by decide))).1
theorem RF.fin (hr : RF r) (up : Bool) {x : Int} (h0 : 0 < x) (h1 : x < 19342822337206103650074625) : Rt up (vr x * 2 ^ KK) (r up x) :=
 ((ro_fin (by omega) (by rw [infp_fin (by omega) h1]; simp; omega)).1 (hr up x (by omega))).1
theorem RF.in (hr : RF r) (up : Bool) {x : Int} (h0 : 0 ≤ x) (h1 : x ≤ 19342822337206103650074625) : 0 ≤ r up x ∧ r up x ≤ 19342822337206103650074625 := by
 by_cases c : x = 0
 · subst c; rw [hr.zero]
   decide
 · by_cases d : x = 19342822337206103650074625
   · subst d; rw [hr.top]
     decide
   · have := hr.fin up (x := x) (by omega) (by omega)
     cases up
     · have := rt_f.1 this
       omega
     · have := rt_t.1 this
       omega
theorem RF.mono (hr : RF r) (up : Bool) {x y : Int} (h0 : 0 ≤ x) (h : x ≤ y) (h1 : y ≤ 19342822337206103650074625) : r up x ≤ r up y := by
 have X := hr.in up h0 (by omega)
 have Y := hr.in up (show 0 ≤ y by omega) h1
 by_cases c : x = 0
 · subst c; rw [hr.zero]
   omega
 · by_cases d : y = 19342822337206103650074625
   · subst d; rw [hr.top]
     omega
   · exact (hr.fin up (by omega) (by omega)).mono9 (hr.fin up (by omega) (by omega)) (Int.mul_le_mul_of_nonneg_right (vr_le h) (Int.le_of_lt (p2pos KK)))
end
section
variable {r : Bool → Int → Int}
end
theorem In.fin {x : Int} (h1 : -19342822337206103650074625 < x) (h2 : x < 19342822337206103650074625) : In x := ⟨by omega, by omega⟩
def Zi (a b : Int) : Sp := some (opl a, opl b)
theorem opl_le {a b : Int} (h1 : -9223372036854775808 ≤ a) (h : a ≤ b) (h2 : b ≤ 9223372036854775807) : opl a ≤ opl b := by
 have c := opl_cmp (a := a) (b := b) h1 (by omega) (by omega) h2
 rcases cmpI_tri (opl a) (opl b) with ⟨p, e⟩ | ⟨p, e⟩ | ⟨p, e⟩
 · omega
 · omega
 · rw [e] at c
   rcases cmpI_tri a b with ⟨s, f⟩ | ⟨s, f⟩ | ⟨s, f⟩ <;> omega
theorem opl_fin {a : Int} (h1 : -9223372036854775807 ≤ a) (h2 : a ≤ 9223372036854775807) : -19342822337206103650074625 < opl a ∧ opl a < 19342822337206103650074625 := by
 rcases Int.lt_or_le 0 a with c | c
 · have := opl_pos c h2
   omega
 · by_cases d : a = 0
   · subst d
     decide
   · have := opl_pos (n := -a) (by omega) (by omega)
     rw [opl_neg] at this
     omega
theorem opl_min {a b : Int} (h1 : -9223372036854775808 ≤ a) (h2 : a ≤ 9223372036854775807) (h3 : -9223372036854775808 ≤ b) (h4 : b ≤ 9223372036854775807) : min (opl a) (opl b) = opl (min a b) ∧ max (opl a) (opl b) = opl (max a b) := by
 rcases Int.lt_or_le b a with c | c
 · have := opl_le h3 (show b ≤ a by omega) h2
   rw [show min a b = b by omega, show max a b = a by omega]
   omega
 · have := opl_le h1 c h4
   rw [show min a b = a by omega, show max a b = b by omega]
   omega
theorem Zi.mk {a b : Int} (h1 : -9223372036854775807 ≤ a) (h : a ≤ b) (h2 : b ≤ 9223372036854775807) : mkI (opl a) (opl b) = Zi a b ∧ SpOk (Zi a b) := by
 have A := opl_fin h1 (show a ≤ 9223372036854775807 by omega)
 have B := opl_fin (show -9223372036854775807 ≤ b by omega) h2
 have C := opl_le (by omega) h h2; exact ⟨mkI_some C A.2 B.1, ⟨by omega, C, by omega, A.2, B.1⟩⟩
theorem opl_add {a b : Int} (up : Bool) (h1 : -1000000000000000000 ≤ a) (h2 : a ≤ 1000000000000000000) (h3 : -1000000000000000000 ≤ b) (h4 : b ≤ 1000000000000000000) : addp up (opl a) (opl b) = opl (a + b) := by
 obtain ⟨a1, a2⟩ := opl_fin (a := a) (by omega) (by omega); obtain ⟨b1, b2⟩ := opl_fin (a := b) (by omega) (by omega); obtain ⟨c1, c2⟩ := opl_fin (a := a + b) (by omega) (by omega); rw [addp_ff up (infp_fin a1 a2) (infp_fin b1 b2)]; obtain ⟨nf, v⟩ := sum_spec a1 a2 b1 b2; refine rnd_exact nf up c1 c2 ?_; rw [v, opl_vr (by omega) (by omega), opl_vr (by omega) (by omega), opl_vr (by omega) (by omega), Int.add_mul]
theorem opl_nz {a : Int} (h : a ≠ 0) (h1 : -9223372036854775807 ≤ a) (h2 : a ≤ 9223372036854775807) : opl a ≠ 0 := by
 rcases Int.lt_or_le 0 a with c | c
 · have := opl_pos c h2
   omega
 · have := opl_pos (n := -a) (by omega) (by omega)
   rw [opl_neg] at this
   omega
theorem Zi.add {a b c d : Int} (h1 : -100000000000000000 ≤ a) (h : a ≤ b) (h2 : b ≤ 100000000000000000) (k1 : -100000000000000000 ≤ c) (k : c ≤ d) (k2 : d ≤ 100000000000000000) : addI (Zi a b) (Zi c d) = Zi (a + c) (b + d) := by
 show mkI _ _ = _
 rw [opl_add false (by omega) (by omega) (by omega) (by omega), opl_add true (by omega) (by omega) (by omega) (by omega)]; exact (Zi.mk (by omega) (by omega) (by omega)).1
theorem Zi.neg {a b : Int} (h1 : -100000000000000000 ≤ a) (h : a ≤ b) (h2 : b ≤ 100000000000000000) : negI (Zi a b) = Zi (-b) (-a) := by
 show mkI _ _ = _
 rw [← opl_neg, ← opl_neg]; exact (Zi.mk (by omega) (by omega) (by omega)).1
def sqrB (r : Bool → Int → Int) (z x : Sp) : Sp := hullI (meetI x (rootI r z)) (meetI x (negI (rootI r z)))
def rootB (z x : Sp) : Sp := meetI x (sqrI (meetI z (some (0, 19342822337206103650074625))))
section
variable {q : Bool → Int → Int → Int} {r : Bool → Int → Int} {x y z : Sp}
end
section
variable {q : Bool → Int → Int → Int} {r : Bool → Int → Int} {x y z : Sp} {m n : Int}
end
theorem opl_inj {a b : Int} (h1 : -9223372036854775807 ≤ a) (h2 : a ≤ 9223372036854775807) (k1 : -9223372036854775807 ≤ b) (k2 : b ≤ 9223372036854775807) (h : opl a = opl b) : a = b := by
 have c := opl_cmp (a := a) (b := b) (by omega) (by omega) (by omega) (by omega); rw [h] at c
 rcases cmpI_tri a b with ⟨p, e⟩ | ⟨p, e⟩ | ⟨p, e⟩
 · rw [e] at c
   rcases cmpI_tri (opl b) (opl b) with ⟨p, e⟩ | ⟨p, e⟩ | ⟨p, e⟩ <;> omega
 · exact p
 · rw [e] at c
   rcases cmpI_tri (opl b) (opl b) with ⟨p, e⟩ | ⟨p, e⟩ | ⟨p, e⟩ <;> omega
theorem StN.mk10 {w : World} {g : Nat} {T : TypeId} {a0 a1 a2 a3 a4 a5 a6 a7 a8 a9 : Value} (X : Bo w g #[a0, a1, a2, a3, a4, a5, a6, a7, a8, a9] T) (v0 v1 v2 v3 v4 v5 v6 v7 v8 v9 : Value) :
   StN w ((((((((((w.setCell ⟨g, 0, none⟩ v0).setCell ⟨g, 1, none⟩ v1).setCell ⟨g, 2, none⟩ v2).setCell ⟨g, 3, none⟩ v3).setCell ⟨g, 4, none⟩ v4).setCell ⟨g, 5, none⟩ v5).setCell ⟨g, 6, none⟩ v6).setCell ⟨g, 7, none⟩ v7).setCell ⟨g, 8, none⟩ v8).setCell ⟨g, 9, none⟩ v9) g #[a0, a1, a2, a3, a4, a5, a6, a7, a8, a9] #[v0, v1, v2, v3, v4, v5, v6, v7, v8, v9] T := by
 have t0 : StN w (w.setCell ⟨g, 0, none⟩ v0) g #[a0, a1, a2, a3, a4, a5, a6, a7, a8, a9] #[v0, a1, a2, a3, a4, a5, a6, a7, a8, a9] T := StN.at4 X 0 v0
 have s0 := t0
 have t1 : StN (w.setCell ⟨g, 0, none⟩ v0) ((w.setCell ⟨g, 0, none⟩ v0).setCell ⟨g, 1, none⟩ v1) g #[v0, a1, a2, a3, a4, a5, a6, a7, a8, a9] #[v0, v1, a2, a3, a4, a5, a6, a7, a8, a9] T := StN.at4 s0.box 1 v1
 have s1 := s0.trans t1
 have t2 : StN ((w.setCell ⟨g, 0, none⟩ v0).setCell ⟨g, 1, none⟩ v1) (((w.setCell ⟨g, 0, none⟩ v0).setCell ⟨g, 1, none⟩ v1).setCell ⟨g, 2, none⟩ v2) g #[v0, v1, a2, a3, a4, a5, a6, a7, a8, a9] #[v0, v1, v2, a3, a4, a5, a6, a7, a8, a9] T := StN.at4 s1.box 2 v2
 have s2 := s1.trans t2
 have t3 : StN (((w.setCell ⟨g, 0, none⟩ v0).setCell ⟨g, 1, none⟩ v1).setCell ⟨g, 2, none⟩ v2) ((((w.setCell ⟨g, 0, none⟩ v0).setCell ⟨g, 1, none⟩ v1).setCell ⟨g, 2, none⟩ v2).setCell ⟨g, 3, none⟩ v3) g #[v0, v1, v2, a3, a4, a5, a6, a7, a8, a9] #[v0, v1, v2, v3, a4, a5, a6, a7, a8, a9] T := StN.at4 s2.box 3 v3
 have s3 := s2.trans t3
 have t4 : StN ((((w.setCell ⟨g, 0, none⟩ v0).setCell ⟨g, 1, none⟩ v1).setCell ⟨g, 2, none⟩ v2).setCell ⟨g, 3, none⟩ v3) (((((w.setCell ⟨g, 0, none⟩ v0).setCell ⟨g, 1, none⟩ v1).setCell ⟨g, 2, none⟩ v2).setCell ⟨g, 3, none⟩ v3).setCell ⟨g, 4, none⟩ v4) g #[v0, v1, v2, v3, a4, a5, a6, a7, a8, a9] #[v0, v1, v2, v3, v4, a5, a6, a7, a8, a9] T := StN.at4 s3.box 4 v4
 have s4 := s3.trans t4
 have t5 : StN (((((w.setCell ⟨g, 0, none⟩ v0).setCell ⟨g, 1, none⟩ v1).setCell ⟨g, 2, none⟩ v2).setCell ⟨g, 3, none⟩ v3).setCell ⟨g, 4, none⟩ v4) ((((((w.setCell ⟨g, 0, none⟩ v0).setCell ⟨g, 1, none⟩ v1).setCell ⟨g, 2, none⟩ v2).setCell ⟨g, 3, none⟩ v3).setCell ⟨g, 4, none⟩ v4).setCell ⟨g, 5, none⟩ v5) g #[v0, v1, v2, v3, v4, a5, a6, a7, a8, a9] #[v0, v1, v2, v3, v4, v5, a6, a7, a8, a9] T := StN.at4 s4.box 5 v5
 have s5 := s4.trans t5
 have t6 : StN ((((((w.setCell ⟨g, 0, none⟩ v0).setCell ⟨g, 1, none⟩ v1).setCell ⟨g, 2, none⟩ v2).setCell ⟨g, 3, none⟩ v3).setCell ⟨g, 4, none⟩ v4).setCell ⟨g, 5, none⟩ v5) (((((((w.setCell ⟨g, 0, none⟩ v0).setCell ⟨g, 1, none⟩ v1).setCell ⟨g, 2, none⟩ v2).setCell ⟨g, 3, none⟩ v3).setCell ⟨g, 4, none⟩ v4).setCell ⟨g, 5, none⟩ v5).setCell ⟨g, 6, none⟩ v6) g #[v0, v1, v2, v3, v4, v5, a6, a7, a8, a9] #[v0, v1, v2, v3, v4, v5, v6, a7, a8, a9] T := StN.at4 s5.box 6 v6
 have s6 := s5.trans t6
 have t7 : StN (((((((w.setCell ⟨g, 0, none⟩ v0).setCell ⟨g, 1, none⟩ v1).setCell ⟨g, 2, none⟩ v2).setCell ⟨g, 3, none⟩ v3).setCell ⟨g, 4, none⟩ v4).setCell ⟨g, 5, none⟩ v5).setCell ⟨g, 6, none⟩ v6) ((((((((w.setCell ⟨g, 0, none⟩ v0).setCell ⟨g, 1, none⟩ v1).setCell ⟨g, 2, none⟩ v2).setCell ⟨g, 3, none⟩ v3).setCell ⟨g, 4, none⟩ v4).setCell ⟨g, 5, none⟩ v5).setCell ⟨g, 6, none⟩ v6).setCell ⟨g, 7, none⟩ v7) g #[v0, v1, v2, v3, v4, v5, v6, a7, a8, a9] #[v0, v1, v2, v3, v4, v5, v6, v7, a8, a9] T := StN.at4 s6.box 7 v7
 have s7 := s6.trans t7
 have t8 : StN ((((((((w.setCell ⟨g, 0, none⟩ v0).setCell ⟨g, 1, none⟩ v1).setCell ⟨g, 2, none⟩ v2).setCell ⟨g, 3, none⟩ v3).setCell ⟨g, 4, none⟩ v4).setCell ⟨g, 5, none⟩ v5).setCell ⟨g, 6, none⟩ v6).setCell ⟨g, 7, none⟩ v7) (((((((((w.setCell ⟨g, 0, none⟩ v0).setCell ⟨g, 1, none⟩ v1).setCell ⟨g, 2, none⟩ v2).setCell ⟨g, 3, none⟩ v3).setCell ⟨g, 4, none⟩ v4).setCell ⟨g, 5, none⟩ v5).setCell ⟨g, 6, none⟩ v6).setCell ⟨g, 7, none⟩ v7).setCell ⟨g, 8, none⟩ v8) g #[v0, v1, v2, v3, v4, v5, v6, v7, a8, a9] #[v0, v1, v2, v3, v4, v5, v6, v7, v8, a9] T := StN.at4 s7.box 8 v8
 have s8 := s7.trans t8
 have t9 : StN (((((((((w.setCell ⟨g, 0, none⟩ v0).setCell ⟨g, 1, none⟩ v1).setCell ⟨g, 2, none⟩ v2).setCell ⟨g, 3, none⟩ v3).setCell ⟨g, 4, none⟩ v4).setCell ⟨g, 5, none⟩ v5).setCell ⟨g, 6, none⟩ v6).setCell ⟨g, 7, none⟩ v7).setCell ⟨g, 8, none⟩ v8) ((((((((((w.setCell ⟨g, 0, none⟩ v0).setCell ⟨g, 1, none⟩ v1).setCell ⟨g, 2, none⟩ v2).setCell ⟨g, 3, none⟩ v3).setCell ⟨g, 4, none⟩ v4).setCell ⟨g, 5, none⟩ v5).setCell ⟨g, 6, none⟩ v6).setCell ⟨g, 7, none⟩ v7).setCell ⟨g, 8, none⟩ v8).setCell ⟨g, 9, none⟩ v9) g #[v0, v1, v2, v3, v4, v5, v6, v7, v8, a9] #[v0, v1, v2, v3, v4, v5, v6, v7, v8, v9] T := StN.at4 s8.box 9 v9
 have s9 := s8.trans t9; exact s9
theorem Tab.off {w w' : World} {g : Nat} {old new : Array Value} {R : TypeId} (h : Tab w) (X : Bo w g old R) (hn : old.all no8 = true) (O : Jo.Off g new R w w') : Tab w' := h.keep (O.block _ h.lt (fun e => by
 have h0 := h 0 (by decide); subst e; rw [X.cell] at h0; rw [Array.all_eq_true] at hn; obtain ⟨hlt, he⟩ := Array.getElem?_eq_some_iff.1 h0
 have := hn 0 hlt
 rw [he] at this
 cases this))
theorem meetTwo {x y a : Sp} (hx : SpOk x) (h : meetI x y = a) : meetL [x, y] = a := by
 show meetI (meetI allI x) y = a
 rw [meet_all hx]; exact h
theorem nOf0E {w : World} : Calls Tryz.prog 34 #[.int .i64 0] w (fun e w' => e = .returned (.agg #[.int .i64 0, .bool false, .int .u64 0, .int .i64 0]) ∧ Below w.heap.size w w') := by
 refine (nOf (r := 0) _ (by decide) (by decide) rfl).mono ?_; rintro ee w2 ⟨K1, s1, M1, E1, rfl, q1, B⟩; obtain ⟨rfl, rfl, rfl, rfl⟩ := q1.uniq Fq.nought; exact ⟨rfl, B⟩
theorem StN.of10 {w w1 : World} {g : Nat} {T : TypeId} {a0 a1 a2 a3 a4 a5 a6 a7 a8 a9 v0 v1 v2 v3 v4 v5 v6 v7 v8 v9 : Value} (X : Bo w g #[a0, a1, a2, a3, a4, a5, a6, a7, a8, a9] T) (h : ((((((((((w.setCell ⟨g, 0, none⟩ v0).setCell ⟨g, 1, none⟩ v1).setCell ⟨g, 2, none⟩ v2).setCell ⟨g, 3, none⟩ v3).setCell ⟨g, 4, none⟩ v4).setCell ⟨g, 5, none⟩ v5).setCell ⟨g, 6, none⟩ v6).setCell ⟨g, 7, none⟩ v7).setCell ⟨g, 8, none⟩ v8).setCell ⟨g, 9, none⟩ v9) = w1) : StN w w1 g #[a0, a1, a2, a3, a4, a5, a6, a7, a8, a9] #[v0, v1, v2, v3, v4, v5, v6, v7, v8, v9] T := h ▸ StN.mk10 X v0 v1 v2 v3 v4 v5 v6 v7 v8 v9
end Go.Proofs.YtnbliijpjcmbjaaGreatDoor

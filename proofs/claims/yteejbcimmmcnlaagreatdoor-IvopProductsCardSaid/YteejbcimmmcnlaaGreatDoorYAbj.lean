/-
  Contracts and words that the statement's proof rests on, several texts in one: Id, Ie.
-/
import Derived.Test.YteejbcimmmcnlaaGreatDoorYAan
import Derived.Test.YteejbcimmmcnlaaGreatDoorYAao
import Derived.Test.YteejbcimmmcnlaaGreatDoorYAar
import Derived.Test.YteejbcimmmcnlaaGreatDoorYAbb
import Derived.Test.YteejbcimmmcnlaaGreatDoorYAbi
/-
  What the document's sticky, ratio and Ratio of layer 7 do.
-/
namespace Go.Proofs.YteejbcimmmcnlaaGreatDoor
open Go.RowKit
set_option linter.unusedVariables false
set_option linter.unusedSimpArgs false
set_option maxRecDepth 100000

theorem lit_one (W : World) : Rd (W.alloc (.cells #[.int .u32 1] 72)) (some ⟨W.heap.size, 0, none⟩) 1 1 1 :=
  ⟨_, [1], (Own.new W [1]).all (Lim.cons (by decide) Lim.nil) (by simp) (Nat.le_refl _), by decide⟩
theorem stk_zero (q : Nat) : stk q 0 = q * 2 ^ (1 : Int).toNat := by
  unfold stk
  rw [if_pos rfl]
  show 2 * q + 0 = q * 2
  omega
theorem stk_one {q r : Nat} (h : r ≠ 0) : stk q r = q * 2 ^ (1 : Int).toNat + 1 := by
  unfold stk
  rw [if_neg h]
  show 2 * q + 1 = q * 2 + 1
  omega
theorem sg_sgi (s : Bool) (a : Nat) : sg s a = sgi s (a : Int) := by
  cases s
  · rw [sg_false, wsg_f]
  · rw [sg_true, wsg_t]
set_option maxHeartbeats 1000000 in
theorem jsticky_n {w : World} {A : Option Addr} {n c a r : Nat} (h : Rd w A n c a) (hn : n ≤ 100000) (hr : a * 2 ^ (1 : Int).toNat = r) : Calls Tryz.prog 112 #[.slice A n c, .bool false] w (P1 w (n + 5) r) := by
  have HR := Lib.hid hr; obtain ⟨d, hd⟩ : ∃ d, a * 2 ^ (1 : Int).toNat = d := ⟨_, rfl⟩; have HD := Lib.hid hd; rw [hd] at HR; clear hr hd
  go_enter Tryz.func112, Tryz.ntmps112
  go_wp2_with fail
  refine (rShlN (z := 1) h (by omega) (by decide) (by decide) HD.out).mono ?_; rintro ee w2 ⟨A1, n1, c1, rfl, p1, k1, B1⟩
  have hk1 : n1 ≤ n + 2 := by
    have : (1 : Int).toNat / 32 = 0 := rfl
    omega
  clear h k1
  obtain rfl : d = r := HR.out
  go_wp2
  go_ret
  exact ⟨A1, n1, c1, rfl, p1, by omega, B1⟩
set_option maxHeartbeats 1000000 in
theorem jsticky_y {w : World} {A : Option Addr} {n c a r : Nat} (h : Rd w A n c a) (hn : n ≤ 100000) (hr : a * 2 ^ (1 : Int).toNat + 1 = r) : Calls Tryz.prog 112 #[.slice A n c, .bool true] w (P1 w (n + 5) r) := by
  have HR := Lib.hid hr; obtain ⟨d, hd⟩ : ∃ d, a * 2 ^ (1 : Int).toNat = d := ⟨_, rfl⟩; have HD := Lib.hid hd; rw [hd] at HR; clear hr hd
  go_enter Tryz.func112, Tryz.ntmps112
  go_wp2_with fail
  refine (rShlN (z := 1) h (by omega) (by decide) (by decide) HD.out).mono ?_; rintro ee w2 ⟨A1, n1, c1, rfl, p1, k1, B1⟩
  have hk1 : n1 ≤ n + 2 := by
    have : (1 : Int).toNat / 32 = 0 := rfl
    omega
  clear h k1
  go_wp2_with fail
  refine (rAddE (p1.below (bel1 _ _)).rd (lit_one w2) (by omega) (by decide) HR.out).mono ?_; rintro ee w3 ⟨A2, n2, c2, rfl, p2, k2, B2⟩; go_wp2
  go_ret
  exact ⟨A2, n2, c2, rfl, p2, by omega, bt B1 (bt (bel1 _ _) B2)⟩
theorem jSticky {w : World} {A : Option Addr} {n c a d r : Nat} {cut : Bool} (h : Rd w A n c a) (hn : n ≤ 100000) (hc : decide (d ≠ 0) = cut) (hr : stk a d = r) : Calls Tryz.prog 112 #[.slice A n c, .bool cut] w (P1 w (n + 5) r) := by
  by_cases h0 : d = 0
  · subst h0
    obtain rfl : false = cut := hc
    exact jsticky_n h hn (by rw [← stk_zero]; exact hr)
  · obtain rfl : true = cut := by rw [← hc]; exact (decide_eq_true h0).symm
    exact jsticky_y h hn (by rw [← stk_one h0]; exact hr)
theorem jDivE {w : World} {A1 A2 : Option Addr} {n m c1 c2 a d q r : Nat} (h1 : Rd w A1 n c1 a) (h2 : Rd w A2 m c2 d) (hn : n ≤ 268435456) (hm : m ≤ 268435456) (hd : d ≠ 0) (hq : a / d = q) (hr : a % d = r) :
    Calls Tryz.prog 151 #[.slice A1 n c1, .slice A2 m c2] w (P3 w n q r) := hq ▸ hr ▸ rDiv h1 h2 hn hm hd
/-- A quotient and what is left. -/
def Jo.Fact.dv (q r K : Nat) : Jo.Fact := ⟨fun v w => ∃ A n c B m d, v = .tuple #[.slice A n c, .slice B m d, .bool true] ∧ Nm w A n c q ∧ Nm w B m d r ∧ n ≤ K, fun v w w' h b => by
  obtain ⟨A, n, c, B, m, d, e, p, k, l⟩ := h; exact ⟨A, n, c, B, m, d, e, p.below b, k.below b, l⟩⟩
/-- A number in some slice. -/
def Jo.Fact.nmA (a : Nat) : Jo.Fact := ⟨fun v w => ∃ A n c, v = .slice A n c ∧ Nm w A n c a, fun v w w' h b => by
  obtain ⟨A, n, c, e, p⟩ := h; exact ⟨A, n, c, e, p.below b⟩⟩
theorem stk_small {α β κ n : Nat} {N M : Nat} (hβ : 0 < β) (hn : n = 70 + blen β) (hα : α < 4294967296 ^ N) (hβ2 : β < 4294967296 ^ M) (hN : N ≤ 3500) (hM : M ≤ 3500) (hκ : κ = 500000) : stk (α * 2 ^ n / β) (α * 2 ^ n % β) < 2 ^ κ := by
  have e32 : ∀ k : Nat, (4294967296 : Nat) ^ k = 2 ^ (32 * k) := fun k => by rw [show (4294967296 : Nat) = 2 ^ 32 by decide, ← Nat.pow_mul]
  rw [e32] at hα hβ2
  have b1 : blen β ≤ 32 * M := blen_mono_le hβ2
  have q1 : α * 2 ^ n / β ≤ α * 2 ^ n := Nat.div_le_self _ _
  have q2 : α * 2 ^ n < 2 ^ (32 * N) * 2 ^ n := Nat.mul_lt_mul_of_pos_right hα (Nat.pow_pos (by decide))
  rw [← Nat.pow_add] at q2
  have q3 : stk (α * 2 ^ n / β) (α * 2 ^ n % β) ≤ 2 * (α * 2 ^ n / β) + 1 := by
    unfold stk
    split <;> omega
  have q4 : 2 ^ (32 * N + n + 1) ≤ 2 ^ κ := Nat.pow_le_pow_right (by decide) (by omega)
  rw [Nat.pow_succ] at q4
  omega
set_option maxHeartbeats 8000000 in
theorem jratio_l {w : World} {A B : Option Addr} {n c m d α β : Nat} {s t up : Bool} {e r : Int} (ha : Rd w A n c α) (hb : Rd w B m d β) (hn : n ≤ 3500) (hm : m ≤ 3500) (e1 : -2200000 ≤ e) (e2 : e ≤ 2200000) {Q R : Nat} (h0 : 0 < β) (hQ : α * 2 ^ (70 + blen β) / β = Q) (hR : α * 2 ^ (70 + blen β) % β = R) (hz : R ≠ 0) (hr : Sid up (sgi (s != t) ((α : Int) * 2 ^ (e + (KK : Int)).toNat)) (β : Int) r) : Calls Tryz.prog 108 #[.agg #[.bool s, .slice A n c], .agg #[.bool t, .slice B m d], .int .i64 e, .bool up] w (PN w r) := by
  have hbl := hb.blen_le; obtain ⟨by_, hby⟩ : ∃ k : Nat, 70 + blen β = k := ⟨_, rfl⟩; obtain ⟨κ, hκ⟩ : ∃ κ : Nat, κ = 500000 := ⟨_, rfl⟩; have hsmall := stk_small h0 hby.symm ha.bound hb.bound hn hm hκ; have hside := ratio_side (σ := (s != t)) (up := up) (e := e) h0 hby.symm hκ hsmall (by omega) (by omega); have hru := hside.uniq (by omega) hr; rw [hby] at hQ hR; rw [hQ, hR] at hru; obtain ⟨S, hS⟩ : ∃ S, stk Q R = S := ⟨_, rfl⟩
  rw [hS, ← sg_sgi] at hru; obtain ⟨X, hX⟩ : ∃ X, α * 2 ^ by_ = X := ⟨_, rfl⟩; rw [hX] at hQ hR; obtain ⟨b, hb2⟩ : ∃ b : Int, (by_ : Int) = b := ⟨_, rfl⟩; rw [hb2] at hru; obtain ⟨L, hL⟩ : ∃ L : Int, ((blen β : Nat) : Int) = L := ⟨_, rfl⟩
  have hLb : 70 + L = b := by omega
  have hb3 : 70 ≤ b ∧ b ≤ 200000 := by omega
  obtain ⟨P, hP⟩ : ∃ P, mk (sg (s != t) S) (e - b - 1) = P := ⟨_, rfl⟩; rw [hP] at hru
  have hPn : mk P.1 P.2 = P := by rw [← hP]; exact mk_nf _ _
  have HRR := Lib.hid (show rnd up (mk P.1 P.2).1 (mk P.1 P.2).2 = r by rw [hPn]; exact hru)
  have HP1 : Hid ((mk (sg (!(s == t)) S) (e - b - 1)).1 = P.1) := Lib.hid (by rw [← hP]; rfl)
  have HP2 : Hid ((mk (sg (!(s == t)) S) (e - b - 1)).2 = P.2) := Lib.hid (by rw [← hP]; rfl)
  have HL := Lib.hid hL
  have HW1 : Hid (IntKind.i64.wrap (70 + L) = b) := Lib.hid (by rw [hLb]; exact IntWalk.i64_in _ (by omega))
  have HW2 : Hid (IntKind.i64.wrap (e - b) = e - b) := Lib.hid (IntWalk.i64_in _ (by omega))
  have HW3 : Hid (IntKind.i64.wrap (e - b - 1) = e - b - 1) := Lib.hid (IntWalk.i64_in _ (by omega))
  have hbt : b.toNat = by_ := by omega
  have HX : Hid (α * 2 ^ b.toNat = X) := Lib.hid (by rw [hbt]; exact hX)
  have HQ := Lib.hid hQ; have HRM := Lib.hid hR; have HST := Lib.hid hS
  have hn0 : β ≠ 0 := by omega
  obtain ⟨σ, hσ⟩ : ∃ σ, cmpI (sg t β) 0 = σ := ⟨_, rfl⟩
  have hs0 : (σ == 0) = false := by
    have : σ ≠ 0 := by
      rw [← hσ]
      rcases sg_cases t β with ⟨a, _⟩ | ⟨_, _, a⟩ | ⟨_, _, a⟩
      · omega
      · rw [a]; decide
      · rw [a]; decide
    simpa using this
  have HS := Lib.hid hσ
  have hXn : n + b.toNat / 32 + 1 ≤ 20000 := by omega
  clear hside hr hru hsmall hbl hL hLb hX hb2 hP hPn hQ hR hS hby hκ hbt hσ
  go_enter Tryz.func108, Tryz.ntmps108
  go_upto_region 1 with (fail)
  generalize hW1 : ((w.alloc _).alloc _).alloc _ = w1 at *; obtain ⟨X4, X5, XR, HB⟩ := Bo.en3 hW1; replace ha := ha.below HB.out; replace hb := hb.below HB.out; clear hW1; obtain ⟨xX50, xX51⟩ := X5.u2
  go_wp2_with fail
  refine (qSign (hb.wr t) HS.out).mono ?_; rintro ee w2 ⟨rfl, B⟩; clear xX50 xX51; replace X4 := X4.below B; replace X5 := X5.below B; replace XR := XR.below B; replace ha := ha.below B; replace hb := hb.below B; replace HB := Lib.hid (bt HB.out B); clear B; obtain ⟨xX50, xX51⟩ := X5.u2
  go_wp2_with fail
  refine (rLen hb HL.out).mono ?_; rintro ee w3 ⟨rfl, B⟩; clear xX50 xX51; replace X4 := X4.below B; replace X5 := X5.below B; replace XR := XR.below B; replace ha := ha.below B; replace hb := hb.below B; replace HB := Lib.hid (bt HB.out B); clear B; have hw1 := HW1.out
  go_upto_region 4 with (fail)
  clear hw1; refine Jo.rk [0, 1, 2, 3, 4, 5, 6, 7, 8, 9, 10, 11, 12, 13] [some 25, some 26, some 27, some 28, some 29, some 30, some 31, some 24, some 32, some 33, some 34, some 10, some 11, some 12] [[], [0], [], [1, 2], [], [4], [3, 5], [6], [7], [7], [7], [8], [9], [10]] 14 0 [Jo.qp w.heap.size 1, Jo.Fact.eq (.slice A n c), Jo.qi b, Jo.Fact.nm X 20000, Jo.qp (w.heap.size + 1) 1, Jo.Fact.eq (.slice B m d), Jo.Fact.dv Q R 20000, Jo.Fact.dv Q R 20000, Jo.Fact.nm Q 20000, Jo.Fact.nmA R, Jo.qb true, Jo.Fact.nm Q 20000, Jo.Fact.nmA R, Jo.qb true] (by kernel_rfl) (by kernel_rfl) (by decide) rfl ?_ ?_
  · refine Jo.jm rfl ?_ ?_
    · rintro wj hJ K hK; simp only [Jo.z] at hK ⊢; go_simp; exact hK.out _ _ rfl (br _ _)
    refine Jo.jm rfl ?_ ?_
    · rintro wj hJ _ rfl K hK; simp only [Jo.z] at hK ⊢; have xX41 := (X4.below hJ).a 1 (.slice A n c) rfl; go_simp; exact hK.out _ _ rfl (br _ _)
    refine Jo.jm rfl ?_ ?_
    · rintro wj hJ K hK; simp only [Jo.z] at hK ⊢; go_simp; exact hK.out _ _ rfl (br _ _)
    refine Jo.jm rfl ?_ ?_
    · rintro wj hJ _ rfl _ rfl K hK; simp only [Jo.z] at hK ⊢; go_simp; refine (rShlN (z := b) (ha.below hJ) (by omega) (by omega) (by omega) HX.out).mono ?_; rintro ee wk ⟨A3, n3, c3, rfl, p3, k3, B⟩; exact hK.out _ _ ⟨A3, n3, c3, rfl, p3, Nat.le_trans k3 hXn⟩ B
    refine Jo.jm rfl ?_ ?_
    · rintro wj hJ K hK; simp only [Jo.z] at hK ⊢; go_simp; exact hK.out _ _ rfl (br _ _)
    refine Jo.jm rfl ?_ ?_
    · rintro wj hJ _ rfl K hK; simp only [Jo.z] at hK ⊢; have xX51 := (X5.below hJ).a 1 (.slice B m d) rfl; go_simp; exact hK.out _ _ rfl (br _ _)
    refine Jo.jm rfl ?_ ?_
    · rintro wj hJ _ ⟨A3, n3, c3, rfl, p3, k3⟩ _ rfl K hK; simp only [Jo.z] at hK ⊢; go_simp; refine (jDivE p3.rd (hb.below hJ) (by omega) (by omega) hn0 HQ.out HRM.out).mono ?_; rintro ee wk ⟨A6, n6, c6, B6, m6, d6_, rfl, p6, r6, k6, l6, B⟩; exact hK.out _ _ ⟨A6, n6, c6, B6, m6, d6_, rfl, p6, r6, Nat.le_trans k6 k3⟩ B
    refine Jo.jm rfl ?_ ?_
    · rintro wj hJ _ ⟨A6, n6, c6, B6, m6, d6_, rfl, p6, r6, k6⟩ K hK; simp only [Jo.z] at hK ⊢; go_simp; exact hK.out _ _ ⟨A6, n6, c6, B6, m6, d6_, rfl, p6, r6, k6⟩ (br _ _)
    refine Jo.jm rfl ?_ ?_
    · rintro wj hJ _ ⟨A6, n6, c6, B6, m6, d6_, rfl, p6, r6, k6⟩ K hK; simp only [Jo.z] at hK ⊢; go_simp; exact hK.out _ _ ⟨A6, n6, c6, rfl, p6, k6⟩ (br _ _)
    refine Jo.jm rfl ?_ ?_
    · rintro wj hJ _ ⟨A6, n6, c6, B6, m6, d6_, rfl, p6, r6, k6⟩ K hK; simp only [Jo.z] at hK ⊢; go_simp; exact hK.out _ _ ⟨B6, m6, d6_, rfl, r6⟩ (br _ _)
    refine Jo.jm rfl ?_ ?_
    · rintro wj hJ _ ⟨A6, n6, c6, B6, m6, d6_, rfl, p6, r6, k6⟩ K hK; simp only [Jo.z] at hK ⊢; go_simp; exact hK.out _ _ rfl (br _ _)
    refine Jo.jm rfl ?_ ?_
    · rintro wj hJ _ ⟨A8, n8, c8, rfl, p8, k8⟩ K hK; simp only [Jo.z] at hK ⊢; go_simp; exact hK.out _ _ ⟨A8, n8, c8, rfl, p8, k8⟩ (br _ _)
    refine Jo.jm rfl ?_ ?_
    · rintro wj hJ _ ⟨A9, n9, c9, rfl, p9⟩ K hK; simp only [Jo.z] at hK ⊢; go_simp; exact hK.out _ _ ⟨A9, n9, c9, rfl, p9⟩ (br _ _)
    refine Jo.jm rfl ?_ ?_
    · rintro wj hJ _ rfl K hK; simp only [Jo.z] at hK ⊢; go_simp; exact hK.out _ _ rfl (br _ _)
    exact Jo.Steps.nil
  rintro w4 hJ _ _ _ rfl _ rfl _ ⟨_, _, _, rfl, _⟩ _ _ _ rfl _ ⟨_, _, _, _, _, _, rfl, _⟩ _ ⟨_, _, _, _, _, _, rfl, _⟩ _ ⟨_, _, _, rfl, _⟩ _ ⟨_, _, _, rfl, _⟩ _ rfl _ ⟨A11, n11, c11, rfl, p11, k11⟩ _ ⟨A12, n12, c12, rfl, p12⟩ _ rfl -; simp only [Jo.z]; replace X4 := X4.below hJ; replace X5 := X5.below hJ; replace XR := XR.below hJ; replace ha := ha.below hJ; replace hb := hb.below hJ; replace HB := Lib.hid (bt HB.out hJ)
  refine Jo.jdone (by kernel_rfl) ?_; clear ha hb
  have hpos : 0 < n12 := by have := p12.pos; omega
  have hgt : (0 : Int) < n12 := by omega
  have hlen : n12 ≤ 1099511627776 := p12.rd.big
  clear p12
  go_wp2_with fail
  refine (jSticky (d := R) (cut := true) p11.rd (by omega) (decide_eq_true hz) HST.out).mono ?_; rintro ee w5 ⟨A5, n5, c5, rfl, p5, k5, B⟩; replace X4 := X4.below B; replace X5 := X5.below B; replace XR := XR.below B; replace p11 := p11.below B; replace HB := Lib.hid (bt HB.out B); clear B; clear p11; obtain ⟨xX40, xX41⟩ := X4.u2; obtain ⟨xX50, xX51⟩ := X5.u2
  go_wp2_with fail
  refine (qMake (!(s == t)) p5.rd).mono ?_; rintro ee w6 ⟨s7, A7, n7, c7, rfl, p7, k7, B⟩; clear xX40 xX41 xX50 xX51; replace X4 := X4.below B; replace X5 := X5.below B; replace XR := XR.below B; replace p5 := p5.below B; replace HB := Lib.hid (bt HB.out B); clear B; clear p5; have hw2 := HW2.out; have hw3 := HW3.out
  go_wp2_with fail
  refine (q3Make p7.wr (by omega) HP1.out HP2.out).mono ?_; rintro ee w7 ⟨s8, A8, n8, c8, rfl, p8, k8, B⟩; replace X4 := X4.below B; replace X5 := X5.below B; replace XR := XR.below B; replace p7 := p7.below B; replace HB := Lib.hid (bt HB.out B); clear B; clear p7 hw2 hw3
  go_wp2_with fail
  refine (yRound p8.wr (by omega) rfl rfl HRR.out).mono ?_; rintro ee w8 ⟨K9, s9, M9, E9, rfl, q9, B⟩; replace X4 := X4.below B; replace X5 := X5.below B; replace XR := XR.below B; replace p8 := p8.below B; replace HB := Lib.hid (bt HB.out B); clear B; obtain ⟨xXR0, xXR1, xXR2, xXR3⟩ := XR.u4; have zXR0 := XR.frozen; go_wp2; clear xXR0 zXR0 xXR1 xXR2 xXR3; have SX := StN.mk4 XR (.int .i64 K9) (.bool s9) (.int .u64 M9) (.int .i64 E9)
  exact bodyPost_ret (by simp [results, Tryz.results108, go_sem, SX.box.cell]) rfl ⟨_, _, _, _, rfl, q9, (SX.below HB.out (by omega))⟩
set_option maxHeartbeats 8000000 in
theorem jratio_e {w : World} {A B : Option Addr} {n c m d α β : Nat} {s t up : Bool} {e r : Int} (ha : Rd w A n c α) (hb : Rd w B m d β) (hn : n ≤ 3500) (hm : m ≤ 3500) (e1 : -2200000 ≤ e) (e2 : e ≤ 2200000) {Q R : Nat} (h0 : 0 < β) (hQ : α * 2 ^ (70 + blen β) / β = Q) (hR : α * 2 ^ (70 + blen β) % β = R) (hz : R = 0) (hr : Sid up (sgi (s != t) ((α : Int) * 2 ^ (e + (KK : Int)).toNat)) (β : Int) r) : Calls Tryz.prog 108 #[.agg #[.bool s, .slice A n c], .agg #[.bool t, .slice B m d], .int .i64 e, .bool up] w (PN w r) := by
  have hbl := hb.blen_le; obtain ⟨by_, hby⟩ : ∃ k : Nat, 70 + blen β = k := ⟨_, rfl⟩; obtain ⟨κ, hκ⟩ : ∃ κ : Nat, κ = 500000 := ⟨_, rfl⟩; have hsmall := stk_small h0 hby.symm ha.bound hb.bound hn hm hκ; have hside := ratio_side (σ := (s != t)) (up := up) (e := e) h0 hby.symm hκ hsmall (by omega) (by omega); have hru := hside.uniq (by omega) hr; rw [hby] at hQ hR; rw [hQ, hR] at hru; obtain ⟨S, hS⟩ : ∃ S, stk Q R = S := ⟨_, rfl⟩
  rw [hS, ← sg_sgi] at hru; obtain ⟨X, hX⟩ : ∃ X, α * 2 ^ by_ = X := ⟨_, rfl⟩; rw [hX] at hQ hR; obtain ⟨b, hb2⟩ : ∃ b : Int, (by_ : Int) = b := ⟨_, rfl⟩; rw [hb2] at hru; obtain ⟨L, hL⟩ : ∃ L : Int, ((blen β : Nat) : Int) = L := ⟨_, rfl⟩
  have hLb : 70 + L = b := by omega
  have hb3 : 70 ≤ b ∧ b ≤ 200000 := by omega
  obtain ⟨P, hP⟩ : ∃ P, mk (sg (s != t) S) (e - b - 1) = P := ⟨_, rfl⟩; rw [hP] at hru
  have hPn : mk P.1 P.2 = P := by rw [← hP]; exact mk_nf _ _
  have HRR := Lib.hid (show rnd up (mk P.1 P.2).1 (mk P.1 P.2).2 = r by rw [hPn]; exact hru)
  have HP1 : Hid ((mk (sg (!(s == t)) S) (e - b - 1)).1 = P.1) := Lib.hid (by rw [← hP]; rfl)
  have HP2 : Hid ((mk (sg (!(s == t)) S) (e - b - 1)).2 = P.2) := Lib.hid (by rw [← hP]; rfl)
  have HL := Lib.hid hL
  have HW1 : Hid (IntKind.i64.wrap (70 + L) = b) := Lib.hid (by rw [hLb]; exact IntWalk.i64_in _ (by omega))
  have HW2 : Hid (IntKind.i64.wrap (e - b) = e - b) := Lib.hid (IntWalk.i64_in _ (by omega))
  have HW3 : Hid (IntKind.i64.wrap (e - b - 1) = e - b - 1) := Lib.hid (IntWalk.i64_in _ (by omega))
  have hbt : b.toNat = by_ := by omega
  have HX : Hid (α * 2 ^ b.toNat = X) := Lib.hid (by rw [hbt]; exact hX)
  have HQ := Lib.hid hQ; have HRM := Lib.hid hR; have HST := Lib.hid hS
  have hn0 : β ≠ 0 := by omega
  obtain ⟨σ, hσ⟩ : ∃ σ, cmpI (sg t β) 0 = σ := ⟨_, rfl⟩
  have hs0 : (σ == 0) = false := by
    have : σ ≠ 0 := by
      rw [← hσ]
      rcases sg_cases t β with ⟨a, _⟩ | ⟨_, _, a⟩ | ⟨_, _, a⟩
      · omega
      · rw [a]; decide
      · rw [a]; decide
    simpa using this
  have HS := Lib.hid hσ
  have hXn : n + b.toNat / 32 + 1 ≤ 20000 := by omega
  clear hside hr hru hsmall hbl hL hLb hX hb2 hP hPn hQ hR hS hby hκ hbt hσ
  go_enter Tryz.func108, Tryz.ntmps108
  go_upto_region 1 with (fail)
  generalize hW1 : ((w.alloc _).alloc _).alloc _ = w1 at *; obtain ⟨X4, X5, XR, HB⟩ := Bo.en3 hW1; replace ha := ha.below HB.out; replace hb := hb.below HB.out; clear hW1; obtain ⟨xX50, xX51⟩ := X5.u2
  go_wp2_with fail
  refine (qSign (hb.wr t) HS.out).mono ?_; rintro ee w2 ⟨rfl, B⟩; clear xX50 xX51; replace X4 := X4.below B; replace X5 := X5.below B; replace XR := XR.below B; replace ha := ha.below B; replace hb := hb.below B; replace HB := Lib.hid (bt HB.out B); clear B; obtain ⟨xX50, xX51⟩ := X5.u2
  go_wp2_with fail
  refine (rLen hb HL.out).mono ?_; rintro ee w3 ⟨rfl, B⟩; clear xX50 xX51; replace X4 := X4.below B; replace X5 := X5.below B; replace XR := XR.below B; replace ha := ha.below B; replace hb := hb.below B; replace HB := Lib.hid (bt HB.out B); clear B; have hw1 := HW1.out
  go_upto_region 4 with (fail)
  clear hw1; refine Jo.rk [0, 1, 2, 3, 4, 5, 6, 7, 8, 9, 10, 11, 12, 13] [some 25, some 26, some 27, some 28, some 29, some 30, some 31, some 24, some 32, some 33, some 34, some 10, some 11, some 12] [[], [0], [], [1, 2], [], [4], [3, 5], [6], [7], [7], [7], [8], [9], [10]] 14 0 [Jo.qp w.heap.size 1, Jo.Fact.eq (.slice A n c), Jo.qi b, Jo.Fact.nm X 20000, Jo.qp (w.heap.size + 1) 1, Jo.Fact.eq (.slice B m d), Jo.Fact.dv Q R 20000, Jo.Fact.dv Q R 20000, Jo.Fact.nm Q 20000, Jo.Fact.nmA R, Jo.qb true, Jo.Fact.nm Q 20000, Jo.Fact.nmA R, Jo.qb true] (by kernel_rfl) (by kernel_rfl) (by decide) rfl ?_ ?_
  · refine Jo.jm rfl ?_ ?_
    · rintro wj hJ K hK; simp only [Jo.z] at hK ⊢; go_simp; exact hK.out _ _ rfl (br _ _)
    refine Jo.jm rfl ?_ ?_
    · rintro wj hJ _ rfl K hK; simp only [Jo.z] at hK ⊢; have xX41 := (X4.below hJ).a 1 (.slice A n c) rfl; go_simp; exact hK.out _ _ rfl (br _ _)
    refine Jo.jm rfl ?_ ?_
    · rintro wj hJ K hK; simp only [Jo.z] at hK ⊢; go_simp; exact hK.out _ _ rfl (br _ _)
    refine Jo.jm rfl ?_ ?_
    · rintro wj hJ _ rfl _ rfl K hK; simp only [Jo.z] at hK ⊢; go_simp; refine (rShlN (z := b) (ha.below hJ) (by omega) (by omega) (by omega) HX.out).mono ?_; rintro ee wk ⟨A3, n3, c3, rfl, p3, k3, B⟩; exact hK.out _ _ ⟨A3, n3, c3, rfl, p3, Nat.le_trans k3 hXn⟩ B
    refine Jo.jm rfl ?_ ?_
    · rintro wj hJ K hK; simp only [Jo.z] at hK ⊢; go_simp; exact hK.out _ _ rfl (br _ _)
    refine Jo.jm rfl ?_ ?_
    · rintro wj hJ _ rfl K hK; simp only [Jo.z] at hK ⊢; have xX51 := (X5.below hJ).a 1 (.slice B m d) rfl; go_simp; exact hK.out _ _ rfl (br _ _)
    refine Jo.jm rfl ?_ ?_
    · rintro wj hJ _ ⟨A3, n3, c3, rfl, p3, k3⟩ _ rfl K hK; simp only [Jo.z] at hK ⊢; go_simp; refine (jDivE p3.rd (hb.below hJ) (by omega) (by omega) hn0 HQ.out HRM.out).mono ?_; rintro ee wk ⟨A6, n6, c6, B6, m6, d6_, rfl, p6, r6, k6, l6, B⟩; exact hK.out _ _ ⟨A6, n6, c6, B6, m6, d6_, rfl, p6, r6, Nat.le_trans k6 k3⟩ B
    refine Jo.jm rfl ?_ ?_
    · rintro wj hJ _ ⟨A6, n6, c6, B6, m6, d6_, rfl, p6, r6, k6⟩ K hK; simp only [Jo.z] at hK ⊢; go_simp; exact hK.out _ _ ⟨A6, n6, c6, B6, m6, d6_, rfl, p6, r6, k6⟩ (br _ _)
    refine Jo.jm rfl ?_ ?_
    · rintro wj hJ _ ⟨A6, n6, c6, B6, m6, d6_, rfl, p6, r6, k6⟩ K hK; simp only [Jo.z] at hK ⊢; go_simp; exact hK.out _ _ ⟨A6, n6, c6, rfl, p6, k6⟩ (br _ _)
    refine Jo.jm rfl ?_ ?_
    · rintro wj hJ _ ⟨A6, n6, c6, B6, m6, d6_, rfl, p6, r6, k6⟩ K hK; simp only [Jo.z] at hK ⊢; go_simp; exact hK.out _ _ ⟨B6, m6, d6_, rfl, r6⟩ (br _ _)
    refine Jo.jm rfl ?_ ?_
    · rintro wj hJ _ ⟨A6, n6, c6, B6, m6, d6_, rfl, p6, r6, k6⟩ K hK; simp only [Jo.z] at hK ⊢; go_simp; exact hK.out _ _ rfl (br _ _)
    refine Jo.jm rfl ?_ ?_
    · rintro wj hJ _ ⟨A8, n8, c8, rfl, p8, k8⟩ K hK; simp only [Jo.z] at hK ⊢; go_simp; exact hK.out _ _ ⟨A8, n8, c8, rfl, p8, k8⟩ (br _ _)
    refine Jo.jm rfl ?_ ?_
    · rintro wj hJ _ ⟨A9, n9, c9, rfl, p9⟩ K hK; simp only [Jo.z] at hK ⊢; go_simp; exact hK.out _ _ ⟨A9, n9, c9, rfl, p9⟩ (br _ _)
    refine Jo.jm rfl ?_ ?_
    · rintro wj hJ _ rfl K hK; simp only [Jo.z] at hK ⊢; go_simp; exact hK.out _ _ rfl (br _ _)
    exact Jo.Steps.nil
  rintro w4 hJ _ _ _ rfl _ rfl _ ⟨_, _, _, rfl, _⟩ _ _ _ rfl _ ⟨_, _, _, _, _, _, rfl, _⟩ _ ⟨_, _, _, _, _, _, rfl, _⟩ _ ⟨_, _, _, rfl, _⟩ _ ⟨_, _, _, rfl, _⟩ _ rfl _ ⟨A11, n11, c11, rfl, p11, k11⟩ _ ⟨A12, n12, c12, rfl, p12⟩ _ rfl -; simp only [Jo.z]; replace X4 := X4.below hJ; replace X5 := X5.below hJ; replace XR := XR.below hJ; replace ha := ha.below hJ; replace hb := hb.below hJ; replace HB := Lib.hid (bt HB.out hJ)
  refine Jo.jdone (by kernel_rfl) ?_; clear ha hb; subst hz
  obtain rfl : n12 = 0 := by have := p12.pos; omega
  clear p12
  go_wp2_with fail
  refine (jSticky (d := 0) (cut := false) p11.rd (by omega) (by decide) HST.out).mono ?_; rintro ee w5 ⟨A5, n5, c5, rfl, p5, k5, B⟩; replace X4 := X4.below B; replace X5 := X5.below B; replace XR := XR.below B; replace p11 := p11.below B; replace HB := Lib.hid (bt HB.out B); clear B; clear p11; obtain ⟨xX40, xX41⟩ := X4.u2; obtain ⟨xX50, xX51⟩ := X5.u2
  go_wp2_with fail
  refine (qMake (!(s == t)) p5.rd).mono ?_; rintro ee w6 ⟨s7, A7, n7, c7, rfl, p7, k7, B⟩; clear xX40 xX41 xX50 xX51; replace X4 := X4.below B; replace X5 := X5.below B; replace XR := XR.below B; replace p5 := p5.below B; replace HB := Lib.hid (bt HB.out B); clear B; clear p5; have hw2 := HW2.out; have hw3 := HW3.out
  go_wp2_with fail
  refine (q3Make p7.wr (by omega) HP1.out HP2.out).mono ?_; rintro ee w7 ⟨s8, A8, n8, c8, rfl, p8, k8, B⟩; replace X4 := X4.below B; replace X5 := X5.below B; replace XR := XR.below B; replace p7 := p7.below B; replace HB := Lib.hid (bt HB.out B); clear B; clear p7 hw2 hw3
  go_wp2_with fail
  refine (yRound p8.wr (by omega) rfl rfl HRR.out).mono ?_; rintro ee w8 ⟨K9, s9, M9, E9, rfl, q9, B⟩; replace X4 := X4.below B; replace X5 := X5.below B; replace XR := XR.below B; replace p8 := p8.below B; replace HB := Lib.hid (bt HB.out B); clear B; obtain ⟨xXR0, xXR1, xXR2, xXR3⟩ := XR.u4; have zXR0 := XR.frozen; go_wp2; clear xXR0 zXR0 xXR1 xXR2 xXR3; have SX := StN.mk4 XR (.int .i64 K9) (.bool s9) (.int .u64 M9) (.int .i64 E9)
  exact bodyPost_ret (by simp [results, Tryz.results108, go_sem, SX.box.cell]) rfl ⟨_, _, _, _, rfl, q9, (SX.below HB.out (by omega))⟩
theorem jRatio0 {w : World} {A B : Option Addr} {n c m d α β : Nat} {s t up : Bool} {e r : Int} (ha : Rd w A n c α) (hb : Rd w B m d β) (hn : n ≤ 3500) (hm : m ≤ 3500) (e1 : -2200000 ≤ e) (e2 : e ≤ 2200000) (h0 : 0 < β) (hr : Sid up (sgi (s != t) ((α : Int) * 2 ^ (e + (KK : Int)).toNat)) (β : Int) r) : Calls Tryz.prog 108 #[.agg #[.bool s, .slice A n c], .agg #[.bool t, .slice B m d], .int .i64 e, .bool up] w (PN w r) := by
  by_cases hz : α * 2 ^ (70 + blen β) % β = 0
  · exact jratio_e ha hb hn hm e1 e2 h0 rfl rfl hz hr
  · exact jratio_l ha hb hn hm e1 e2 h0 rfl rfl hz hr
end Go.Proofs.YteejbcimmmcnlaaGreatDoor

/-
  What the document's Div of layer 7 does.
-/
namespace Go.Proofs.YteejbcimmmcnlaaGreatDoor
open Go.RowKit
set_option linter.unusedVariables false
set_option linter.unusedSimpArgs false
set_option maxRecDepth 100000

theorem exb_one {s : Bool} {M : Int} (h1 : 9223372036854775808 ≤ M) : exb 1 s M 0 = true := by
  have : MayQ 1 s M 0 := Or.inr (Or.inl ⟨rfl, h1, by decide, by decide⟩)
  unfold exb
  rw [decide_eq_true this]
  rfl
/-- A word as the document's Exact has it: an odd number, a power of two, the sign. -/
theorem exq_one {s : Bool} {M : Int} (h1 : 9223372036854775808 ≤ M) (h2 : M < 18446744073709551616) : ∃ (α : Nat) (v : Nat), (exq 1 s M 0).1 = sgi s (α : Int) ∧ (exq 1 s M 0).2 = (v : Int) ∧ M = (α : Int) * 2 ^ v ∧ 0 < α ∧ α < 18446744073709551616 ∧ v < 64 := by
  obtain ⟨α, v, a, b, c, d, _, e, f⟩ := odd_part h1 h2
  have hx : exq 1 s M 0 = mk (sgi s M) 0 := by
    unfold exq
    rw [if_pos (exb_one h1)]
  refine ⟨α, v, ?_, ?_, c, d, e, f⟩
  · rw [hx]
    cases s
    · rw [wsg_f, wsg_f, a]
    · rw [wsg_t, wsg_t, mk_neg, a]
  · rw [hx]
    cases s
    · rw [wsg_f, b]
    · rw [wsg_t, mk_neg, b]
theorem wn_rd {w : World} {s t : Bool} {A : Option Addr} {n c α : Nat} (h : Wn w t A n c (sgi s (α : Int))) (h0 : 0 < α) : Rd w A n c α ∧ t = s := by
  have e : (sgi s (α : Int)).natAbs = α := by rw [sgi_abs s (by omega)]; omega
  have h1 := h.1.rd; rw [e] at h1; refine ⟨h1, ?_⟩; rw [h.2]
  cases s
  · rw [wsg_f]; exact decide_eq_false (by omega)
  · rw [wsg_t]; exact decide_eq_true (by omega)
set_option maxHeartbeats 8000000 in
theorem jDiv {w : World} {D D' M M' E E' : Int} {s s' : Bool} {up : Bool} {x y r : Int} (hM : M < 18446744073709551616) (hM' : M' < 18446744073709551616) (hx : rk D s M E = x) (hy : rk D' s' M' E' = y) (hr : Qt up x y r) : Calls Tryz.prog 67 #[.agg #[.int .i64 D, .bool s, .int .u64 M, .int .i64 E], .agg #[.int .i64 D', .bool s', .int .u64 M', .int .i64 E'], .bool up] w (PN w r) := by
  have HX := Lib.hid hx; have HY := Lib.hid hy; clear hx hy
  go_enter Tryz.func67, Tryz.ntmps67
  go_upto_region 1 with (fail)
  generalize hW1 : ((w.alloc _).alloc _).alloc _ = w1 at *; obtain ⟨X1, X2, XR, HB⟩ := Bo.en3 hW1; clear hW1; obtain ⟨xX10, xX11, xX12, xX13⟩ := X1.u4
  go_wp2_with fail
  refine (gFair hM HX.out).mono ?_; rintro ee w2 ⟨K1, s1, M1, E1, rfl, q1, B⟩; clear xX10 xX11 xX12 xX13; replace X1 := X1.below B; replace X2 := X2.below B; replace XR := XR.below B; replace HB := Lib.hid (bt HB.out B); clear B
  go_upto_region 2 with (fail)
  have lX7 := Nat.le_refl (World.heap w2).size; have nX7X1 := X1.lt; have nX7X2 := X2.lt; have nX7XR := XR.lt; generalize hWn : w2.alloc _ = w3 at *; obtain ⟨X7, BW⟩ := Bo.nw hWn; clear hWn; replace X1 := X1.below BW; replace X2 := X2.below BW; replace XR := XR.below BW; replace HB := Lib.hid (bt HB.out BW); clear BW; obtain ⟨xX20, xX21, xX22, xX23⟩ := X2.u4
  go_wp2_with fail
  refine (gFair hM' HY.out).mono ?_; rintro ee w4 ⟨K2, s2, M2, E2, rfl, q2, B⟩; clear xX20 xX21 xX22 xX23; replace X1 := X1.below B; replace X2 := X2.below B; replace XR := XR.below B; replace X7 := X7.below B; replace HB := Lib.hid (bt HB.out B); clear B
  go_upto_region 3 with (fail)
  have lX8 := Nat.le_refl (World.heap w4).size; have nX8X1 := X1.lt; have nX8X2 := X2.lt; have nX8XR := XR.lt; have nX8X7 := X7.lt; generalize hWn : w4.alloc _ = w5 at *; obtain ⟨X8, BW⟩ := Bo.nw hWn; clear hWn; replace X1 := X1.below BW; replace X2 := X2.below BW; replace XR := XR.below BW; replace X7 := X7.below BW; replace HB := Lib.hid (bt HB.out BW); clear BW; clear lX7 lX8 HX HY hM hM'; have i1 := fq_inf q1
  have i2 := fq_inf q2; have z1 := q1.zero_iff; have z2 := q2.zero_iff
  have kk1 : K1 = 2 ∨ K1 = 0 ∨ K1 = 1 := by rcases q1.cases with ⟨h, _⟩ | ⟨h, _⟩ | ⟨h, _⟩ <;> omega
  have kk2 : K2 = 2 ∨ K2 = 0 ∨ K2 = 1 := by rcases q2.cases with ⟨h, _⟩ | ⟨h, _⟩ | ⟨h, _⟩ <;> omega
  rcases kk1 with rfl | rfl | rfl
  · rcases kk2 with rfl | rfl | rfl
    · have hy0 : y ≠ 0 := fun c => absurd (z2.2 c) (by decide)
      have hr2 : r = 0 := (qt_zero hy0 (.inr i2)).1 hr
      subst hr2; clear i1 i2 z1 z2 q1 q2 hr hy0; obtain ⟨xXR0, xXR1, xXR2, xXR3⟩ := XR.u4; have zXR0 := XR.frozen; obtain ⟨xX70, xX71, xX72, xX73⟩ := X7.u4; obtain ⟨xX80, xX81, xX82, xX83⟩ := X8.u4; go_wp2; clear xXR0 zXR0 xXR1 xXR2 xXR3 xX70 xX71 xX72 xX73 xX80 xX81 xX82 xX83; have SX := StN.mk4 XR (.int .i64 0) (.bool false) (.int .u64 0) (.int .i64 0); exact bodyPost_ret (by simp [results, Tryz.results67, go_sem, SX.box.cell]) rfl ⟨_, _, _, _, rfl, Fq.nought, (SX.below HB.out (by omega))⟩
    · have hr2 : sgi (!up) TP = r := by
        rw [z2.1 rfl] at hr; exact (qt_none'.1 hr).symm
      have HRR := Lib.hid hr2; clear i1 i2 z1 z2 q1 q2 hr hr2; obtain ⟨xX70, xX71, xX72, xX73⟩ := X7.u4; obtain ⟨xX80, xX81, xX82, xX83⟩ := X8.u4
      go_wp2_with fail
      refine (yInf (s := !up) HRR.out).mono ?_; rintro ee w6 ⟨K3, s3, M3, E3, rfl, q3, B⟩; clear xX70 xX71 xX72 xX73 xX80 xX81 xX82 xX83; replace XR := XR.below B; replace X7 := X7.below B; replace X8 := X8.below B; replace HB := Lib.hid (bt HB.out B); clear B; obtain ⟨xXR0, xXR1, xXR2, xXR3⟩ := XR.u4; have zXR0 := XR.frozen; go_wp2; clear xXR0 zXR0 xXR1 xXR2 xXR3; have SX := StN.mk4 XR (.int .i64 K3) (.bool s3) (.int .u64 M3) (.int .i64 E3)
      exact bodyPost_ret (by simp [results, Tryz.results67, go_sem, SX.box.cell]) rfl ⟨_, _, _, _, rfl, q3, (SX.below HB.out (by omega))⟩
    · have hy0 : y ≠ 0 := fun c => absurd (z2.2 c) (by decide)
      have hn : ¬ (x = 0 ∨ infp y = true) := by
        rw [i2]; rintro (c | c)
        · exact absurd (z1.2 c) (by decide)
        · exact absurd c (by decide)
      have sx : decide (x < 0) = s1 := by
        rcases q1.three with ⟨a, _⟩ | ⟨_, rfl, b⟩ | ⟨_, rfl, b⟩
        · exact absurd a (by decide)
        · exact decide_eq_false (by omega)
        · exact decide_eq_true b
      have sy : decide (y < 0) = s2 := by
        rcases q2.three with ⟨a, _⟩ | ⟨_, rfl, b⟩ | ⟨_, rfl, b⟩
        · exact absurd a (by decide)
        · exact decide_eq_false (by omega)
        · exact decide_eq_true b
      have hr2 : sgi (s1 != s2) TP = r := by
        have := (qt_inf hy0 hn i1).1 hr
        rw [sx, sy] at this; exact this.symm
      have HRR := Lib.hid hr2; clear i1 i2 z1 z2 q1 q2 hr hr2 sx sy hn hy0; obtain ⟨xX70, xX71, xX72, xX73⟩ := X7.u4; obtain ⟨xX80, xX81, xX82, xX83⟩ := X8.u4
      go_wp2_with fail
      refine (yInf (s := s1 != s2) HRR.out).mono ?_; rintro ee w6 ⟨K3, s3, M3, E3, rfl, q3, B⟩; clear xX70 xX71 xX72 xX73 xX80 xX81 xX82 xX83; replace XR := XR.below B; replace X7 := X7.below B; replace X8 := X8.below B; replace HB := Lib.hid (bt HB.out B); clear B; obtain ⟨xXR0, xXR1, xXR2, xXR3⟩ := XR.u4; have zXR0 := XR.frozen; go_wp2; clear xXR0 zXR0 xXR1 xXR2 xXR3; have SX := StN.mk4 XR (.int .i64 K3) (.bool s3) (.int .u64 M3) (.int .i64 E3)
      exact bodyPost_ret (by simp [results, Tryz.results67, go_sem, SX.box.cell]) rfl ⟨_, _, _, _, rfl, q3, (SX.below HB.out (by omega))⟩
  · rcases kk2 with rfl | rfl | rfl
    · have hy0 : y ≠ 0 := fun c => absurd (z2.2 c) (by decide)
      have hr2 : r = 0 := (qt_zero hy0 (.inl (z1.1 rfl))).1 hr
      subst hr2; clear i1 i2 z1 z2 q1 q2 hr hy0; obtain ⟨xXR0, xXR1, xXR2, xXR3⟩ := XR.u4; have zXR0 := XR.frozen; obtain ⟨xX70, xX71, xX72, xX73⟩ := X7.u4; obtain ⟨xX80, xX81, xX82, xX83⟩ := X8.u4; go_wp2; clear xXR0 zXR0 xXR1 xXR2 xXR3 xX70 xX71 xX72 xX73 xX80 xX81 xX82 xX83; have SX := StN.mk4 XR (.int .i64 0) (.bool false) (.int .u64 0) (.int .i64 0); exact bodyPost_ret (by simp [results, Tryz.results67, go_sem, SX.box.cell]) rfl ⟨_, _, _, _, rfl, Fq.nought, (SX.below HB.out (by omega))⟩
    · have hr2 : sgi (!up) TP = r := by
        rw [z2.1 rfl] at hr; exact (qt_none'.1 hr).symm
      have HRR := Lib.hid hr2; clear i1 i2 z1 z2 q1 q2 hr hr2; obtain ⟨xX70, xX71, xX72, xX73⟩ := X7.u4; obtain ⟨xX80, xX81, xX82, xX83⟩ := X8.u4
      go_wp2_with fail
      refine (yInf (s := !up) HRR.out).mono ?_; rintro ee w6 ⟨K3, s3, M3, E3, rfl, q3, B⟩; clear xX70 xX71 xX72 xX73 xX80 xX81 xX82 xX83; replace XR := XR.below B; replace X7 := X7.below B; replace X8 := X8.below B; replace HB := Lib.hid (bt HB.out B); clear B; obtain ⟨xXR0, xXR1, xXR2, xXR3⟩ := XR.u4; have zXR0 := XR.frozen; go_wp2; clear xXR0 zXR0 xXR1 xXR2 xXR3; have SX := StN.mk4 XR (.int .i64 K3) (.bool s3) (.int .u64 M3) (.int .i64 E3)
      exact bodyPost_ret (by simp [results, Tryz.results67, go_sem, SX.box.cell]) rfl ⟨_, _, _, _, rfl, q3, (SX.below HB.out (by omega))⟩
    · have hy0 : y ≠ 0 := fun c => absurd (z2.2 c) (by decide)
      have hr2 : r = 0 := (qt_zero hy0 (.inl (z1.1 rfl))).1 hr
      subst hr2; clear i1 i2 z1 z2 q1 q2 hr hy0; obtain ⟨xXR0, xXR1, xXR2, xXR3⟩ := XR.u4; have zXR0 := XR.frozen; obtain ⟨xX70, xX71, xX72, xX73⟩ := X7.u4; obtain ⟨xX80, xX81, xX82, xX83⟩ := X8.u4; go_wp2; clear xXR0 zXR0 xXR1 xXR2 xXR3 xX70 xX71 xX72 xX73 xX80 xX81 xX82 xX83; have SX := StN.mk4 XR (.int .i64 0) (.bool false) (.int .u64 0) (.int .i64 0); exact bodyPost_ret (by simp [results, Tryz.results67, go_sem, SX.box.cell]) rfl ⟨_, _, _, _, rfl, Fq.nought, (SX.below HB.out (by omega))⟩
  · rcases kk2 with rfl | rfl | rfl
    · have hy0 : y ≠ 0 := fun c => absurd (z2.2 c) (by decide)
      have hr2 : r = 0 := (qt_zero hy0 (.inr i2)).1 hr
      subst hr2; clear i1 i2 z1 z2 q1 q2 hr hy0; obtain ⟨xXR0, xXR1, xXR2, xXR3⟩ := XR.u4; have zXR0 := XR.frozen; obtain ⟨xX70, xX71, xX72, xX73⟩ := X7.u4; obtain ⟨xX80, xX81, xX82, xX83⟩ := X8.u4; go_wp2; clear xXR0 zXR0 xXR1 xXR2 xXR3 xX70 xX71 xX72 xX73 xX80 xX81 xX82 xX83; have SX := StN.mk4 XR (.int .i64 0) (.bool false) (.int .u64 0) (.int .i64 0); exact bodyPost_ret (by simp [results, Tryz.results67, go_sem, SX.box.cell]) rfl ⟨_, _, _, _, rfl, Fq.nought, (SX.below HB.out (by omega))⟩
    · have hr2 : sgi (!up) TP = r := by
        rw [z2.1 rfl] at hr; exact (qt_none'.1 hr).symm
      have HRR := Lib.hid hr2; clear i1 i2 z1 z2 q1 q2 hr hr2; obtain ⟨xX70, xX71, xX72, xX73⟩ := X7.u4; obtain ⟨xX80, xX81, xX82, xX83⟩ := X8.u4
      go_wp2_with fail
      refine (yInf (s := !up) HRR.out).mono ?_; rintro ee w6 ⟨K3, s3, M3, E3, rfl, q3, B⟩; clear xX70 xX71 xX72 xX73 xX80 xX81 xX82 xX83; replace XR := XR.below B; replace X7 := X7.below B; replace X8 := X8.below B; replace HB := Lib.hid (bt HB.out B); clear B; obtain ⟨xXR0, xXR1, xXR2, xXR3⟩ := XR.u4; have zXR0 := XR.frozen; go_wp2; clear xXR0 zXR0 xXR1 xXR2 xXR3; have SX := StN.mk4 XR (.int .i64 K3) (.bool s3) (.int .u64 M3) (.int .i64 E3)
      exact bodyPost_ret (by simp [results, Tryz.results67, go_sem, SX.box.cell]) rfl ⟨_, _, _, _, rfl, q3, (SX.below HB.out (by omega))⟩
    · have hy0 : y ≠ 0 := fun c => absurd (z2.2 c) (by decide)
      have hn : ¬ (x = 0 ∨ infp y = true) := by
        rw [i2]; rintro (c | c)
        · exact absurd (z1.2 c) (by decide)
        · exact absurd c (by decide)
      obtain ⟨a1, a2, a3, a4, _⟩ := fq_vr q1; obtain ⟨b1, b2, b3, b4, _⟩ := fq_vr q2; obtain ⟨α, v, u1, u2, u3, u4, u5, u6⟩ := exq_one (s := s1) a1 a2; obtain ⟨β, v', t1, t2, t3, t4, t5, t6⟩ := exq_one (s := s2) b1 b2
      obtain ⟨r', hr'⟩ := sid_ex up (sgi (s1 != s2) ((α : Int) * 2 ^ (E1 - E2 + v - v' + (KK : Int)).toNat)) (show (0 : Int) < (β : Int) by omega)
      have hq := div_side q1 q2 u3 t3 t4 u6 t6 hr'; have hrr := hr.uniq hq; rw [← hrr] at hr'; obtain ⟨V, hV⟩ : ∃ V : Int, (v : Int) = V := ⟨_, rfl⟩; obtain ⟨V', hV'⟩ : ∃ V : Int, (v' : Int) = V := ⟨_, rfl⟩; rw [hV] at u2; rw [hV'] at t2; rw [hV, hV'] at hr'
      have w1_ : 0 ≤ V ∧ V < 64 ∧ 0 ≤ V' ∧ V' < 64 := by omega
      obtain ⟨e, he⟩ : ∃ e, E1 - E2 + V - V' = e := ⟨_, rfl⟩; rw [he] at hr'; have HXA := Lib.hid u1; have HXB := Lib.hid u2; have HYA := Lib.hid t1; have HYB := Lib.hid t2; have HEA := Lib.hid (exb_one (s := s1) a1); have HEB := Lib.hid (exb_one (s := s2) b1); have HRR := Lib.hid hr'
      have HW1 : Hid (IntKind.i64.wrap (E1 - E2) = E1 - E2) := Lib.hid (IntWalk.i64_in _ (by omega))
      have HW2 : Hid (IntKind.i64.wrap (E1 - E2 + V) = E1 - E2 + V) := Lib.hid (IntWalk.i64_in _ (by omega))
      have HW3 : Hid (IntKind.i64.wrap (E1 - E2 + V - V') = e) := Lib.hid (by rw [he]; exact IntWalk.i64_in _ (by omega))
      have hb1 : -2200000 ≤ e := by omega
      have hb2 : e ≤ 2200000 := by omega
      have m1 : 0 ≤ M1 := by omega
      have m2 : 0 ≤ M2 := by omega
      clear i1 i2 z1 z2 hr hn hy0 a1 a3 a4 b1 b3 b4 u1 u2 u3 u5 u6 t1 t2 t3 t5 t6 hq hrr hr' he hV hV' w1_ q1 q2; obtain ⟨xX70, xX71, xX72, xX73⟩ := X7.u4; obtain ⟨xX80, xX81, xX82, xX83⟩ := X8.u4
      go_wp2_with fail
      refine (yExact0 m1 a2 HEA.out HXA.out HXB.out).mono ?_; rintro ee w6 ⟨sa, Aa, na, ca, rfl, pa, ka, B⟩; clear xX70 xX71 xX72 xX73 xX80 xX81 xX82 xX83; replace XR := XR.below B; replace X7 := X7.below B; replace X8 := X8.below B; replace HB := Lib.hid (bt HB.out B); clear B; obtain ⟨ra, hsa⟩ := wn_rd pa u4; subst hsa; clear pa
      go_upto_region 10 with (fail)
      have lX9 := Nat.le_refl (World.heap w6).size; have nX9XR := XR.lt; have nX9X7 := X7.lt; have nX9X8 := X8.lt; generalize hWn : w6.alloc _ = w7 at *; obtain ⟨X9, BW⟩ := Bo.nw hWn; clear hWn; replace XR := XR.below BW; replace X7 := X7.below BW; replace X8 := X8.below BW; replace ra := ra.below BW; replace HB := Lib.hid (bt HB.out BW); clear BW; obtain ⟨xX70, xX71, xX72, xX73⟩ := X7.u4; obtain ⟨xX80, xX81, xX82, xX83⟩ := X8.u4
      go_wp2_with fail
      refine (yExact0 m2 b2 HEB.out HYA.out HYB.out).mono ?_; rintro ee w8 ⟨sb, Ab, nb, cb, rfl, pb, kb, B⟩; clear xX70 xX71 xX72 xX73 xX80 xX81 xX82 xX83; replace XR := XR.below B; replace X7 := X7.below B; replace X8 := X8.below B; replace X9 := X9.below B; replace ra := ra.below B; replace HB := Lib.hid (bt HB.out B); clear B; obtain ⟨rb, hsb⟩ := wn_rd pb t4; subst hsb; clear pb
      go_upto_region 11 with (fail)
      have lX11 := Nat.le_refl (World.heap w8).size; have nX11XR := XR.lt; have nX11X7 := X7.lt; have nX11X8 := X8.lt; have nX11X9 := X9.lt; generalize hWn : w8.alloc _ = w9 at *; obtain ⟨X11, BW⟩ := Bo.nw hWn; clear hWn; replace XR := XR.below BW; replace X7 := X7.below BW; replace X8 := X8.below BW; replace X9 := X9.below BW; replace ra := ra.below BW; replace rb := rb.below BW; replace HB := Lib.hid (bt HB.out BW)
      clear BW; clear lX9 lX11; obtain ⟨xX70, xX71, xX72, xX73⟩ := X7.u4; obtain ⟨xX80, xX81, xX82, xX83⟩ := X8.u4; obtain ⟨xX90, xX91, xX92⟩ := X9.u3; obtain ⟨xX110, xX111, xX112⟩ := X11.u3; have hw1 := HW1.out; have hw2 := HW2.out; have hw3 := HW3.out
      go_wp2_with fail
      refine (jRatio0 ra rb (by omega) (by omega) hb1 hb2 t4 HRR.out).mono ?_; rintro ee wA ⟨K3, s3, M3, E3, rfl, q3, B⟩; clear xX70 xX71 xX72 xX73 xX80 xX81 xX82 xX83 xX90 xX91 xX92 xX110 xX111 xX112; replace XR := XR.below B; replace X7 := X7.below B; replace X8 := X8.below B; replace X9 := X9.below B; replace X11 := X11.below B; replace ra := ra.below B; replace rb := rb.below B; replace HB := Lib.hid (bt HB.out B)
      clear B; clear hw1 hw2 hw3; obtain ⟨xXR0, xXR1, xXR2, xXR3⟩ := XR.u4; have zXR0 := XR.frozen; go_wp2; clear xXR0 zXR0 xXR1 xXR2 xXR3; have SX := StN.mk4 XR (.int .i64 K3) (.bool s3) (.int .u64 M3) (.int .i64 E3); exact bodyPost_ret (by simp [results, Tryz.results67, go_sem, SX.box.cell]) rfl ⟨_, _, _, _, rfl, q3, (SX.below HB.out (by omega))⟩
end Go.Proofs.YteejbcimmmcnlaaGreatDoor

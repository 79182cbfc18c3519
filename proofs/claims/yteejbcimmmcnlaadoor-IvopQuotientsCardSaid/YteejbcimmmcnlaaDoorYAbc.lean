/-
  Contracts and words that the statement's proof rests on, several texts in one: Mr, Md.
-/
import Derived.Test.YteejbcimmmcnlaaDoorYAav
import Derived.Test.YteejbcimmmcnlaaDoorYAbb
/-
  What the highest bits of a quotient and of a root are, and to what they are rounded.
-/
namespace Go.Proofs.YteejbcimmmcnlaaDoor
open Go.RowKit
set_option linter.unusedVariables false
set_option linter.unusedSimpArgs false
set_option maxRecDepth 100000

/-- The highest bits of a number, whether they are all of it, and to what it is rounded. -/
def Pk (w : World) (A : Option Addr) (n c : Nat) (t : Bool) (x : Int) (P : Bool → Bool → Int → Prop) : Prop :=
  ∃ q d : Nat, Nm w A n c q ∧ n ≤ 20000 ∧ decide (d = 0) = t ∧ -3000000 ≤ x ∧ x ≤ 3000000 ∧ ∀ σ up, P σ up (rnd up (mk (sgi σ ((stk q d : Nat) : Int)) (x - 1)).1 (mk (sgi σ ((stk q d : Nat) : Int)) (x - 1)).2)
theorem Pk.below {w w' : World} {A : Option Addr} {n c : Nat} {t : Bool} {x : Int} {P : Bool → Bool → Int → Prop} (h : Pk w A n c t x P) (b : Below w.heap.size w w') : Pk w' A n c t x P := by
  obtain ⟨q, d, h1, h2⟩ := h; exact ⟨q, d, h1.below b, h2⟩
/-- Such bits are answered. -/
def PP7 (w : World) (P : Bool → Bool → Int → Prop) (e : Ending) (w' : World) : Prop := ∃ A n c t x, e = .returned (.agg #[.slice A n c, .bool t, .int .i64 x]) ∧ Pk w' A n c t x P ∧ Below w.heap.size w w'
def Jo.Fact.pk (P : Bool → Bool → Int → Prop) : Jo.Fact := ⟨fun v w => ∃ A n c t x, v = .agg #[.slice A n c, .bool t, .int .i64 x] ∧ Pk w A n c t x P, fun v w w' h b => by
  obtain ⟨A, n, c, t, x, e, p⟩ := h; exact ⟨A, n, c, t, x, e, p.below b⟩⟩
/-- Part of what is answered of a quotient. -/
def PQ7 (w : World) (Q : Nat) (t : Bool) (x : Int) (e : Ending) (w' : World) : Prop := ∃ A n c, e = .returned (.agg #[.slice A n c, .bool t, .int .i64 x]) ∧ Nm w' A n c Q ∧ n ≤ 20000 ∧ Below w.heap.size w w'
/-- The call of moved that is made. -/
def MV (α : Nat) (z : Int) (T : Nat) (t : Bool) : Prop := ∀ (w : World) (A : Option Addr) (n c : Nat), Rd w A n c α → n ≤ 8000 → Calls Tryd.prog 53 #[.slice A n c, .int .i64 z] w (P1B w 15000 T t)
set_option maxHeartbeats 1000000 in
theorem qdivided_e {w : World} {A B : Option Addr} {n c m d α β T Q R : Nat} {La Lb z e x : Int} (ha : Rd w A n c α) (hb : Rd w B m d β) (hn : n ≤ 8000) (hβ : β ≠ 0) (hla : ((blen α : Nat) : Int) = La) (hlb : ((blen β : Nat) : Int) = Lb) (hz : Lb - La + 64 = z) (z1 : -200000 ≤ z) (z2 : z ≤ 200000) (hx : e - z = x) (x1 : -3000000 ≤ x) (x2 : x ≤ 2097152)
    (hm : MV α z T true) (hQ : T / β = Q) (hR : T % β = R) (h0 : R = 0) : Calls Tryd.prog 41 #[.slice A n c, .slice B m d, .int .i64 e] w (PQ7 w Q true x) := by
  have HM := Lib.hid hm; have HLA := Lib.hid hla; have HLB := Lib.hid hlb; have HQ := Lib.hid hQ; have HRR := Lib.hid hR; have H0 := Lib.hid h0; have HB0 := Lib.hid hβ
  have e0 : Lb - La = z - 64 := by omega
  have HW1 : Hid (IntKind.i64.wrap (Lb - La) = z - 64) := Lib.hid (by rw [e0]; exact IntWalk.i64_in _ (by omega))
  have HW2 : Hid (wrap64 z = z) := Lib.hid (IntWalk.wrap64_in _ (by omega))
  have HW4 : Hid (wrap64 x = x) := Lib.hid (IntWalk.wrap64_in _ (by omega))
  have HW3 : Hid (IntKind.i64.wrap (e - z) = x) := Lib.hid (by rw [hx]; exact IntWalk.i64_in _ (by omega))
  have hz3 : z ≤ 2097152 := by omega
  have HMZ : Hid (min z 2097152 = z) := Lib.hid (by omega)
  have HMX : Hid (min x 2097152 = x) := Lib.hid (by omega)
  clear hm hla hlb hz e0 hx hQ hR h0 hβ z1 z2 x1
  go_enter Tryd.func41, Tryd.ntmps41
  go_upto_region 1 with (fail)
  generalize hW1 : w.alloc _ = w1 at *; obtain ⟨XR, HB⟩ := Bo.en1 hW1; replace ha := ha.below HB.out; replace hb := hb.below HB.out; clear hW1
  go_wp2_with fail
  refine (vLenE hb HLB.out).mono ?_; rintro ee w2 ⟨rfl, B⟩; replace XR := XR.below B; replace ha := ha.below B; replace hb := hb.below B; replace HB := Lib.hid (bt HB.out B); clear B
  go_wp2_with fail
  refine (vLenE ha HLA.out).mono ?_; rintro ee w3 ⟨rfl, B⟩; replace XR := XR.below B; replace ha := ha.below B; replace hb := hb.below B; replace HB := Lib.hid (bt HB.out B); clear B; have hw1 := HW1.out; have hw2 := HW2.out; have hmz := HMZ.out
  go_wp2_with fail
  refine (HM.out _ _ _ _ ha hn).mono ?_; rintro ee w4 ⟨A4, n4, c4, rfl, p4, k4, B⟩; replace XR := XR.below B; replace ha := ha.below B; replace hb := hb.below B; replace HB := Lib.hid (bt HB.out B); clear B; clear hw1 hw2 hmz
  go_wp2_with fail
  refine (vDivE p4.rd hb (by omega) HB0.out HQ.out HRR.out).mono ?_; rintro ee w5 ⟨A5, n5, c5, B5, m5, d5, rfl, p5, r5, k5, l5, B⟩; replace XR := XR.below B; replace hb := hb.below B; replace p4 := p4.below B; replace HB := Lib.hid (bt HB.out B); clear B; clear hb p4
  obtain rfl : m5 = 0 := by have := r5.pos; have := H0.out; omega
  clear r5 H0; have hw3 := HW3.out; have hmx := HMX.out; obtain ⟨xXR0, xXR1, xXR2⟩ := XR.u3; have zXR0 := XR.frozen; go_wp2; clear xXR0 zXR0 xXR1 xXR2; have SX := StN.mk3 XR (.slice A5 n5 c5) (.bool true) (.int .i64 x); replace p5 := p5.stn SX (by simp [no32]); exact bodyPost_ret (v := .agg #[.slice A5 n5 c5, .bool true, .int .i64 x]) (by simp [results, Tryd.results41, go_sem, SX.box.cell]) rfl ⟨A5, n5, c5, rfl, p5, by omega, (SX.below HB.out (by omega))⟩
set_option maxHeartbeats 1000000 in
theorem qdivided_l {w : World} {A B : Option Addr} {n c m d α β T Q R : Nat} {La Lb z e x : Int} (ha : Rd w A n c α) (hb : Rd w B m d β) (hn : n ≤ 8000) (hβ : β ≠ 0) (hla : ((blen α : Nat) : Int) = La) (hlb : ((blen β : Nat) : Int) = Lb) (hz : Lb - La + 64 = z) (z1 : -200000 ≤ z) (z2 : z ≤ 200000) (hx : e - z = x) (x1 : -3000000 ≤ x) (x2 : x ≤ 2097152)
    (hm : MV α z T true) (hQ : T / β = Q) (hR : T % β = R) (h0 : R ≠ 0) : Calls Tryd.prog 41 #[.slice A n c, .slice B m d, .int .i64 e] w (PQ7 w Q false x) := by
  have HM := Lib.hid hm; have HLA := Lib.hid hla; have HLB := Lib.hid hlb; have HQ := Lib.hid hQ; have HRR := Lib.hid hR; have H0 := Lib.hid h0; have HB0 := Lib.hid hβ
  have e0 : Lb - La = z - 64 := by omega
  have HW1 : Hid (IntKind.i64.wrap (Lb - La) = z - 64) := Lib.hid (by rw [e0]; exact IntWalk.i64_in _ (by omega))
  have HW2 : Hid (wrap64 z = z) := Lib.hid (IntWalk.wrap64_in _ (by omega))
  have HW4 : Hid (wrap64 x = x) := Lib.hid (IntWalk.wrap64_in _ (by omega))
  have HW3 : Hid (IntKind.i64.wrap (e - z) = x) := Lib.hid (by rw [hx]; exact IntWalk.i64_in _ (by omega))
  have hz3 : z ≤ 2097152 := by omega
  have HMZ : Hid (min z 2097152 = z) := Lib.hid (by omega)
  have HMX : Hid (min x 2097152 = x) := Lib.hid (by omega)
  clear hm hla hlb hz e0 hx hQ hR h0 hβ z1 z2 x1
  go_enter Tryd.func41, Tryd.ntmps41
  go_upto_region 1 with (fail)
  generalize hW1 : w.alloc _ = w1 at *; obtain ⟨XR, HB⟩ := Bo.en1 hW1; replace ha := ha.below HB.out; replace hb := hb.below HB.out; clear hW1
  go_wp2_with fail
  refine (vLenE hb HLB.out).mono ?_; rintro ee w2 ⟨rfl, B⟩; replace XR := XR.below B; replace ha := ha.below B; replace hb := hb.below B; replace HB := Lib.hid (bt HB.out B); clear B
  go_wp2_with fail
  refine (vLenE ha HLA.out).mono ?_; rintro ee w3 ⟨rfl, B⟩; replace XR := XR.below B; replace ha := ha.below B; replace hb := hb.below B; replace HB := Lib.hid (bt HB.out B); clear B; have hw1 := HW1.out; have hw2 := HW2.out; have hmz := HMZ.out
  go_wp2_with fail
  refine (HM.out _ _ _ _ ha hn).mono ?_; rintro ee w4 ⟨A4, n4, c4, rfl, p4, k4, B⟩; replace XR := XR.below B; replace ha := ha.below B; replace hb := hb.below B; replace HB := Lib.hid (bt HB.out B); clear B; clear hw1 hw2 hmz
  go_wp2_with fail
  refine (vDivE p4.rd hb (by omega) HB0.out HQ.out HRR.out).mono ?_; rintro ee w5 ⟨A5, n5, c5, B5, m5, d5, rfl, p5, r5, k5, l5, B⟩; replace XR := XR.below B; replace hb := hb.below B; replace p4 := p4.below B; replace HB := Lib.hid (bt HB.out B); clear B; clear hb p4
  have hne : ((m5 : Int) == 0) = false := by
    have := r5.pos
    have := H0.out
    have : (m5 : Int) ≠ 0 := by omega
    simpa using this
  have hne2 : ¬ m5 = 0 := by have := r5.pos; have := H0.out; omega
  clear r5 H0; have hw3 := HW3.out; have hmx := HMX.out; obtain ⟨xXR0, xXR1, xXR2⟩ := XR.u3; have zXR0 := XR.frozen; go_wp2; clear xXR0 zXR0 xXR1 xXR2; have SX := StN.mk3 XR (.slice A5 n5 c5) (.bool false) (.int .i64 x); replace p5 := p5.stn SX (by simp [no32]); exact bodyPost_ret (v := .agg #[.slice A5 n5 c5, .bool false, .int .i64 x]) (by simp [results, Tryd.results41, go_sem, SX.box.cell]) rfl ⟨A5, n5, c5, rfl, p5, by omega, (SX.below HB.out (by omega))⟩
set_option maxHeartbeats 1000000 in
theorem qdivided_n {w : World} {A B : Option Addr} {n c m d α β T Q R : Nat} {La Lb z e x : Int} (ha : Rd w A n c α) (hb : Rd w B m d β) (hn : n ≤ 8000) (hβ : β ≠ 0) (hla : ((blen α : Nat) : Int) = La) (hlb : ((blen β : Nat) : Int) = Lb) (hz : Lb - La + 64 = z) (z1 : -200000 ≤ z) (z2 : z ≤ 200000) (hx : e - z = x) (x1 : -3000000 ≤ x) (x2 : x ≤ 2097152)
    (hm : MV α z T false) (hQ : T / β = Q) (hR : T % β = R) (h0 : True) : Calls Tryd.prog 41 #[.slice A n c, .slice B m d, .int .i64 e] w (PQ7 w Q false x) := by
  have HM := Lib.hid hm; have HLA := Lib.hid hla; have HLB := Lib.hid hlb; have HQ := Lib.hid hQ; have HRR := Lib.hid hR; have H0 := Lib.hid h0; have HB0 := Lib.hid hβ
  have e0 : Lb - La = z - 64 := by omega
  have HW1 : Hid (IntKind.i64.wrap (Lb - La) = z - 64) := Lib.hid (by rw [e0]; exact IntWalk.i64_in _ (by omega))
  have HW2 : Hid (wrap64 z = z) := Lib.hid (IntWalk.wrap64_in _ (by omega))
  have HW4 : Hid (wrap64 x = x) := Lib.hid (IntWalk.wrap64_in _ (by omega))
  have HW3 : Hid (IntKind.i64.wrap (e - z) = x) := Lib.hid (by rw [hx]; exact IntWalk.i64_in _ (by omega))
  have hz3 : z ≤ 2097152 := by omega
  have HMZ : Hid (min z 2097152 = z) := Lib.hid (by omega)
  have HMX : Hid (min x 2097152 = x) := Lib.hid (by omega)
  clear hm hla hlb hz e0 hx hQ hR h0 hβ z1 z2 x1
  go_enter Tryd.func41, Tryd.ntmps41
  go_upto_region 1 with (fail)
  generalize hW1 : w.alloc _ = w1 at *; obtain ⟨XR, HB⟩ := Bo.en1 hW1; replace ha := ha.below HB.out; replace hb := hb.below HB.out; clear hW1
  go_wp2_with fail
  refine (vLenE hb HLB.out).mono ?_; rintro ee w2 ⟨rfl, B⟩; replace XR := XR.below B; replace ha := ha.below B; replace hb := hb.below B; replace HB := Lib.hid (bt HB.out B); clear B
  go_wp2_with fail
  refine (vLenE ha HLA.out).mono ?_; rintro ee w3 ⟨rfl, B⟩; replace XR := XR.below B; replace ha := ha.below B; replace hb := hb.below B; replace HB := Lib.hid (bt HB.out B); clear B; have hw1 := HW1.out; have hw2 := HW2.out; have hmz := HMZ.out
  go_wp2_with fail
  refine (HM.out _ _ _ _ ha hn).mono ?_; rintro ee w4 ⟨A4, n4, c4, rfl, p4, k4, B⟩; replace XR := XR.below B; replace ha := ha.below B; replace hb := hb.below B; replace HB := Lib.hid (bt HB.out B); clear B; clear hw1 hw2 hmz
  go_wp2_with fail
  refine (vDivE p4.rd hb (by omega) HB0.out HQ.out HRR.out).mono ?_; rintro ee w5 ⟨A5, n5, c5, B5, m5, d5, rfl, p5, r5, k5, l5, B⟩; replace XR := XR.below B; replace hb := hb.below B; replace p4 := p4.below B; replace HB := Lib.hid (bt HB.out B); clear B; clear hb p4; clear r5 H0; have hw3 := HW3.out; have hmx := HMX.out; obtain ⟨xXR0, xXR1, xXR2⟩ := XR.u3; have zXR0 := XR.frozen; go_wp2; clear xXR0 zXR0 xXR1 xXR2
  have SX := StN.mk3 XR (.slice A5 n5 c5) (.bool false) (.int .i64 x); replace p5 := p5.stn SX (by simp [no32]); exact bodyPost_ret (v := .agg #[.slice A5 n5 c5, .bool false, .int .i64 x]) (by simp [results, Tryd.results41, go_sem, SX.box.cell]) rfl ⟨A5, n5, c5, rfl, p5, by omega, (SX.below HB.out (by omega))⟩
theorem moved_up {α k : Nat} (hk : k ≤ 200000) : MV α (k : Int) (α * 2 ^ k) true := fun w A n c h hn => qmoved_up h hn hk rfl
theorem moved_dn {α k : Nat} {z : Int} (h0 : 0 < k) (hk : k ≤ 200000) (hz : -z = (k : Int)) : MV α z (α / 2 ^ k) (decide (α / 2 ^ k * 2 ^ k = α)) := fun w A n c h hn => by
  refine qmoved_dn h hn hk h0 hz rfl rfl rfl ?_
  by_cases c : α / 2 ^ k * 2 ^ k = α
  · rw [decide_eq_true c, c, cmpI_self]
    rfl
  · rw [decide_eq_false c]
    have : ¬ cmpI ((α / 2 ^ k * 2 ^ k : Nat) : Int) (α : Int) = 0 := fun e => c (by have := cmpI_zero.1 e; omega)
    simpa using this
/-- The quotient of two numbers above nought. -/
theorem qDivided {w : World} {A B : Option Addr} {n c m d α β : Nat} {e : Int} {P : Bool → Bool → Int → Prop} (ha : Rd w A n c α) (hb : Rd w B m d β) (hn : n ≤ 3500) (hm : m ≤ 3500) (hα : 0 < α) (hβ : 0 < β) (e1 : -2200000 ≤ e) (e2 : e ≤ 2200000) (e3 : e - ((blen β : Int) - (blen α : Int) + 64) ≤ 2097152)
    (hP : ∀ σ up r, Sid up (sgi σ ((α : Int) * 2 ^ (e + (KK : Int)).toNat)) (β : Int) r → P σ up r) : Calls Tryd.prog 41 #[.slice A n c, .slice B m d, .int .i64 e] w (PP7 w P) := by
  have hba := ha.blen_le; have hbb := hb.blen_le; obtain ⟨z, hz⟩ : ∃ z : Int, (blen β : Int) - (blen α : Int) + 64 = z := ⟨_, rfl⟩; rw [hz] at e3
  have hn0 : β ≠ 0 := by omega
  have fin : ∀ {Q D : Nat} {t t' : Bool}, t' = t → decide (D = 0) = t → (∀ σ up, Sid up (sgi σ ((α : Int) * 2 ^ (e + (KK : Int)).toNat)) (β : Int) (rnd up (mk (sgi σ ((stk Q D : Nat) : Int)) (e - z - 1)).1 (mk (sgi σ ((stk Q D : Nat) : Int)) (e - z - 1)).2)) → ∀ ee w', PQ7 w Q t' (e - z) ee w' → PP7 w P ee w' := by
    rintro Q D t t' rfl ht hs ee w' ⟨A', n', c', he, hnm, hk, hb'⟩
    exact ⟨A', n', c', t', e - z, he, ⟨Q, D, hnm, hk, ht, by omega, by omega, fun σ up => hP σ up _ (hs σ up)⟩, hb'⟩
  rcases Int.lt_or_le z 0 with c0 | c0
  · obtain ⟨k, hk⟩ : ∃ k : Nat, z = -(k : Int) := ⟨z.natAbs, by omega⟩
    have mv := moved_dn (α := α) (k := k) (z := z) (by omega) (by omega) (by omega)
    have hs := fun {D} (hd : D = 0 ↔ (α / 2 ^ k * 2 ^ k = α ∧ α / 2 ^ k % β = 0)) (σ up : Bool) => part_dn (e := e) (d := D) hα hβ (by omega) (by omega) e1 e2 hd σ up
    have ez : e + (k : Int) - 1 = e - z - 1 := by omega
    rw [ez] at hs
    by_cases h1 : α / 2 ^ k * 2 ^ k = α
    · rw [decide_eq_true h1] at mv
      by_cases h2 : α / 2 ^ k % β = 0
      · exact (qdivided_e ha hb (by omega) hn0 rfl rfl hz (by omega) (by omega) rfl (by omega) e3 mv rfl rfl h2).mono (fin (D := 0) rfl rfl (hs ⟨fun _ => ⟨h1, h2⟩, fun _ => rfl⟩))
      · exact (qdivided_l ha hb (by omega) hn0 rfl rfl hz (by omega) (by omega) rfl (by omega) e3 mv rfl rfl h2).mono (fin (D := 1) rfl rfl (hs ⟨fun h => absurd h (by decide), fun h => absurd h.2 h2⟩))
    · rw [decide_eq_false h1] at mv
      exact (qdivided_n ha hb (by omega) hn0 rfl rfl hz (by omega) (by omega) rfl (by omega) e3 mv rfl rfl trivial).mono (fin (D := 1) rfl rfl (hs ⟨fun h => absurd h (by decide), fun h => absurd h.1 h1⟩))
  · obtain ⟨k, rfl⟩ : ∃ k : Nat, z = (k : Int) := ⟨z.toNat, by omega⟩
    have mv := moved_up (α := α) (k := k) (by omega); have hs := part_up (e := e) hα hβ hz (by omega) (by omega) e1 e2
    by_cases h2 : α * 2 ^ k % β = 0
    · exact (qdivided_e ha hb (by omega) hn0 rfl rfl hz (by omega) (by omega) rfl (by omega) e3 mv rfl rfl h2).mono (fin rfl (decide_eq_true h2) hs)
    · exact (qdivided_l ha hb (by omega) hn0 rfl rfl hz (by omega) (by omega) rfl (by omega) e3 mv rfl rfl h2).mono (fin rfl (decide_eq_false h2) hs)
theorem stk_zero7 (q : Nat) : stk q 0 = q * 2 ^ 1 := by
  unfold stk
  rw [if_pos rfl]
  omega
theorem stk_one7 {q r : Nat} (h : r ≠ 0) : stk q r = q * 2 ^ 1 + 1 := by
  unfold stk
  rw [if_neg h]
  omega
theorem sg_sgi7 (s : Bool) (a : Nat) : sg s a = sgi s (a : Int) := by
  cases s
  · rw [sg_false, wsg_f]
  · rw [sg_true, wsg_t]
theorem lit_one7 (W : World) : Rd (W.alloc (.cells #[.int .u32 1] 75)) (some ⟨W.heap.size, 0, none⟩) 1 1 1 :=
  ⟨_, [1], (Own.new W [1]).all (Lim.cons (by decide) Lim.nil) (by simp) (Nat.le_refl _), by decide⟩
set_option maxHeartbeats 1000000 in
theorem qround_e {w : World} {A : Option Addr} {n c q a0 a : Nat} {x r : Int} {σ up : Bool} (hT : Tab w) (h : Nm w A n c q) (hn : n ≤ 20000) (h0 : q * 2 ^ 1 = a0) (h1 : a0 = a) (x1 : -3000000 ≤ x) (x2 : x ≤ 3000000) (hr : rnd up (mk (sg σ a) (x - 1)).1 (mk (sg σ a) (x - 1)).2 = r) : Calls Tryd.prog 43 #[.agg #[.slice A n c, .bool true, .int .i64 x], .bool σ, .bool up] w (PN w r) := by
  have HA := Lib.hid h0; have H1 := Lib.hid h1; have HR := Lib.hid hr
  have HW : Hid (IntKind.i64.wrap (x - 1) = x - 1) := Lib.hid (IntWalk.i64_in _ (by omega))
  clear h0 h1 hr x1 x2
  go_enter Tryd.func43, Tryd.ntmps43
  go_upto_region 1 with (fail)
  generalize hW1 : (w.alloc _).alloc _ = w1 at *; obtain ⟨X3, XR, HB⟩ := Bo.en2 hW1; replace hT := hT.below HB.out; replace h := h.below HB.out; clear hW1; obtain ⟨xX30, xX31, xX32⟩ := X3.u3
  go_wp2_with fail
  refine (vShlE (s := 1) h.rd (by omega) (by decide) HA.out).mono ?_; rintro ee w2 ⟨A2, n2, c2, rfl, p2, k2, B⟩; clear xX30 xX31 xX32; replace X3 := X3.below B; replace XR := XR.below B; replace hT := hT.below B; replace h := h.below B; replace HB := Lib.hid (bt HB.out B); clear B; clear h
  obtain rfl := H1.out
  obtain ⟨xX30, xX31, xX32⟩ := X3.u3
  go_upto_region 4 with (fail)
  clear xX30 xX31 xX32; refine Jo.rk [0, 1, 2, 3, 4, 5, 6, 7, 8] [some 17, some 18, some 19, some 20, some 21, some 22, some 23, some 24, some 25, none] [[], [], [0, 1], [], [3], [4], [2, 5], [], [6, 7], []] 10 1 [Jo.qb σ, Jo.Fact.eq (.slice A2 n2 c2), Jo.Fact.wn (sg σ a0) 30000, Jo.qp w.heap.size 2, Jo.qi x, Jo.Fact.eq (.int .i64 (x - 1)), Jo.Fact.dy (sg σ a0) (x - 1) 30000, Jo.qb up, Jo.Fact.num r, Jo.Fact.any] (by kernel_rfl) (by kernel_rfl) (by decide) rfl ?_ ?_
  · refine Jo.jm rfl ?_ ?_
    · rintro wj hJ K hK; simp only [Jo.z] at hK ⊢; go_simp; exact hK.out _ _ rfl (br _ _)
    refine Jo.jm rfl ?_ ?_
    · rintro wj hJ K hK; simp only [Jo.z] at hK ⊢; go_simp; exact hK.out _ _ rfl (br _ _)
    refine Jo.jm rfl ?_ ?_
    · rintro wj hJ _ rfl _ rfl K hK; simp only [Jo.z] at hK ⊢; go_simp; refine (wMake σ (p2.below hJ).rd).mono ?_; rintro ee wk ⟨s7, A7, n7, c7, rfl, p7, k7, B⟩; exact hK.out _ _ ⟨s7, A7, n7, c7, rfl, p7, by omega⟩ B
    refine Jo.jm rfl ?_ ?_
    · rintro wj hJ K hK; simp only [Jo.z] at hK ⊢; go_simp; exact hK.out _ _ rfl (br _ _)
    refine Jo.jm rfl ?_ ?_
    · rintro wj hJ _ rfl K hK; simp only [Jo.z] at hK ⊢; have xX32 := (X3.below hJ).a 2 (.int .i64 x) rfl; go_simp; exact hK.out _ _ rfl (br _ _)
    refine Jo.jm rfl ?_ ?_
    · rintro wj hJ _ rfl K hK; simp only [Jo.z] at hK ⊢; have hw := HW.out; go_simp
      exact hK.out _ _ (by first | rfl | (show Value.int _ _ = Value.int _ _; rw [hw])) (br _ _)
    refine Jo.jm rfl ?_ ?_
    · rintro wj hJ _ ⟨s7, A7, n7, c7, rfl, p7, k7⟩ _ rfl K hK; simp only [Jo.z] at hK ⊢; go_simp; exact hK.out _ _ ⟨s7, A7, n7, c7, rfl, p7, k7⟩ (br _ _)
    refine Jo.jm rfl ?_ ?_
    · rintro wj hJ K hK; simp only [Jo.z] at hK ⊢; go_simp; exact hK.out _ _ rfl (br _ _)
    refine Jo.jm rfl ?_ ?_
    · rintro wj hJ _ ⟨s8, A8, n8, c8, rfl, p8, k8⟩ _ rfl K hK; simp only [Jo.z] at hK ⊢; go_simp; refine (nRound (hT.below hJ) p8.wr (by omega) rfl rfl HR.out).mono ?_; rintro ee wk ⟨K9, s9, M9, E9, rfl, q9, B⟩; exact hK.out _ _ ⟨K9, s9, M9, E9, rfl, q9⟩ B
    exact Jo.Steps.nil
  rintro w8 hJ _ rfl _ rfl _ ⟨_, _, _, _, rfl, _⟩ _ _ _ rfl _ rfl _ ⟨_, _, _, _, rfl, _⟩ _ rfl _ ⟨K9, s9, M9, E9, rfl, q9⟩ -; simp only [Jo.z]; replace X3 := X3.below hJ; replace XR := XR.below hJ; replace hT := hT.below hJ; replace p2 := p2.below hJ; replace HB := Lib.hid (bt HB.out hJ); obtain ⟨xXR0, xXR1, xXR2, xXR3⟩ := XR.u4; have zXR0 := XR.frozen
  refine Jo.jnext (i := 9) (o := ⟨none, _, _, _, _, _⟩) (by kernel_rfl) rfl (fun K hK => ?_)
  go_simp; refine hK.out _ _ ?_; clear hK K xXR0 zXR0 xXR1 xXR2 xXR3; have SX := StN.mk4 XR (.int .i64 K9) (.bool s9) (.int .u64 M9) (.int .i64 E9); refine Jo.jdone (by kernel_rfl) ?_; go_wp2; exact bodyPost_ret (by simp [results, Tryd.results43, go_sem, SX.box.cell]) rfl ⟨_, _, _, _, rfl, q9, (SX.below HB.out (by omega))⟩
set_option maxHeartbeats 1000000 in
theorem qround_l {w : World} {A : Option Addr} {n c q a0 a : Nat} {x r : Int} {σ up : Bool} (hT : Tab w) (h : Nm w A n c q) (hn : n ≤ 20000) (h0 : q * 2 ^ 1 = a0) (h1 : a0 + 1 = a) (x1 : -3000000 ≤ x) (x2 : x ≤ 3000000) (hr : rnd up (mk (sg σ a) (x - 1)).1 (mk (sg σ a) (x - 1)).2 = r) : Calls Tryd.prog 43 #[.agg #[.slice A n c, .bool false, .int .i64 x], .bool σ, .bool up] w (PN w r) := by
  have HA := Lib.hid h0; have H1 := Lib.hid h1; have HR := Lib.hid hr
  have HW : Hid (IntKind.i64.wrap (x - 1) = x - 1) := Lib.hid (IntWalk.i64_in _ (by omega))
  clear h0 h1 hr x1 x2
  go_enter Tryd.func43, Tryd.ntmps43
  go_upto_region 1 with (fail)
  generalize hW1 : (w.alloc _).alloc _ = w1 at *; obtain ⟨X3, XR, HB⟩ := Bo.en2 hW1; replace hT := hT.below HB.out; replace h := h.below HB.out; clear hW1; obtain ⟨xX30, xX31, xX32⟩ := X3.u3
  go_wp2_with fail
  refine (vShlE (s := 1) h.rd (by omega) (by decide) HA.out).mono ?_; rintro ee w2 ⟨A2, n2, c2, rfl, p2, k2, B⟩; clear xX30 xX31 xX32; replace X3 := X3.below B; replace XR := XR.below B; replace hT := hT.below B; replace h := h.below B; replace HB := Lib.hid (bt HB.out B); clear B; clear h; obtain ⟨xX30, xX31, xX32⟩ := X3.u3
  go_wp2_with fail
  refine (vAddE (p2.below (bel1 _ _)).rd (lit_one7 w2) (by omega) (by decide) H1.out).mono ?_; rintro ee w4 ⟨A4, n4, c4, rfl, p4, k4, B⟩; clear xX30 xX31 xX32; replace B := bt (bel1 _ _) B; replace X3 := X3.below B; replace XR := XR.below B; replace hT := hT.below B; replace p2 := p2.below B; replace HB := Lib.hid (bt HB.out B); clear B; clear p2; obtain ⟨xX30, xX31, xX32⟩ := X3.u3
  go_upto_region 4 with (fail)
  clear xX30 xX31 xX32; refine Jo.rk [0, 1, 2, 3, 4, 5, 6, 7, 8] [some 17, some 18, some 19, some 20, some 21, some 22, some 23, some 24, some 25, none] [[], [], [0, 1], [], [3], [4], [2, 5], [], [6, 7], []] 10 1 [Jo.qb σ, Jo.Fact.eq (.slice A4 n4 c4), Jo.Fact.wn (sg σ a) 30000, Jo.qp w.heap.size 2, Jo.qi x, Jo.Fact.eq (.int .i64 (x - 1)), Jo.Fact.dy (sg σ a) (x - 1) 30000, Jo.qb up, Jo.Fact.num r, Jo.Fact.any] (by kernel_rfl) (by kernel_rfl) (by decide) rfl ?_ ?_
  · refine Jo.jm rfl ?_ ?_
    · rintro wj hJ K hK; simp only [Jo.z] at hK ⊢; go_simp; exact hK.out _ _ rfl (br _ _)
    refine Jo.jm rfl ?_ ?_
    · rintro wj hJ K hK; simp only [Jo.z] at hK ⊢; go_simp; exact hK.out _ _ rfl (br _ _)
    refine Jo.jm rfl ?_ ?_
    · rintro wj hJ _ rfl _ rfl K hK; simp only [Jo.z] at hK ⊢; go_simp; refine (wMake σ (p4.below hJ).rd).mono ?_; rintro ee wk ⟨s7, A7, n7, c7, rfl, p7, k7, B⟩; exact hK.out _ _ ⟨s7, A7, n7, c7, rfl, p7, by omega⟩ B
    refine Jo.jm rfl ?_ ?_
    · rintro wj hJ K hK; simp only [Jo.z] at hK ⊢; go_simp; exact hK.out _ _ rfl (br _ _)
    refine Jo.jm rfl ?_ ?_
    · rintro wj hJ _ rfl K hK; simp only [Jo.z] at hK ⊢; have xX32 := (X3.below hJ).a 2 (.int .i64 x) rfl; go_simp; exact hK.out _ _ rfl (br _ _)
    refine Jo.jm rfl ?_ ?_
    · rintro wj hJ _ rfl K hK; simp only [Jo.z] at hK ⊢; have hw := HW.out; go_simp
      exact hK.out _ _ (by first | rfl | (show Value.int _ _ = Value.int _ _; rw [hw])) (br _ _)
    refine Jo.jm rfl ?_ ?_
    · rintro wj hJ _ ⟨s7, A7, n7, c7, rfl, p7, k7⟩ _ rfl K hK; simp only [Jo.z] at hK ⊢; go_simp; exact hK.out _ _ ⟨s7, A7, n7, c7, rfl, p7, k7⟩ (br _ _)
    refine Jo.jm rfl ?_ ?_
    · rintro wj hJ K hK; simp only [Jo.z] at hK ⊢; go_simp; exact hK.out _ _ rfl (br _ _)
    refine Jo.jm rfl ?_ ?_
    · rintro wj hJ _ ⟨s8, A8, n8, c8, rfl, p8, k8⟩ _ rfl K hK; simp only [Jo.z] at hK ⊢; go_simp; refine (nRound (hT.below hJ) p8.wr (by omega) rfl rfl HR.out).mono ?_; rintro ee wk ⟨K9, s9, M9, E9, rfl, q9, B⟩; exact hK.out _ _ ⟨K9, s9, M9, E9, rfl, q9⟩ B
    exact Jo.Steps.nil
  rintro w8 hJ _ rfl _ rfl _ ⟨_, _, _, _, rfl, _⟩ _ _ _ rfl _ rfl _ ⟨_, _, _, _, rfl, _⟩ _ rfl _ ⟨K9, s9, M9, E9, rfl, q9⟩ -; simp only [Jo.z]; replace X3 := X3.below hJ; replace XR := XR.below hJ; replace hT := hT.below hJ; replace p4 := p4.below hJ; replace HB := Lib.hid (bt HB.out hJ); obtain ⟨xXR0, xXR1, xXR2, xXR3⟩ := XR.u4; have zXR0 := XR.frozen
  refine Jo.jnext (i := 9) (o := ⟨none, _, _, _, _, _⟩) (by kernel_rfl) rfl (fun K hK => ?_)
  go_simp; refine hK.out _ _ ?_; clear hK K xXR0 zXR0 xXR1 xXR2 xXR3; have SX := StN.mk4 XR (.int .i64 K9) (.bool s9) (.int .u64 M9) (.int .i64 E9); refine Jo.jdone (by kernel_rfl) ?_; go_wp2; exact bodyPost_ret (by simp [results, Tryd.results43, go_sem, SX.box.cell]) rfl ⟨_, _, _, _, rfl, q9, (SX.below HB.out (by omega))⟩
theorem qRound {w : World} {A : Option Addr} {n c : Nat} {t σ up : Bool} {x r : Int} {P : Bool → Bool → Int → Prop} (hT : Tab w) (h : Pk w A n c t x P) (hr : ∀ r', P σ up r' → r' = r) : Calls Tryd.prog 43 #[.agg #[.slice A n c, .bool t, .int .i64 x], .bool σ, .bool up] w (PN w r) := by
  obtain ⟨q, d, hnm, hk, ht, x1, x2, hp⟩ := h; have e := hr _ (hp σ up); rw [← sg_sgi7] at e
  by_cases h0 : d = 0
  · subst h0
    obtain rfl : true = t := ht
    rw [stk_zero7] at e; exact qround_e hT hnm hk rfl rfl x1 x2 e
  · obtain rfl : false = t := by rw [← ht]; exact (decide_eq_false h0).symm
    rw [stk_one7 h0] at e; exact qround_l hT hnm hk rfl rfl x1 x2 e
end Go.Proofs.YteejbcimmmcnlaaDoor

/-
  What quot.Div and Root do (split from Ma).
-/
namespace Go.Proofs.YteejbcimmmcnlaaDoor
open Go.RowKit
set_option linter.unusedVariables false
set_option linter.unusedSimpArgs false
set_option maxRecDepth 100000

theorem blen_word {α : Nat} (h0 : 9223372036854775808 ≤ α) (h1 : α < 18446744073709551616) : blen α = 64 := blen_uniq (k := 63) (by omega) h0 h1
/-- What a quotient's bits are rounded to. -/
theorem div_pre {up s t : Bool} {M1 E1 M2 E2 x y r : Int} {α β : Nat} (q1 : Fq 1 s M1 E1 x) (q2 : Fq 1 t M2 E2 y) (ha : (α : Int) = M1) (hb : (β : Int) = M2) (hr : Qt up x y r) (hβ : 0 < β) :
    ∃ P : Bool → Bool → Int → Prop, (∀ σ up r', Sid up (sgi σ ((α : Int) * 2 ^ (E1 - E2 + (KK : Int)).toNat)) (β : Int) r' → P σ up r') ∧ (∀ r', P (s != t) up r' → r' = r) := by
  refine ⟨_, fun _ _ _ h => h, fun r' h => ?_⟩
  have e0 : E1 - E2 + ((0 : Nat) : Int) - ((0 : Nat) : Int) + (KK : Int) = E1 - E2 + (KK : Int) := by omega
  exact (div_side (v := 0) (w := 0) q1 q2 (by rw [← ha]; exact (Int.mul_one _).symm) (by rw [← hb]; exact (Int.mul_one _).symm) hβ (by decide) (by decide) (by rw [e0]; exact h)).uniq hr
set_option maxHeartbeats 2000000 in
theorem kDiv {w : World} {D D' M M' E E' : Int} {s s' : Bool} {up : Bool} {x y r : Int} (hT : Tab w) (hM : M < 18446744073709551616) (hM' : M' < 18446744073709551616) (hx : rk D s M E = x) (hy : rk D' s' M' E' = y) (hr : Qt up x y r) : Calls Tryd.prog 23 #[.agg #[.int .i64 D, .bool s, .int .u64 M, .int .i64 E], .agg #[.int .i64 D', .bool s', .int .u64 M', .int .i64 E'], .bool up] w (PN w r) := by
  obtain ⟨K1, s1, M1, E1, q1⟩ := fq_tk7 (D := D) (s := s) (M := M) (E := E) hM; obtain ⟨K2, s2, M2, E2, q2⟩ := fq_tk7 (D := D') (s := s') (M := M') (E := E') hM'; rw [hx] at q1; rw [hy] at q2; have HX := Lib.hid hx; have HY := Lib.hid hy; clear hx hy
  go_enter Tryd.func23, Tryd.ntmps23
  go_upto_region 1 with (fail)
  generalize hW1 : ((w.alloc _).alloc _).alloc _ = w1 at *; obtain ⟨X3, X4, XR, HB⟩ := Bo.en3 hW1; replace hT := hT.below HB.out; clear hW1
  refine Jo.region_joint (T := [0, 1, 2, 3]) (ds := [some 7, some 8, some 9, some 10, none, none]) (ls := [[], [0], [], [2], [], []]) (k := 6) (L := [(some 7, 0), (some 8, 1), (some 9, 2), (some 10, 3)]) (fuel := 2) (J := fun wj => Below (World.heap w1).size w1 wj)
    (F := [Jo.q4 D s M E, Jo.q4 K1 s1 M1 E1, Jo.q4 D' s' M' E', Jo.q4 K2 s2 M2 E2, Jo.Fact.any, Jo.Fact.any])
    (by kernel_rfl) (by kernel_rfl) (by decide) rfl rfl (fun _ _ h b => bt h b) ((br _ _).drew) ?_ (fun vs w2 hJ hd => ?_)
  · refine Jo.jm rfl ?_ ?_
    · rintro wj hJ K hK; simp only [Jo.z] at hK ⊢; obtain ⟨xX30, xX31, xX32, xX33⟩ := (X3.below hJ).u4; go_simp; exact hK.out _ _ rfl (br _ _)
    refine Jo.jm rfl ?_ ?_
    · rintro wj hJ _ rfl K hK; simp only [Jo.z] at hK ⊢; go_simp; refine (qTaken hM q1 HX.out).mono ?_; rintro ee wk ⟨rfl, B⟩; exact hK.out _ _ rfl B
    refine Jo.jm rfl ?_ ?_
    · rintro wj hJ K hK; simp only [Jo.z] at hK ⊢; obtain ⟨xX40, xX41, xX42, xX43⟩ := (X4.below hJ).u4; go_simp; exact hK.out _ _ rfl (br _ _)
    refine Jo.jm rfl ?_ ?_
    · rintro wj hJ _ rfl K hK; simp only [Jo.z] at hK ⊢; go_simp; refine (qTaken hM' q2 HY.out).mono ?_; rintro ee wk ⟨rfl, B⟩; exact hK.out _ _ rfl B
    exact Jo.Steps.nil
  simp only [Jo.putl, Jo.zd, Jo.ze, Act.put, Jo.za, Jo.zb, Jo.zc]
  rw [show vs 0 = _ from hd 0 (by decide), show vs 1 = _ from hd 1 (by decide), show vs 2 = _ from hd 2 (by decide), show vs 3 = _ from hd 3 (by decide)]
  clear hd; replace X3 := X3.below hJ; replace X4 := X4.below hJ; replace XR := XR.below hJ; replace hT := hT.below hJ; replace HB := Lib.hid (bt HB.out hJ); obtain ⟨xX30, xX31, xX32, xX33⟩ := X3.u4; have zX30 := X3.frozen
  refine Jo.jnext (i := 4) (o := ⟨none, _, _, _, _, _⟩) (by kernel_rfl) rfl (fun K hK => ?_)
  go_simp; refine hK.out _ _ ?_; clear hK K xX30 zX30 xX31 xX32 xX33; generalize hS : (((w2.setCell _ _).setCell _ _).setCell _ _).setCell _ _ = w3 at *; have SX := StN.of4 X3 hS; replace X4 := X4.stn SX (by omega); replace XR := XR.stn SX (by omega); replace hT := hT.stn SX (by simp [no8]); replace HB := Lib.hid (SX.below HB.out (by omega)); replace X3 := SX.box; clear SX hS; obtain ⟨xX40, xX41, xX42, xX43⟩ := X4.u4
  have zX40 := X4.frozen
  refine Jo.jnext (i := 5) (o := ⟨none, _, _, _, _, _⟩) (by kernel_rfl) rfl (fun K hK => ?_)
  go_simp; refine hK.out _ _ ?_; clear hK K xX40 zX40 xX41 xX42 xX43; generalize hS : (((w3.setCell _ _).setCell _ _).setCell _ _).setCell _ _ = w4 at *; have SX := StN.of4 X4 hS; replace X3 := X3.stn SX (by omega); replace XR := XR.stn SX (by omega); replace hT := hT.stn SX (by simp [no8]); replace HB := Lib.hid (SX.below HB.out (by omega)); replace X4 := SX.box; clear SX hS; refine Jo.jdone (by kernel_rfl) ?_
  clear HX HY hM hM'; have i1 := fq_inf q1; have i2 := fq_inf q2; have z1 := q1.zero_iff; have z2 := q2.zero_iff
  have kk1 : K1 = 2 ∨ K1 = 0 ∨ K1 = 1 := by rcases q1.cases with ⟨h, _⟩ | ⟨h, _⟩ | ⟨h, _⟩ <;> omega
  have kk2 : K2 = 2 ∨ K2 = 0 ∨ K2 = 1 := by rcases q2.cases with ⟨h, _⟩ | ⟨h, _⟩ | ⟨h, _⟩ <;> omega
  rcases kk1 with rfl | rfl | rfl
  · rcases kk2 with rfl | rfl | rfl
    · have hy0 : y ≠ 0 := fun c => absurd (z2.2 c) (by decide)
      have hr2 : r = 0 := (qt_zero hy0 (.inr i2)).1 hr
      subst hr2; clear i1 i2 z1 z2 q1 q2 hr hy0 hT; obtain ⟨xXR0, xXR1, xXR2, xXR3⟩ := XR.u4; have zXR0 := XR.frozen; obtain ⟨xX30, xX31, xX32, xX33⟩ := X3.u4; obtain ⟨xX40, xX41, xX42, xX43⟩ := X4.u4; go_wp2; clear xXR0 zXR0 xXR1 xXR2 xXR3 xX30 xX31 xX32 xX33 xX40 xX41 xX42 xX43; have SX := StN.mk4 XR (.int .i64 0) (.bool false) (.int .u64 0) (.int .i64 0); exact bodyPost_ret (by simp [results, Tryd.results23, go_sem, SX.box.cell]) rfl ⟨_, _, _, _, rfl, Fq.nought, (SX.below HB.out (by omega))⟩
    · have hr2 : sgi (!up) TP = r := by
        rw [z2.1 rfl] at hr; exact (qt_none'.1 hr).symm
      have HRR := Lib.hid hr2; clear i1 i2 z1 z2 q1 q2 hr hr2 hT; obtain ⟨xX30, xX31, xX32, xX33⟩ := X3.u4; obtain ⟨xX40, xX41, xX42, xX43⟩ := X4.u4
      go_wp2_with fail
      refine (qAway HRR.out).mono ?_; rintro ee w6 ⟨K3, s3, M3, E3, rfl, q3, B⟩; clear xX30 xX31 xX32 xX33 xX40 xX41 xX42 xX43; replace X3 := X3.below B; replace X4 := X4.below B; replace XR := XR.below B; replace HB := Lib.hid (bt HB.out B); clear B; obtain ⟨xXR0, xXR1, xXR2, xXR3⟩ := XR.u4; have zXR0 := XR.frozen; go_wp2; clear xXR0 zXR0 xXR1 xXR2 xXR3; have SX := StN.mk4 XR (.int .i64 K3) (.bool s3) (.int .u64 M3) (.int .i64 E3)
      exact bodyPost_ret (by simp [results, Tryd.results23, go_sem, SX.box.cell]) rfl ⟨_, _, _, _, rfl, q3, (SX.below HB.out (by omega))⟩
    · have hy0 : y ≠ 0 := fun c => absurd (z2.2 c) (by decide)
      have hn : ¬ (x = 0 ∨ infp y = true) := by
        rw [i2]; rintro (c | c)
        · exact absurd (z1.2 c) (by decide)
        · exact absurd c (by decide)
      have sx : decide (x < 0) = s1 := by
        rcases q1.three with ⟨a, _⟩ | ⟨_, rfl, b⟩ | ⟨_, rfl, b⟩
        · exact absurd a (by decide)
        · exact decide_eq_false (by omega)
        · exact decide_eq_true b
      have sy : decide (y < 0) = s2 := by
        rcases q2.three with ⟨a, _⟩ | ⟨_, rfl, b⟩ | ⟨_, rfl, b⟩
        · exact absurd a (by decide)
        · exact decide_eq_false (by omega)
        · exact decide_eq_true b
      have hr2 : sgi (s1 != s2) TP = r := by
        have := (qt_inf hy0 hn i1).1 hr
        rw [sx, sy] at this; exact this.symm
      have HRR := Lib.hid hr2; clear i1 i2 z1 z2 q1 q2 hr hr2 sx sy hn hy0 hT; obtain ⟨xX30, xX31, xX32, xX33⟩ := X3.u4; obtain ⟨xX40, xX41, xX42, xX43⟩ := X4.u4
      go_wp2_with fail
      refine (nInf (s := s1 != s2) HRR.out).mono ?_; rintro ee w6 ⟨K3, s3, M3, E3, rfl, q3, B⟩; clear xX30 xX31 xX32 xX33 xX40 xX41 xX42 xX43; replace X3 := X3.below B; replace X4 := X4.below B; replace XR := XR.below B; replace HB := Lib.hid (bt HB.out B); clear B; obtain ⟨xXR0, xXR1, xXR2, xXR3⟩ := XR.u4; have zXR0 := XR.frozen; go_wp2; clear xXR0 zXR0 xXR1 xXR2 xXR3; have SX := StN.mk4 XR (.int .i64 K3) (.bool s3) (.int .u64 M3) (.int .i64 E3)
      exact bodyPost_ret (by simp [results, Tryd.results23, go_sem, SX.box.cell]) rfl ⟨_, _, _, _, rfl, q3, (SX.below HB.out (by omega))⟩
  · rcases kk2 with rfl | rfl | rfl
    · have hy0 : y ≠ 0 := fun c => absurd (z2.2 c) (by decide)
      have hr2 : r = 0 := (qt_zero hy0 (.inl (z1.1 rfl))).1 hr
      subst hr2; clear i1 i2 z1 z2 q1 q2 hr hy0 hT; obtain ⟨xXR0, xXR1, xXR2, xXR3⟩ := XR.u4; have zXR0 := XR.frozen; obtain ⟨xX30, xX31, xX32, xX33⟩ := X3.u4; obtain ⟨xX40, xX41, xX42, xX43⟩ := X4.u4; go_wp2; clear xXR0 zXR0 xXR1 xXR2 xXR3 xX30 xX31 xX32 xX33 xX40 xX41 xX42 xX43; have SX := StN.mk4 XR (.int .i64 0) (.bool false) (.int .u64 0) (.int .i64 0); exact bodyPost_ret (by simp [results, Tryd.results23, go_sem, SX.box.cell]) rfl ⟨_, _, _, _, rfl, Fq.nought, (SX.below HB.out (by omega))⟩
    · have hr2 : sgi (!up) TP = r := by
        rw [z2.1 rfl] at hr; exact (qt_none'.1 hr).symm
      have HRR := Lib.hid hr2; clear i1 i2 z1 z2 q1 q2 hr hr2 hT; obtain ⟨xX30, xX31, xX32, xX33⟩ := X3.u4; obtain ⟨xX40, xX41, xX42, xX43⟩ := X4.u4
      go_wp2_with fail
      refine (qAway HRR.out).mono ?_; rintro ee w6 ⟨K3, s3, M3, E3, rfl, q3, B⟩; clear xX30 xX31 xX32 xX33 xX40 xX41 xX42 xX43; replace X3 := X3.below B; replace X4 := X4.below B; replace XR := XR.below B; replace HB := Lib.hid (bt HB.out B); clear B; obtain ⟨xXR0, xXR1, xXR2, xXR3⟩ := XR.u4; have zXR0 := XR.frozen; go_wp2; clear xXR0 zXR0 xXR1 xXR2 xXR3; have SX := StN.mk4 XR (.int .i64 K3) (.bool s3) (.int .u64 M3) (.int .i64 E3)
      exact bodyPost_ret (by simp [results, Tryd.results23, go_sem, SX.box.cell]) rfl ⟨_, _, _, _, rfl, q3, (SX.below HB.out (by omega))⟩
    · have hy0 : y ≠ 0 := fun c => absurd (z2.2 c) (by decide)
      have hr2 : r = 0 := (qt_zero hy0 (.inl (z1.1 rfl))).1 hr
      subst hr2; clear i1 i2 z1 z2 q1 q2 hr hy0 hT; obtain ⟨xXR0, xXR1, xXR2, xXR3⟩ := XR.u4; have zXR0 := XR.frozen; obtain ⟨xX30, xX31, xX32, xX33⟩ := X3.u4; obtain ⟨xX40, xX41, xX42, xX43⟩ := X4.u4; go_wp2; clear xXR0 zXR0 xXR1 xXR2 xXR3 xX30 xX31 xX32 xX33 xX40 xX41 xX42 xX43; have SX := StN.mk4 XR (.int .i64 0) (.bool false) (.int .u64 0) (.int .i64 0); exact bodyPost_ret (by simp [results, Tryd.results23, go_sem, SX.box.cell]) rfl ⟨_, _, _, _, rfl, Fq.nought, (SX.below HB.out (by omega))⟩
  · rcases kk2 with rfl | rfl | rfl
    · have hy0 : y ≠ 0 := fun c => absurd (z2.2 c) (by decide)
      have hr2 : r = 0 := (qt_zero hy0 (.inr i2)).1 hr
      subst hr2; clear i1 i2 z1 z2 q1 q2 hr hy0 hT; obtain ⟨xXR0, xXR1, xXR2, xXR3⟩ := XR.u4; have zXR0 := XR.frozen; obtain ⟨xX30, xX31, xX32, xX33⟩ := X3.u4; obtain ⟨xX40, xX41, xX42, xX43⟩ := X4.u4; go_wp2; clear xXR0 zXR0 xXR1 xXR2 xXR3 xX30 xX31 xX32 xX33 xX40 xX41 xX42 xX43; have SX := StN.mk4 XR (.int .i64 0) (.bool false) (.int .u64 0) (.int .i64 0); exact bodyPost_ret (by simp [results, Tryd.results23, go_sem, SX.box.cell]) rfl ⟨_, _, _, _, rfl, Fq.nought, (SX.below HB.out (by omega))⟩
    · have hr2 : sgi (!up) TP = r := by
        rw [z2.1 rfl] at hr; exact (qt_none'.1 hr).symm
      have HRR := Lib.hid hr2; clear i1 i2 z1 z2 q1 q2 hr hr2 hT; obtain ⟨xX30, xX31, xX32, xX33⟩ := X3.u4; obtain ⟨xX40, xX41, xX42, xX43⟩ := X4.u4
      go_wp2_with fail
      refine (qAway HRR.out).mono ?_; rintro ee w6 ⟨K3, s3, M3, E3, rfl, q3, B⟩; clear xX30 xX31 xX32 xX33 xX40 xX41 xX42 xX43; replace X3 := X3.below B; replace X4 := X4.below B; replace XR := XR.below B; replace HB := Lib.hid (bt HB.out B); clear B; obtain ⟨xXR0, xXR1, xXR2, xXR3⟩ := XR.u4; have zXR0 := XR.frozen; go_wp2; clear xXR0 zXR0 xXR1 xXR2 xXR3; have SX := StN.mk4 XR (.int .i64 K3) (.bool s3) (.int .u64 M3) (.int .i64 E3)
      exact bodyPost_ret (by simp [results, Tryd.results23, go_sem, SX.box.cell]) rfl ⟨_, _, _, _, rfl, q3, (SX.below HB.out (by omega))⟩
    · have hy0 : y ≠ 0 := fun c => absurd (z2.2 c) (by decide)
      obtain ⟨a1, a2, a3, a4, _⟩ := fq_vr q1; obtain ⟨b1, b2, b3, b4, _⟩ := fq_vr q2; obtain ⟨α, hα⟩ : ∃ α : Nat, (α : Int) = M1 := ⟨M1.toNat, by omega⟩
      obtain ⟨β, hβ⟩ : ∃ β : Nat, (β : Int) = M2 := ⟨M2.toNat, by omega⟩
      have α1 : 9223372036854775808 ≤ α := by omega
      have α2 : α < 18446744073709551616 := by omega
      have β1 : 9223372036854775808 ≤ β := by omega
      have β2 : β < 18446744073709551616 := by omega
      obtain ⟨P, hP, hPr⟩ := div_pre q1 q2 hα hβ hr (by omega); obtain ⟨e, he⟩ : ∃ e, E1 - E2 = e := ⟨_, rfl⟩; rw [he] at hP
      have eb1 : -2200000 ≤ e := by omega
      have eb2 : e ≤ 2200000 := by omega
      have eb3 : e - ((blen β : Int) - (blen α : Int) + 64) ≤ 2097152 := by
        rw [blen_word α1 α2, blen_word β1 β2]
        omega
      have HPP := Lib.hid hP; have HPR := Lib.hid hPr; have HA := Lib.hid hα; have HBE := Lib.hid hβ
      have HW : Hid (IntKind.i64.wrap (E1 - E2) = e) := Lib.hid (by rw [he]; exact IntWalk.i64_in _ (by omega))
      have HW2 : Hid (wrap64 (E1 - E2) = e) := Lib.hid (by rw [he]; exact IntWalk.wrap64_in _ (by omega))
      have α0 : 0 < α := by omega
      have β0 : 0 < β := by omega
      clear i1 i2 z1 z2 hr hy0 a1 a2 a3 a4 b1 b2 b3 b4 hP hPr he hα hβ α1 β1 q1 q2; obtain ⟨xX30, xX31, xX32, xX33⟩ := X3.u4; obtain ⟨xX40, xX41, xX42, xX43⟩ := X4.u4
      go_upto_region 8 with (fail)
      clear xX30 xX31 xX32 xX33 xX40 xX41 xX42 xX43; refine Jo.rk [0, 1, 2, 3, 4, 5, 6, 7, 8, 9, 10, 11, 12, 13, 14, 15, 16, 17, 18] [some 37, some 38, some 39, some 40, some 41, some 42, some 43, some 44, some 45, some 46, some 47, some 48, some 49, some 50, some 51, some 52, some 53, some 54, some 55, none] [[], [0], [1], [], [3], [4], [], [6], [], [8], [7, 9], [2, 5, 10], [], [12], [], [14], [13, 15], [], [11, 16, 17], []] 20 1 [Jo.qp w.heap.size 2, Jo.Fact.eq (.int .u64 M1), Jo.Fact.rd α 2, Jo.qp (w.heap.size + 1) 2, Jo.Fact.eq (.int .u64 M2), Jo.Fact.rd β 2, Jo.qp w.heap.size 3, Jo.qi E1, Jo.qp (w.heap.size + 1) 3, Jo.qi E2, Jo.qi e, Jo.Fact.pk P, Jo.qp w.heap.size 1, Jo.qb s1, Jo.qp (w.heap.size + 1) 1, Jo.qb s2, Jo.Fact.eq (.bool (s1 != s2)), Jo.qb up, Jo.Fact.num r, Jo.Fact.any] (by kernel_rfl) (by kernel_rfl) (by decide) rfl ?_ ?_
      · refine Jo.jm rfl ?_ ?_
        · rintro wj hJ K hK; simp only [Jo.z] at hK ⊢; go_simp; exact hK.out _ _ rfl (br _ _)
        refine Jo.jm rfl ?_ ?_
        · rintro wj hJ _ rfl K hK; simp only [Jo.z] at hK ⊢; have xX32 := (X3.below hJ).a 2 (.int .u64 M1) rfl; go_simp; exact hK.out _ _ rfl (br _ _)
        refine Jo.jm rfl ?_ ?_
        · rintro wj hJ _ rfl K hK; simp only [Jo.z] at hK ⊢; go_simp; refine (qLimbs HA.out α2).mono ?_; rintro ee wk ⟨A2, rfl, p2, B⟩; exact hK.out _ _ ⟨A2, 2, 2, rfl, p2, Nat.le_refl _⟩ B
        refine Jo.jm rfl ?_ ?_
        · rintro wj hJ K hK; simp only [Jo.z] at hK ⊢; go_simp; exact hK.out _ _ rfl (br _ _)
        refine Jo.jm rfl ?_ ?_
        · rintro wj hJ _ rfl K hK; simp only [Jo.z] at hK ⊢; have xX42 := (X4.below hJ).a 2 (.int .u64 M2) rfl; go_simp; exact hK.out _ _ rfl (br _ _)
        refine Jo.jm rfl ?_ ?_
        · rintro wj hJ _ rfl K hK; simp only [Jo.z] at hK ⊢; go_simp; refine (qLimbs HBE.out β2).mono ?_; rintro ee wk ⟨A5, rfl, p5, B⟩; exact hK.out _ _ ⟨A5, 2, 2, rfl, p5, Nat.le_refl _⟩ B
        refine Jo.jm rfl ?_ ?_
        · rintro wj hJ K hK; simp only [Jo.z] at hK ⊢; go_simp; exact hK.out _ _ rfl (br _ _)
        refine Jo.jm rfl ?_ ?_
        · rintro wj hJ _ rfl K hK; simp only [Jo.z] at hK ⊢; have xX33 := (X3.below hJ).a 3 (.int .i64 E1) rfl; go_simp; exact hK.out _ _ rfl (br _ _)
        refine Jo.jm rfl ?_ ?_
        · rintro wj hJ K hK; simp only [Jo.z] at hK ⊢; go_simp; exact hK.out _ _ rfl (br _ _)
        refine Jo.jm rfl ?_ ?_
        · rintro wj hJ _ rfl K hK; simp only [Jo.z] at hK ⊢; have xX43 := (X4.below hJ).a 3 (.int .i64 E2) rfl; go_simp; exact hK.out _ _ rfl (br _ _)
        refine Jo.jm rfl ?_ ?_
        · rintro wj hJ _ rfl _ rfl K hK; simp only [Jo.z] at hK ⊢; have hw := HW.out; have hw2 := HW2.out; go_simp
          exact hK.out _ _ (by first | rfl | (show Value.int _ _ = Value.int _ _; first | rw [hw] | rw [hw2])) (br _ _)
        refine Jo.jm rfl ?_ ?_
        · rintro wj hJ _ ⟨A2, n2, c2, rfl, p2, k2⟩ _ ⟨A5, n5, c5, rfl, p5, k5⟩ _ rfl K hK; simp only [Jo.z] at hK ⊢; go_simp; refine (qDivided p2 p5 (by omega) (by omega) α0 β0 eb1 eb2 eb3 HPP.out).mono ?_; rintro ee wk ⟨A7, n7, c7, t7, x7, rfl, p7, B⟩; exact hK.out _ _ ⟨A7, n7, c7, t7, x7, rfl, p7⟩ B
        refine Jo.jm rfl ?_ ?_
        · rintro wj hJ K hK; simp only [Jo.z] at hK ⊢; go_simp; exact hK.out _ _ rfl (br _ _)
        refine Jo.jm rfl ?_ ?_
        · rintro wj hJ _ rfl K hK; simp only [Jo.z] at hK ⊢; have xX31 := (X3.below hJ).a 1 (.bool s1) rfl; go_simp; exact hK.out _ _ rfl (br _ _)
        refine Jo.jm rfl ?_ ?_
        · rintro wj hJ K hK; simp only [Jo.z] at hK ⊢; go_simp; exact hK.out _ _ rfl (br _ _)
        refine Jo.jm rfl ?_ ?_
        · rintro wj hJ _ rfl K hK; simp only [Jo.z] at hK ⊢; have xX41 := (X4.below hJ).a 1 (.bool s2) rfl; go_simp; exact hK.out _ _ rfl (br _ _)
        refine Jo.jm rfl ?_ ?_
        · rintro wj hJ _ rfl _ rfl K hK; simp only [Jo.z] at hK ⊢; go_simp; exact hK.out _ _ rfl (br _ _)
        refine Jo.jm rfl ?_ ?_
        · rintro wj hJ K hK; simp only [Jo.z] at hK ⊢; go_simp; exact hK.out _ _ rfl (br _ _)
        refine Jo.jm rfl ?_ ?_
        · rintro wj hJ _ ⟨A7, n7, c7, t7, x7, rfl, p7⟩ _ rfl _ rfl K hK; simp only [Jo.z] at hK ⊢; go_simp; refine (qRound (hT.below hJ) p7 HPR.out).mono ?_; rintro ee wk ⟨K9, s9, M9, E9, rfl, q9, B⟩; exact hK.out _ _ ⟨K9, s9, M9, E9, rfl, q9⟩ B
        exact Jo.Steps.nil
      rintro w8 hJ _ _ _ rfl _ ⟨_, _, _, rfl, _⟩ _ _ _ rfl _ ⟨_, _, _, rfl, _⟩ _ _ _ rfl _ _ _ rfl _ rfl _ ⟨_, _, _, _, _, rfl, _⟩ _ _ _ rfl _ _ _ rfl _ rfl _ rfl _ ⟨K9, s9, M9, E9, rfl, q9⟩ -; simp only [Jo.z]; replace X3 := X3.below hJ; replace X4 := X4.below hJ; replace XR := XR.below hJ; replace hT := hT.below hJ; replace HB := Lib.hid (bt HB.out hJ); obtain ⟨xXR0, xXR1, xXR2, xXR3⟩ := XR.u4; have zXR0 := XR.frozen
      refine Jo.jnext (i := 19) (o := ⟨none, _, _, _, _, _⟩) (by kernel_rfl) rfl (fun K hK => ?_)
      go_simp; refine hK.out _ _ ?_; clear hK K xXR0 zXR0 xXR1 xXR2 xXR3; have SX := StN.mk4 XR (.int .i64 K9) (.bool s9) (.int .u64 M9) (.int .i64 E9); refine Jo.jdone (by kernel_rfl) ?_; go_wp2; exact bodyPost_ret (by simp [results, Tryd.results23, go_sem, SX.box.cell]) rfl ⟨_, _, _, _, rfl, q9, (SX.below HB.out (by omega))⟩
end Go.Proofs.YteejbcimmmcnlaaDoor

/-
  Contracts and words that the statement's proof rests on, several texts in one: Mr.
-/
import Derived.Test.YteejbcimmmcnlaaGreatDoorYBbb
import Derived.Test.YteejbcimmmcnlaaGreatDoorYBbm
/-
  What the highest bits of a quotient and of a root are, and to what they are rounded.
-/
namespace Go.Proofs.YteejbcimmmcnlaaGreatDoor
open Go.RowKit
set_option linter.unusedVariables false
set_option linter.unusedSimpArgs false
set_option maxRecDepth 100000

/-- The highest bits of a number, whether they are all of it, and to what it is rounded. -/
def Pk (w : World) (A : Option Addr) (n c : Nat) (t : Bool) (x : Int) (P : Bool → Bool → Int → Prop) : Prop :=
  ∃ q d : Nat, Nm w A n c q ∧ n ≤ 20000 ∧ decide (d = 0) = t ∧ -3000000 ≤ x ∧ x ≤ 3000000 ∧ ∀ σ up, P σ up (rnd up (mk (sgi σ ((stk q d : Nat) : Int)) (x - 1)).1 (mk (sgi σ ((stk q d : Nat) : Int)) (x - 1)).2)
theorem Pk.below {w w' : World} {A : Option Addr} {n c : Nat} {t : Bool} {x : Int} {P : Bool → Bool → Int → Prop} (h : Pk w A n c t x P) (b : Below w.heap.size w w') : Pk w' A n c t x P := by
  obtain ⟨q, d, h1, h2⟩ := h; exact ⟨q, d, h1.below b, h2⟩
/-- Such bits are answered. -/
def PP7 (w : World) (P : Bool → Bool → Int → Prop) (e : Ending) (w' : World) : Prop := ∃ A n c t x, e = .returned (.agg #[.slice A n c, .bool t, .int .i64 x]) ∧ Pk w' A n c t x P ∧ Below w.heap.size w w'
def Jo.Fact.pk (P : Bool → Bool → Int → Prop) : Jo.Fact := ⟨fun v w => ∃ A n c t x, v = .agg #[.slice A n c, .bool t, .int .i64 x] ∧ Pk w A n c t x P, fun v w w' h b => by
  obtain ⟨A, n, c, t, x, e, p⟩ := h; exact ⟨A, n, c, t, x, e, p.below b⟩⟩
/-- Part of what is answered of a quotient. -/
def PQ7 (w : World) (Q : Nat) (t : Bool) (x : Int) (e : Ending) (w' : World) : Prop := ∃ A n c, e = .returned (.agg #[.slice A n c, .bool t, .int .i64 x]) ∧ Nm w' A n c Q ∧ n ≤ 20000 ∧ Below w.heap.size w w'
/-- The call of moved that is made. -/
def MV (α : Nat) (z : Int) (T : Nat) (t : Bool) : Prop := ∀ (w : World) (A : Option Addr) (n c : Nat), Rd w A n c α → n ≤ 8000 → Calls Tryz.prog 145 #[.slice A n c, .int .i64 z] w (P1B w 15000 T t)
set_option maxHeartbeats 1000000 in
theorem qdivided_e {w : World} {A B : Option Addr} {n c m d α β T Q R : Nat} {La Lb z e x : Int} (ha : Rd w A n c α) (hb : Rd w B m d β) (hn : n ≤ 8000) (hβ : β ≠ 0) (hla : ((blen α : Nat) : Int) = La) (hlb : ((blen β : Nat) : Int) = Lb) (hz : Lb - La + 64 = z) (z1 : -200000 ≤ z) (z2 : z ≤ 200000) (hx : e - z = x) (x1 : -3000000 ≤ x) (x2 : x ≤ 2097152)
    (hm : MV α z T true) (hQ : T / β = Q) (hR : T % β = R) (h0 : R = 0) : Calls Tryz.prog 105 #[.slice A n c, .slice B m d, .int .i64 e] w (PQ7 w Q true x) := by
  have HM := Lib.hid hm; have HLA := Lib.hid hla; have HLB := Lib.hid hlb; have HQ := Lib.hid hQ; have HRR := Lib.hid hR; have H0 := Lib.hid h0; have HB0 := Lib.hid hβ
  have e0 : Lb - La = z - 64 := by omega
  have HW1 : Hid (IntKind.i64.wrap (Lb - La) = z - 64) := Lib.hid (by rw [e0]; exact IntWalk.i64_in _ (by omega))
  have HW2 : Hid (wrap64 z = z) := Lib.hid (IntWalk.wrap64_in _ (by omega))
  have HW4 : Hid (wrap64 x = x) := Lib.hid (IntWalk.wrap64_in _ (by omega))
  have HW3 : Hid (IntKind.i64.wrap (e - z) = x) := Lib.hid (by rw [hx]; exact IntWalk.i64_in _ (by omega))
  have hz3 : z ≤ 2097152 := by omega
  have HMZ : Hid (min z 2097152 = z) := Lib.hid (by omega)
  have HMX : Hid (min x 2097152 = x) := Lib.hid (by omega)
  clear hm hla hlb hz e0 hx hQ hR h0 hβ z1 z2 x1
  go_enter Tryz.func105, Tryz.ntmps105
  go_upto_region 1 with (fail)
  generalize hW1 : w.alloc _ = w1 at *; obtain ⟨XR, HB⟩ := Bo.en1 hW1; replace ha := ha.below HB.out; replace hb := hb.below HB.out; clear hW1
  go_wp2_with fail
  refine (vLenE hb HLB.out).mono ?_; rintro ee w2 ⟨rfl, B⟩; replace XR := XR.below B; replace ha := ha.below B; replace hb := hb.below B; replace HB := Lib.hid (bt HB.out B); clear B
  go_wp2_with fail
  refine (vLenE ha HLA.out).mono ?_; rintro ee w3 ⟨rfl, B⟩; replace XR := XR.below B; replace ha := ha.below B; replace hb := hb.below B; replace HB := Lib.hid (bt HB.out B); clear B; have hw1 := HW1.out; have hw2 := HW2.out; have hmz := HMZ.out
  go_wp2_with fail
  refine (HM.out _ _ _ _ ha hn).mono ?_; rintro ee w4 ⟨A4, n4, c4, rfl, p4, k4, B⟩; replace XR := XR.below B; replace ha := ha.below B; replace hb := hb.below B; replace HB := Lib.hid (bt HB.out B); clear B; clear hw1 hw2 hmz
  go_wp2_with fail
  refine (vDivE p4.rd hb (by omega) HB0.out HQ.out HRR.out).mono ?_; rintro ee w5 ⟨A5, n5, c5, B5, m5, d5, rfl, p5, r5, k5, l5, B⟩; replace XR := XR.below B; replace hb := hb.below B; replace p4 := p4.below B; replace HB := Lib.hid (bt HB.out B); clear B; clear hb p4
  obtain rfl : m5 = 0 := by have := r5.pos; have := H0.out; omega
  clear r5 H0; have hw3 := HW3.out; have hmx := HMX.out; obtain ⟨xXR0, xXR1, xXR2⟩ := XR.u3; have zXR0 := XR.frozen; go_wp2; clear xXR0 zXR0 xXR1 xXR2; have SX := StN.mk3 XR (.slice A5 n5 c5) (.bool true) (.int .i64 x); replace p5 := p5.stn SX (by simp [no32]); exact bodyPost_ret (v := .agg #[.slice A5 n5 c5, .bool true, .int .i64 x]) (by simp [results, Tryz.results105, go_sem, SX.box.cell]) rfl ⟨A5, n5, c5, rfl, p5, by omega, (SX.below HB.out (by omega))⟩
set_option maxHeartbeats 1000000 in
theorem qdivided_l {w : World} {A B : Option Addr} {n c m d α β T Q R : Nat} {La Lb z e x : Int} (ha : Rd w A n c α) (hb : Rd w B m d β) (hn : n ≤ 8000) (hβ : β ≠ 0) (hla : ((blen α : Nat) : Int) = La) (hlb : ((blen β : Nat) : Int) = Lb) (hz : Lb - La + 64 = z) (z1 : -200000 ≤ z) (z2 : z ≤ 200000) (hx : e - z = x) (x1 : -3000000 ≤ x) (x2 : x ≤ 2097152)
    (hm : MV α z T true) (hQ : T / β = Q) (hR : T % β = R) (h0 : R ≠ 0) : Calls Tryz.prog 105 #[.slice A n c, .slice B m d, .int .i64 e] w (PQ7 w Q false x) := by
  have HM := Lib.hid hm; have HLA := Lib.hid hla; have HLB := Lib.hid hlb; have HQ := Lib.hid hQ; have HRR := Lib.hid hR; have H0 := Lib.hid h0; have HB0 := Lib.hid hβ
  have e0 : Lb - La = z - 64 := by omega
  have HW1 : Hid (IntKind.i64.wrap (Lb - La) = z - 64) := Lib.hid (by rw [e0]; exact IntWalk.i64_in _ (by omega))
  have HW2 : Hid (wrap64 z = z) := Lib.hid (IntWalk.wrap64_in _ (by omega))
  have HW4 : Hid (wrap64 x = x) := Lib.hid (IntWalk.wrap64_in _ (by omega))
  have HW3 : Hid (IntKind.i64.wrap (e - z) = x) := Lib.hid (by rw [hx]; exact IntWalk.i64_in _ (by omega))
  have hz3 : z ≤ 2097152 := by omega
  have HMZ : Hid (min z 2097152 = z) := Lib.hid (by omega)
  have HMX : Hid (min x 2097152 = x) := Lib.hid (by omega)
  clear hm hla hlb hz e0 hx hQ hR h0 hβ z1 z2 x1
  go_enter Tryz.func105, Tryz.ntmps105
  go_upto_region 1 with (fail)
  generalize hW1 : w.alloc _ = w1 at *; obtain ⟨XR, HB⟩ := Bo.en1 hW1; replace ha := ha.below HB.out; replace hb := hb.below HB.out; clear hW1
  go_wp2_with fail
  refine (vLenE hb HLB.out).mono ?_; rintro ee w2 ⟨rfl, B⟩; replace XR := XR.below B; replace ha := ha.below B; replace hb := hb.below B; replace HB := Lib.hid (bt HB.out B); clear B
  go_wp2_with fail
  refine (vLenE ha HLA.out).mono ?_; rintro ee w3 ⟨rfl, B⟩; replace XR := XR.below B; replace ha := ha.below B; replace hb := hb.below B; replace HB := Lib.hid (bt HB.out B); clear B; have hw1 := HW1.out; have hw2 := HW2.out; have hmz := HMZ.out
  go_wp2_with fail
  refine (HM.out _ _ _ _ ha hn).mono ?_; rintro ee w4 ⟨A4, n4, c4, rfl, p4, k4, B⟩; replace XR := XR.below B; replace ha := ha.below B; replace hb := hb.below B; replace HB := Lib.hid (bt HB.out B); clear B; clear hw1 hw2 hmz
  go_wp2_with fail
  refine (vDivE p4.rd hb (by omega) HB0.out HQ.out HRR.out).mono ?_; rintro ee w5 ⟨A5, n5, c5, B5, m5, d5, rfl, p5, r5, k5, l5, B⟩; replace XR := XR.below B; replace hb := hb.below B; replace p4 := p4.below B; replace HB := Lib.hid (bt HB.out B); clear B; clear hb p4
  have hne : ((m5 : Int) == 0) = false := by
    have := r5.pos
    have := H0.out
    have : (m5 : Int) ≠ 0 := by omega
    simpa using this
  have hne2 : ¬ m5 = 0 := by have := r5.pos; have := H0.out; omega
  clear r5 H0; have hw3 := HW3.out; have hmx := HMX.out; obtain ⟨xXR0, xXR1, xXR2⟩ := XR.u3; have zXR0 := XR.frozen; go_wp2; clear xXR0 zXR0 xXR1 xXR2; have SX := StN.mk3 XR (.slice A5 n5 c5) (.bool false) (.int .i64 x); replace p5 := p5.stn SX (by simp [no32]); exact bodyPost_ret (v := .agg #[.slice A5 n5 c5, .bool false, .int .i64 x]) (by simp [results, Tryz.results105, go_sem, SX.box.cell]) rfl ⟨A5, n5, c5, rfl, p5, by omega, (SX.below HB.out (by omega))⟩
set_option maxHeartbeats 1000000 in
theorem qdivided_n {w : World} {A B : Option Addr} {n c m d α β T Q R : Nat} {La Lb z e x : Int} (ha : Rd w A n c α) (hb : Rd w B m d β) (hn : n ≤ 8000) (hβ : β ≠ 0) (hla : ((blen α : Nat) : Int) = La) (hlb : ((blen β : Nat) : Int) = Lb) (hz : Lb - La + 64 = z) (z1 : -200000 ≤ z) (z2 : z ≤ 200000) (hx : e - z = x) (x1 : -3000000 ≤ x) (x2 : x ≤ 2097152)
    (hm : MV α z T false) (hQ : T / β = Q) (hR : T % β = R) (h0 : True) : Calls Tryz.prog 105 #[.slice A n c, .slice B m d, .int .i64 e] w (PQ7 w Q false x) := by
  have HM := Lib.hid hm; have HLA := Lib.hid hla; have HLB := Lib.hid hlb; have HQ := Lib.hid hQ; have HRR := Lib.hid hR; have H0 := Lib.hid h0; have HB0 := Lib.hid hβ
  have e0 : Lb - La = z - 64 := by omega
  have HW1 : Hid (IntKind.i64.wrap (Lb - La) = z - 64) := Lib.hid (by rw [e0]; exact IntWalk.i64_in _ (by omega))
  have HW2 : Hid (wrap64 z = z) := Lib.hid (IntWalk.wrap64_in _ (by omega))
  have HW4 : Hid (wrap64 x = x) := Lib.hid (IntWalk.wrap64_in _ (by omega))
  have HW3 : Hid (IntKind.i64.wrap (e - z) = x) := Lib.hid (by rw [hx]; exact IntWalk.i64_in _ (by omega))
  have hz3 : z ≤ 2097152 := by omega
  have HMZ : Hid (min z 2097152 = z) := Lib.hid (by omega)
  have HMX : Hid (min x 2097152 = x) := Lib.hid (by omega)
  clear hm hla hlb hz e0 hx hQ hR h0 hβ z1 z2 x1
  go_enter Tryz.func105, Tryz.ntmps105
  go_upto_region 1 with (fail)
  generalize hW1 : w.alloc _ = w1 at *; obtain ⟨XR, HB⟩ := Bo.en1 hW1; replace ha := ha.below HB.out; replace hb := hb.below HB.out; clear hW1
  go_wp2_with fail
  refine (vLenE hb HLB.out).mono ?_; rintro ee w2 ⟨rfl, B⟩; replace XR := XR.below B; replace ha := ha.below B; replace hb := hb.below B; replace HB := Lib.hid (bt HB.out B); clear B
  go_wp2_with fail
  refine (vLenE ha HLA.out).mono ?_; rintro ee w3 ⟨rfl, B⟩; replace XR := XR.below B; replace ha := ha.below B; replace hb := hb.below B; replace HB := Lib.hid (bt HB.out B); clear B; have hw1 := HW1.out; have hw2 := HW2.out; have hmz := HMZ.out
  go_wp2_with fail
  refine (HM.out _ _ _ _ ha hn).mono ?_; rintro ee w4 ⟨A4, n4, c4, rfl, p4, k4, B⟩; replace XR := XR.below B; replace ha := ha.below B; replace hb := hb.below B; replace HB := Lib.hid (bt HB.out B); clear B; clear hw1 hw2 hmz
  go_wp2_with fail
  refine (vDivE p4.rd hb (by omega) HB0.out HQ.out HRR.out).mono ?_; rintro ee w5 ⟨A5, n5, c5, B5, m5, d5, rfl, p5, r5, k5, l5, B⟩; replace XR := XR.below B; replace hb := hb.below B; replace p4 := p4.below B; replace HB := Lib.hid (bt HB.out B); clear B; clear hb p4; clear r5 H0; have hw3 := HW3.out; have hmx := HMX.out; obtain ⟨xXR0, xXR1, xXR2⟩ := XR.u3; have zXR0 := XR.frozen; go_wp2; clear xXR0 zXR0 xXR1 xXR2
  have SX := StN.mk3 XR (.slice A5 n5 c5) (.bool false) (.int .i64 x); replace p5 := p5.stn SX (by simp [no32]); exact bodyPost_ret (v := .agg #[.slice A5 n5 c5, .bool false, .int .i64 x]) (by simp [results, Tryz.results105, go_sem, SX.box.cell]) rfl ⟨A5, n5, c5, rfl, p5, by omega, (SX.below HB.out (by omega))⟩
theorem moved_up {α k : Nat} (hk : k ≤ 200000) : MV α (k : Int) (α * 2 ^ k) true := fun w A n c h hn => qmoved_up h hn hk rfl
theorem moved_dn {α k : Nat} {z : Int} (h0 : 0 < k) (hk : k ≤ 200000) (hz : -z = (k : Int)) : MV α z (α / 2 ^ k) (decide (α / 2 ^ k * 2 ^ k = α)) := fun w A n c h hn => by
  refine qmoved_dn h hn hk h0 hz rfl rfl rfl ?_
  by_cases c : α / 2 ^ k * 2 ^ k = α
  · rw [decide_eq_true c, c, cmpI_self]
    rfl
  · rw [decide_eq_false c]
    have : ¬ cmpI ((α / 2 ^ k * 2 ^ k : Nat) : Int) (α : Int) = 0 := fun e => c (by have := cmpI_zero.1 e; omega)
    simpa using this
/-- The quotient of two numbers above nought. -/
theorem qDivided {w : World} {A B : Option Addr} {n c m d α β : Nat} {e : Int} {P : Bool → Bool → Int → Prop} (ha : Rd w A n c α) (hb : Rd w B m d β) (hn : n ≤ 3500) (hm : m ≤ 3500) (hα : 0 < α) (hβ : 0 < β) (e1 : -2200000 ≤ e) (e2 : e ≤ 2200000) (e3 : e - ((blen β : Int) - (blen α : Int) + 64) ≤ 2097152)
    (hP : ∀ σ up r, Sid up (sgi σ ((α : Int) * 2 ^ (e + (KK : Int)).toNat)) (β : Int) r → P σ up r) : Calls Tryz.prog 105 #[.slice A n c, .slice B m d, .int .i64 e] w (PP7 w P) := by
  have hba := ha.blen_le; have hbb := hb.blen_le; obtain ⟨z, hz⟩ : ∃ z : Int, (blen β : Int) - (blen α : Int) + 64 = z := ⟨_, rfl⟩; rw [hz] at e3
  have hn0 : β ≠ 0 := by omega
  have fin : ∀ {Q D : Nat} {t t' : Bool}, t' = t → decide (D = 0) = t → (∀ σ up, Sid up (sgi σ ((α : Int) * 2 ^ (e + (KK : Int)).toNat)) (β : Int) (rnd up (mk (sgi σ ((stk Q D : Nat) : Int)) (e - z - 1)).1 (mk (sgi σ ((stk Q D : Nat) : Int)) (e - z - 1)).2)) → ∀ ee w', PQ7 w Q t' (e - z) ee w' → PP7 w P ee w' := by
    rintro Q D t t' rfl ht hs ee w' ⟨A', n', c', he, hnm, hk, hb'⟩
    exact ⟨A', n', c', t', e - z, he, ⟨Q, D, hnm, hk, ht, by omega, by omega, fun σ up => hP σ up _ (hs σ up)⟩, hb'⟩
  rcases Int.lt_or_le z 0 with c0 | c0
  · obtain ⟨k, hk⟩ : ∃ k : Nat, z = -(k : Int) := ⟨z.natAbs, by omega⟩
    have mv := moved_dn (α := α) (k := k) (z := z) (by omega) (by omega) (by omega)
    have hs := fun {D} (hd : D = 0 ↔ (α / 2 ^ k * 2 ^ k = α ∧ α / 2 ^ k % β = 0)) (σ up : Bool) => part_dn (e := e) (d := D) hα hβ (by omega) (by omega) e1 e2 hd σ up
    have ez : e + (k : Int) - 1 = e - z - 1 := by omega
    rw [ez] at hs
    by_cases h1 : α / 2 ^ k * 2 ^ k = α
    · rw [decide_eq_true h1] at mv
      by_cases h2 : α / 2 ^ k % β = 0
      · exact (qdivided_e ha hb (by omega) hn0 rfl rfl hz (by omega) (by omega) rfl (by omega) e3 mv rfl rfl h2).mono (fin (D := 0) rfl rfl (hs ⟨fun _ => ⟨h1, h2⟩, fun _ => rfl⟩))
      · exact (qdivided_l ha hb (by omega) hn0 rfl rfl hz (by omega) (by omega) rfl (by omega) e3 mv rfl rfl h2).mono (fin (D := 1) rfl rfl (hs ⟨fun h => absurd h (by decide), fun h => absurd h.2 h2⟩))
    · rw [decide_eq_false h1] at mv
      exact (qdivided_n ha hb (by omega) hn0 rfl rfl hz (by omega) (by omega) rfl (by omega) e3 mv rfl rfl trivial).mono (fin (D := 1) rfl rfl (hs ⟨fun h => absurd h (by decide), fun h => absurd h.1 h1⟩))
  · obtain ⟨k, rfl⟩ : ∃ k : Nat, z = (k : Int) := ⟨z.toNat, by omega⟩
    have mv := moved_up (α := α) (k := k) (by omega); have hs := part_up (e := e) hα hβ hz (by omega) (by omega) e1 e2
    by_cases h2 : α * 2 ^ k % β = 0
    · exact (qdivided_e ha hb (by omega) hn0 rfl rfl hz (by omega) (by omega) rfl (by omega) e3 mv rfl rfl h2).mono (fin rfl (decide_eq_true h2) hs)
    · exact (qdivided_l ha hb (by omega) hn0 rfl rfl hz (by omega) (by omega) rfl (by omega) e3 mv rfl rfl h2).mono (fin rfl (decide_eq_false h2) hs)
theorem and_one (e : Int) : bits .and .i64 e 1 = e % 2 := by
  have h1 : (BitVec.ofInt IntKind.i64.bits e &&& BitVec.ofInt IntKind.i64.bits 1).toNat = (e % 18446744073709551616).toNat % 2 := by
    rw [BitVec.toNat_and, BitVec.toNat_ofInt, BitVec.toNat_ofInt, show (1 % ((2 ^ IntKind.i64.bits : Nat) : Int)).toNat = 1 by decide, Nat.and_one_is_mod]
    rfl
  show IntKind.i64.wrap ((BitVec.ofInt IntKind.i64.bits e &&& BitVec.ofInt IntKind.i64.bits 1).toNat : Int) = e % 2
  rw [h1, IntWalk.i64_in _ (by omega)]
  omega
set_option maxHeartbeats 1000000 in
theorem qroot_w {w : World} {A : Option Addr} {n c N k X S : Nat} {e b f : Int} {t : Bool} (ha : Rd w A n c N) (hn : n ≤ 8000) (hb : e % 2 = b) (hk : 64 + b = (k : Int)) (hX : N * 2 ^ k = X) (hS : rt X = S) (ht : decide (S * S = X) = t) (hf : 2 * f = e - k) (e1 : -2200000 ≤ e) (e2 : e ≤ 2200000) : Calls Tryz.prog 109 #[.slice A n c, .int .i64 e] w (PQ7 w S t f) := by
  have HX := Lib.hid hX; have HS := Lib.hid hS; have HT := Lib.hid ht
  have hb2 : 0 ≤ b ∧ b ≤ 1 := by omega
  have HW0 : Hid (bits .and .i64 e 1 = b) := Lib.hid (by rw [and_one]; exact hb)
  have HW1 : Hid (wrap64 (64 + b) = (k : Int)) := Lib.hid (by rw [hk]; exact IntWalk.wrap64_in _ (by omega))
  have HW2 : Hid (IntKind.i64.wrap (e - (k : Int)) = 2 * f) := Lib.hid (by rw [← hf]; exact IntWalk.i64_in _ (by omega))
  have HW5 : Hid (wrap64 f = f) := Lib.hid (IntWalk.wrap64_in _ (by omega))
  have HW3 : Hid (Int.tdiv (2 * f) 2 = f) := Lib.hid (by rw [Int.mul_comm]; exact Int.mul_tdiv_cancel _ (by decide))
  have HW4 : Hid (IntKind.i64.wrap f = f) := Lib.hid (IntWalk.i64_in _ (by omega))
  have hk2 : k ≤ 65 := by omega
  clear hX hS ht hb hk hf e1 e2 hb2
  go_enter Tryz.func109, Tryz.ntmps109
  go_upto_region 1 with (fail)
  generalize hW1 : w.alloc _ = w1 at *; obtain ⟨XR, HB⟩ := Bo.en1 hW1; replace ha := ha.below HB.out; clear hW1; have hw0 := HW0.out; have hw1 := HW1.out
  go_wp2_with fail
  refine (vShlE ha (by omega) (by omega) HX.out).mono ?_; rintro ee w4 ⟨A4, n4, c4, rfl, p4, k4, B⟩; replace XR := XR.below B; replace ha := ha.below B; replace HB := Lib.hid (bt HB.out B); clear B
  go_wp2_with fail
  refine (vRootE p4.rd (by omega) HS.out HT.out).mono ?_; rintro ee w5 ⟨A5, n5, c5, rfl, p5, k5, B⟩; replace XR := XR.below B; replace p4 := p4.below B; replace HB := Lib.hid (bt HB.out B); clear B; clear p4; have hw2 := HW2.out; have hw3 := HW3.out; have hw4 := HW4.out; have hw5 := HW5.out; obtain ⟨xXR0, xXR1, xXR2⟩ := XR.u3; have zXR0 := XR.frozen; go_wp2; clear xXR0 zXR0 xXR1 xXR2; have SX := StN.mk3 XR (.slice A5 n5 c5) (.bool t) (.int .i64 f)
  replace p5 := p5.stn SX (by simp [no32]); exact bodyPost_ret (v := .agg #[.slice A5 n5 c5, .bool t, .int .i64 f]) (by simp [results, Tryz.results109, go_sem, SX.box.cell]) rfl ⟨A5, n5, c5, rfl, p5, by omega, (SX.below HB.out (by omega))⟩
/-- The root of a word. -/
theorem qRoot0 {w : World} {A : Option Addr} {n c N : Nat} {e : Int} {P : Bool → Bool → Int → Prop} (ha : Rd w A n c N) (hn : n ≤ 8000) (h0 : 9223372036854775808 ≤ N) (h1 : N < 18446744073709551616) (e1 : -2200000 ≤ e) (e2 : e ≤ 2200000)
    (hP : ∀ up r, Rt up ((N : Int) * 2 ^ (e + 2 * (KK : Int)).toNat) r → P false up r) (hQ : ∀ up r, P true up r) : Calls Tryz.prog 109 #[.slice A n c, .int .i64 e] w (PP7 w P) := by
  obtain ⟨k, hk⟩ : ∃ k : Nat, 64 + e % 2 = (k : Int) := ⟨(64 + e % 2).toNat, by omega⟩
  obtain ⟨f, hf⟩ : ∃ f : Int, 2 * f = e - k := ⟨(e - k) / 2, by omega⟩
  refine (qroot_w ha hn rfl hk rfl rfl rfl hf e1 e2).mono ?_; rintro ee w' ⟨A', n', c', he, hnm, hk', hb'⟩; have hsp := rt_spec (N * 2 ^ k)
  have hd : decide (N * 2 ^ k - rt (N * 2 ^ k) * rt (N * 2 ^ k) = 0) = decide (rt (N * 2 ^ k) * rt (N * 2 ^ k) = N * 2 ^ k) := by
    have := hsp.1
    by_cases c : rt (N * 2 ^ k) * rt (N * 2 ^ k) = N * 2 ^ k
    · rw [decide_eq_true c, c, Nat.sub_self]
      rfl
    · rw [decide_eq_false c]; exact decide_eq_false (by omega)
  refine ⟨A', n', c', _, f, he, ⟨_, _, hnm, hk', hd, by omega, by omega, fun σ up => ?_⟩, hb'⟩
  cases σ
  · rw [wsg_f]; exact hP up _ (part_root h0 h1 (by omega) hf rfl e1 e2 up)
  · exact hQ up _
theorem stk_zero7 (q : Nat) : stk q 0 = q * 2 ^ 1 := by
  unfold stk
  rw [if_pos rfl]
  omega
theorem stk_one7 {q r : Nat} (h : r ≠ 0) : stk q r = q * 2 ^ 1 + 1 := by
  unfold stk
  rw [if_neg h]
  omega
theorem sg_sgi7 (s : Bool) (a : Nat) : sg s a = sgi s (a : Int) := by
  cases s
  · rw [sg_false, wsg_f]
  · rw [sg_true, wsg_t]
theorem lit_one7 (W : World) : Rd (W.alloc (.cells #[.int .u32 1] 72)) (some ⟨W.heap.size, 0, none⟩) 1 1 1 :=
  ⟨_, [1], (Own.new W [1]).all (Lim.cons (by decide) Lim.nil) (by simp) (Nat.le_refl _), by decide⟩
set_option maxHeartbeats 1000000 in
theorem qround_e {w : World} {A : Option Addr} {n c q a0 a : Nat} {x r : Int} {σ up : Bool} (hT : Tab w) (h : Nm w A n c q) (hn : n ≤ 20000) (h0 : q * 2 ^ 1 = a0) (h1 : a0 = a) (x1 : -3000000 ≤ x) (x2 : x ≤ 3000000) (hr : rnd up (mk (sg σ a) (x - 1)).1 (mk (sg σ a) (x - 1)).2 = r) : Calls Tryz.prog 107 #[.agg #[.slice A n c, .bool true, .int .i64 x], .bool σ, .bool up] w (PN w r) := by
  have HA := Lib.hid h0; have H1 := Lib.hid h1; have HR := Lib.hid hr
  have HW : Hid (IntKind.i64.wrap (x - 1) = x - 1) := Lib.hid (IntWalk.i64_in _ (by omega))
  clear h0 h1 hr x1 x2
  go_enter Tryz.func107, Tryz.ntmps107
  go_upto_region 1 with (fail)
  generalize hW1 : (w.alloc _).alloc _ = w1 at *; obtain ⟨X3, XR, HB⟩ := Bo.en2 hW1; replace hT := hT.below HB.out; replace h := h.below HB.out; clear hW1; obtain ⟨xX30, xX31, xX32⟩ := X3.u3
  go_wp2_with fail
  refine (vShlE (s := 1) h.rd (by omega) (by decide) HA.out).mono ?_; rintro ee w2 ⟨A2, n2, c2, rfl, p2, k2, B⟩; clear xX30 xX31 xX32; replace X3 := X3.below B; replace XR := XR.below B; replace hT := hT.below B; replace h := h.below B; replace HB := Lib.hid (bt HB.out B); clear B; clear h
  obtain rfl := H1.out
  obtain ⟨xX30, xX31, xX32⟩ := X3.u3
  go_upto_region 4 with (fail)
  clear xX30 xX31 xX32; refine Jo.rk [0, 1, 2, 3, 4, 5, 6, 7, 8] [some 17, some 18, some 19, some 20, some 21, some 22, some 23, some 24, some 25, none] [[], [], [0, 1], [], [3], [4], [2, 5], [], [6, 7], []] 10 1 [Jo.qb σ, Jo.Fact.eq (.slice A2 n2 c2), Jo.Fact.wn (sg σ a0) 30000, Jo.qp w.heap.size 2, Jo.qi x, Jo.Fact.eq (.int .i64 (x - 1)), Jo.Fact.dy (sg σ a0) (x - 1) 30000, Jo.qb up, Jo.Fact.num r, Jo.Fact.any] (by kernel_rfl) (by kernel_rfl) (by decide) rfl ?_ ?_
  · refine Jo.jm rfl ?_ ?_
    · rintro wj hJ K hK; simp only [Jo.z] at hK ⊢; go_simp; exact hK.out _ _ rfl (br _ _)
    refine Jo.jm rfl ?_ ?_
    · rintro wj hJ K hK; simp only [Jo.z] at hK ⊢; go_simp; exact hK.out _ _ rfl (br _ _)
    refine Jo.jm rfl ?_ ?_
    · rintro wj hJ _ rfl _ rfl K hK; simp only [Jo.z] at hK ⊢; go_simp; refine (wMake σ (p2.below hJ).rd).mono ?_; rintro ee wk ⟨s7, A7, n7, c7, rfl, p7, k7, B⟩; exact hK.out _ _ ⟨s7, A7, n7, c7, rfl, p7, by omega⟩ B
    refine Jo.jm rfl ?_ ?_
    · rintro wj hJ K hK; simp only [Jo.z] at hK ⊢; go_simp; exact hK.out _ _ rfl (br _ _)
    refine Jo.jm rfl ?_ ?_
    · rintro wj hJ _ rfl K hK; simp only [Jo.z] at hK ⊢; have xX32 := (X3.below hJ).a 2 (.int .i64 x) rfl; go_simp; exact hK.out _ _ rfl (br _ _)
    refine Jo.jm rfl ?_ ?_
    · rintro wj hJ _ rfl K hK; simp only [Jo.z] at hK ⊢; have hw := HW.out; go_simp
      exact hK.out _ _ (by first | rfl | (show Value.int _ _ = Value.int _ _; rw [hw])) (br _ _)
    refine Jo.jm rfl ?_ ?_
    · rintro wj hJ _ ⟨s7, A7, n7, c7, rfl, p7, k7⟩ _ rfl K hK; simp only [Jo.z] at hK ⊢; go_simp; exact hK.out _ _ ⟨s7, A7, n7, c7, rfl, p7, k7⟩ (br _ _)
    refine Jo.jm rfl ?_ ?_
    · rintro wj hJ K hK; simp only [Jo.z] at hK ⊢; go_simp; exact hK.out _ _ rfl (br _ _)
    refine Jo.jm rfl ?_ ?_
    · rintro wj hJ _ ⟨s8, A8, n8, c8, rfl, p8, k8⟩ _ rfl K hK; simp only [Jo.z] at hK ⊢; go_simp; refine (nRound (hT.below hJ) p8.wr (by omega) rfl rfl HR.out).mono ?_; rintro ee wk ⟨K9, s9, M9, E9, rfl, q9, B⟩; exact hK.out _ _ ⟨K9, s9, M9, E9, rfl, q9⟩ B
    exact Jo.Steps.nil
  rintro w8 hJ _ rfl _ rfl _ ⟨_, _, _, _, rfl, _⟩ _ _ _ rfl _ rfl _ ⟨_, _, _, _, rfl, _⟩ _ rfl _ ⟨K9, s9, M9, E9, rfl, q9⟩ -; simp only [Jo.z]; replace X3 := X3.below hJ; replace XR := XR.below hJ; replace hT := hT.below hJ; replace p2 := p2.below hJ; replace HB := Lib.hid (bt HB.out hJ); obtain ⟨xXR0, xXR1, xXR2, xXR3⟩ := XR.u4; have zXR0 := XR.frozen
  refine Jo.jnext (i := 9) (o := ⟨none, _, _, _, _, _⟩) (by kernel_rfl) rfl (fun K hK => ?_)
  go_simp; refine hK.out _ _ ?_; clear hK K xXR0 zXR0 xXR1 xXR2 xXR3; have SX := StN.mk4 XR (.int .i64 K9) (.bool s9) (.int .u64 M9) (.int .i64 E9); refine Jo.jdone (by kernel_rfl) ?_; go_wp2; exact bodyPost_ret (by simp [results, Tryz.results107, go_sem, SX.box.cell]) rfl ⟨_, _, _, _, rfl, q9, (SX.below HB.out (by omega))⟩
set_option maxHeartbeats 1000000 in
theorem qround_l {w : World} {A : Option Addr} {n c q a0 a : Nat} {x r : Int} {σ up : Bool} (hT : Tab w) (h : Nm w A n c q) (hn : n ≤ 20000) (h0 : q * 2 ^ 1 = a0) (h1 : a0 + 1 = a) (x1 : -3000000 ≤ x) (x2 : x ≤ 3000000) (hr : rnd up (mk (sg σ a) (x - 1)).1 (mk (sg σ a) (x - 1)).2 = r) : Calls Tryz.prog 107 #[.agg #[.slice A n c, .bool false, .int .i64 x], .bool σ, .bool up] w (PN w r) := by
  have HA := Lib.hid h0; have H1 := Lib.hid h1; have HR := Lib.hid hr
  have HW : Hid (IntKind.i64.wrap (x - 1) = x - 1) := Lib.hid (IntWalk.i64_in _ (by omega))
  clear h0 h1 hr x1 x2
  go_enter Tryz.func107, Tryz.ntmps107
  go_upto_region 1 with (fail)
  generalize hW1 : (w.alloc _).alloc _ = w1 at *; obtain ⟨X3, XR, HB⟩ := Bo.en2 hW1; replace hT := hT.below HB.out; replace h := h.below HB.out; clear hW1; obtain ⟨xX30, xX31, xX32⟩ := X3.u3
  go_wp2_with fail
  refine (vShlE (s := 1) h.rd (by omega) (by decide) HA.out).mono ?_; rintro ee w2 ⟨A2, n2, c2, rfl, p2, k2, B⟩; clear xX30 xX31 xX32; replace X3 := X3.below B; replace XR := XR.below B; replace hT := hT.below B; replace h := h.below B; replace HB := Lib.hid (bt HB.out B); clear B; clear h; obtain ⟨xX30, xX31, xX32⟩ := X3.u3
  go_wp2_with fail
  refine (vAddE (p2.below (bel1 _ _)).rd (lit_one7 w2) (by omega) (by decide) H1.out).mono ?_; rintro ee w4 ⟨A4, n4, c4, rfl, p4, k4, B⟩; clear xX30 xX31 xX32; replace B := bt (bel1 _ _) B; replace X3 := X3.below B; replace XR := XR.below B; replace hT := hT.below B; replace p2 := p2.below B; replace HB := Lib.hid (bt HB.out B); clear B; clear p2; obtain ⟨xX30, xX31, xX32⟩ := X3.u3
  go_upto_region 4 with (fail)
  clear xX30 xX31 xX32; refine Jo.rk [0, 1, 2, 3, 4, 5, 6, 7, 8] [some 17, some 18, some 19, some 20, some 21, some 22, some 23, some 24, some 25, none] [[], [], [0, 1], [], [3], [4], [2, 5], [], [6, 7], []] 10 1 [Jo.qb σ, Jo.Fact.eq (.slice A4 n4 c4), Jo.Fact.wn (sg σ a) 30000, Jo.qp w.heap.size 2, Jo.qi x, Jo.Fact.eq (.int .i64 (x - 1)), Jo.Fact.dy (sg σ a) (x - 1) 30000, Jo.qb up, Jo.Fact.num r, Jo.Fact.any] (by kernel_rfl) (by kernel_rfl) (by decide) rfl ?_ ?_
  · refine Jo.jm rfl ?_ ?_
    · rintro wj hJ K hK; simp only [Jo.z] at hK ⊢; go_simp; exact hK.out _ _ rfl (br _ _)
    refine Jo.jm rfl ?_ ?_
    · rintro wj hJ K hK; simp only [Jo.z] at hK ⊢; go_simp; exact hK.out _ _ rfl (br _ _)
    refine Jo.jm rfl ?_ ?_
    · rintro wj hJ _ rfl _ rfl K hK; simp only [Jo.z] at hK ⊢; go_simp; refine (wMake σ (p4.below hJ).rd).mono ?_; rintro ee wk ⟨s7, A7, n7, c7, rfl, p7, k7, B⟩; exact hK.out _ _ ⟨s7, A7, n7, c7, rfl, p7, by omega⟩ B
    refine Jo.jm rfl ?_ ?_
    · rintro wj hJ K hK; simp only [Jo.z] at hK ⊢; go_simp; exact hK.out _ _ rfl (br _ _)
    refine Jo.jm rfl ?_ ?_
    · rintro wj hJ _ rfl K hK; simp only [Jo.z] at hK ⊢; have xX32 := (X3.below hJ).a 2 (.int .i64 x) rfl; go_simp; exact hK.out _ _ rfl (br _ _)
    refine Jo.jm rfl ?_ ?_
    · rintro wj hJ _ rfl K hK; simp only [Jo.z] at hK ⊢; have hw := HW.out; go_simp
      exact hK.out _ _ (by first | rfl | (show Value.int _ _ = Value.int _ _; rw [hw])) (br _ _)
    refine Jo.jm rfl ?_ ?_
    · rintro wj hJ _ ⟨s7, A7, n7, c7, rfl, p7, k7⟩ _ rfl K hK; simp only [Jo.z] at hK ⊢; go_simp; exact hK.out _ _ ⟨s7, A7, n7, c7, rfl, p7, k7⟩ (br _ _)
    refine Jo.jm rfl ?_ ?_
    · rintro wj hJ K hK; simp only [Jo.z] at hK ⊢; go_simp; exact hK.out _ _ rfl (br _ _)
    refine Jo.jm rfl ?_ ?_
    · rintro wj hJ _ ⟨s8, A8, n8, c8, rfl, p8, k8⟩ _ rfl K hK; simp only [Jo.z] at hK ⊢; go_simp; refine (nRound (hT.below hJ) p8.wr (by omega) rfl rfl HR.out).mono ?_; rintro ee wk ⟨K9, s9, M9, E9, rfl, q9, B⟩; exact hK.out _ _ ⟨K9, s9, M9, E9, rfl, q9⟩ B
    exact Jo.Steps.nil
  rintro w8 hJ _ rfl _ rfl _ ⟨_, _, _, _, rfl, _⟩ _ _ _ rfl _ rfl _ ⟨_, _, _, _, rfl, _⟩ _ rfl _ ⟨K9, s9, M9, E9, rfl, q9⟩ -; simp only [Jo.z]; replace X3 := X3.below hJ; replace XR := XR.below hJ; replace hT := hT.below hJ; replace p4 := p4.below hJ; replace HB := Lib.hid (bt HB.out hJ); obtain ⟨xXR0, xXR1, xXR2, xXR3⟩ := XR.u4; have zXR0 := XR.frozen
  refine Jo.jnext (i := 9) (o := ⟨none, _, _, _, _, _⟩) (by kernel_rfl) rfl (fun K hK => ?_)
  go_simp; refine hK.out _ _ ?_; clear hK K xXR0 zXR0 xXR1 xXR2 xXR3; have SX := StN.mk4 XR (.int .i64 K9) (.bool s9) (.int .u64 M9) (.int .i64 E9); refine Jo.jdone (by kernel_rfl) ?_; go_wp2; exact bodyPost_ret (by simp [results, Tryz.results107, go_sem, SX.box.cell]) rfl ⟨_, _, _, _, rfl, q9, (SX.below HB.out (by omega))⟩
theorem qRound {w : World} {A : Option Addr} {n c : Nat} {t σ up : Bool} {x r : Int} {P : Bool → Bool → Int → Prop} (hT : Tab w) (h : Pk w A n c t x P) (hr : ∀ r', P σ up r' → r' = r) : Calls Tryz.prog 107 #[.agg #[.slice A n c, .bool t, .int .i64 x], .bool σ, .bool up] w (PN w r) := by
  obtain ⟨q, d, hnm, hk, ht, x1, x2, hp⟩ := h; have e := hr _ (hp σ up); rw [← sg_sgi7] at e
  by_cases h0 : d = 0
  · subst h0
    obtain rfl : true = t := ht
    rw [stk_zero7] at e; exact qround_e hT hnm hk rfl rfl x1 x2 e
  · obtain rfl : false = t := by rw [← ht]; exact (decide_eq_false h0).symm
    rw [stk_one7 h0] at e; exact qround_l hT hnm hk rfl rfl x1 x2 e
end Go.Proofs.YteejbcimmmcnlaaGreatDoor

/-
 Contracts that the proof rests on.
-/
import Derived.Test.YtmmallhniijdfaaGreatDoorYAbi
namespace Go.Proofs.YtmmallhniijdfaaGreatDoor
set_option maxHeartbeats 2000000
open Go.RowKit
set_option linter.unusedVariables false
set_option linter.unusedSimpArgs false
set_option maxRecDepth 100000
def Pk (w : World) (A : Option Addr) (n c : Nat) (t : Bool) (x : Int) (P : Bool → Bool → Int → Prop) : Prop :=
 ∃ q d : Nat, Nm w A n c q ∧ n ≤ 20000 ∧ decide (d = 0) = t ∧ -3000000 ≤ x ∧ x ≤ 3000000 ∧ ∀ σ up, P σ up (rnd up (mk (sgi σ ((stk q d : Nat) : Int)) (x - 1)).1 (mk (sgi σ ((stk q d : Nat) : Int)) (x - 1)).2)
theorem Pk.below {w w' : World} {A : Option Addr} {n c : Nat} {t : Bool} {x : Int} {P : Bool → Bool → Int → Prop} (h : Pk w A n c t x P) (b : Below w.heap.size w w') : Pk w' A n c t x P := by
 obtain ⟨q, d, h1, h2⟩ := h; exact ⟨q, d, h1.below b, h2⟩
def PP7 (w : World) (P : Bool → Bool → Int → Prop) (e : Ending) (w' : World) : Prop := ∃ A n c t x, e = .returned (.agg #[.slice A n c, .bool t, .int .i64 x]) ∧ Pk w' A n c t x P ∧ Below w.heap.size w w'
def Jo.Fact.pk (P : Bool → Bool → Int → Prop) : Jo.Fact := ⟨fun v w => ∃ A n c t x, v = .agg #[.slice A n c, .bool t, .int .i64 x] ∧ Pk w A n c t x P, fun v w w' h b => by
 obtain ⟨A, n, c, t, x, e, p⟩ := h; exact ⟨A, n, c, t, x, e, p.below b⟩⟩
def PQ7 (w : World) (Q : Nat) (t : Bool) (x : Int) (e : Ending) (w' : World) : Prop := ∃ A n c, e = .returned (.agg #[.slice A n c, .bool t, .int .i64 x]) ∧ Nm w' A n c Q ∧ n ≤ 20000 ∧ Below w.heap.size w w'
def MV (α : Nat) (z : Int) (T : Nat) (t : Bool) : Prop := ∀ (w : World) (A : Option Addr) (n c : Nat), Rd w A n c α → n ≤ 8000 → Calls Tryz.prog 118 #[.slice A n c, .int .i64 z] w (P1B w 15000 T t)
theorem qdivided_e {w : World} {A B : Option Addr} {n c m d α β T Q R : Nat} {La Lb z e x : Int} (ha : Rd w A n c α) (hb : Rd w B m d β) (hn : n ≤ 8000) (hβ : β ≠ 0) (hla : ((blen α : Nat) : Int) = La) (hlb : ((blen β : Nat) : Int) = Lb) (hz : Lb - La + 64 = z) (z1 : -200000 ≤ z) (z2 : z ≤ 200000) (hx : e - z = x) (x1 : -3000000 ≤ x) (x2 : x ≤ 2097152)
   (hm : MV α z T true) (hQ : T / β = Q) (hR : T % β = R) (h0 : R = 0) : Calls Tryz.prog 93 #[.slice A n c, .slice B m d, .int .i64 e] w (PQ7 w Q true x) := by
 have HM := Lib.hid hm; have HLA := Lib.hid hla; have HLB := Lib.hid hlb; have HQ := Lib.hid hQ; have HRR := Lib.hid hR; have H0 := Lib.hid h0; have HB0 := Lib.hid hβ
 have e0 : Lb - La = z - 64 := by omega
 have HW1 : Hid (IntKind.i64.wrap (Lb - La) = z - 64) := Lib.hid (by rw [e0]; exact IntWalk.i64_in _ (by omega))
 have HW2 : Hid (wrap64 z = z) := Lib.hid (IntWalk.wrap64_in _ (by omega))
 have HW4 : Hid (wrap64 x = x) := Lib.hid (IntWalk.wrap64_in _ (by omega))
 have HW3 : Hid (IntKind.i64.wrap (e - z) = x) := Lib.hid (by rw [hx]; exact IntWalk.i64_in _ (by omega))
 have hz3 : z ≤ 2097152 := by omega
 have HMZ : Hid (min z 2097152 = z) := Lib.hid (by omega)
 have HMX : Hid (min x 2097152 = x) := Lib.hid (by omega)
 clear hm hla hlb hz e0 hx hQ hR h0 hβ z1 z2 x1
 go_enter Tryz.func93, Tryz.ntmps93
 go_upto_region 1 with (fail)
 generalize hW1 : w.alloc _ = w1 at *; obtain ⟨XR, HB⟩ := Bo.en1 hW1; replace ha := ha.below HB.out; replace hb := hb.below HB.out; clear hW1
 go_wp2_with fail
 refine (vLenE hb HLB.out).mono ?_; rintro ee w2 ⟨rfl, B⟩; replace XR := XR.below B; replace ha := ha.below B; replace hb := hb.below B; replace HB := Hqb HB B; clear B
 go_wp2_with fail
 refine (vLenE ha HLA.out).mono ?_; rintro ee w3 ⟨rfl, B⟩; replace XR := XR.below B; replace ha := ha.below B; replace hb := hb.below B; replace HB := Hqb HB B; clear B; have hw1 := HW1.out; have hw2 := HW2.out; have hmz := HMZ.out
 go_wp2_with fail
 refine (HM.out _ _ _ _ ha hn).mono ?_; rintro ee w4 ⟨A4, n4, c4, rfl, p4, k4, B⟩; replace XR := XR.below B; replace ha := ha.below B; replace hb := hb.below B; replace HB := Hqb HB B; clear B; clear hw1 hw2 hmz
 go_wp2_with fail
 refine (vDivE p4.rd hb (by omega) HB0.out HQ.out HRR.out).mono ?_; rintro ee w5 ⟨A5, n5, c5, B5, m5, d5, rfl, p5, r5, k5, l5, B⟩; replace XR := XR.below B; replace hb := hb.below B; replace p4 := p4.below B; replace HB := Hqb HB B; clear B; clear hb p4
 obtain rfl : m5 = 0 := by have := r5.pos; have := H0.out; omega
 clear r5 H0; have hw3 := HW3.out; have hmx := HMX.out; have xXR := XR.cell; have zXR0 := XR.frozen; go_wp2; clear xXR zXR0; have SX := StN.mk3 XR (.slice A5 n5 c5) (.bool true) (.int .i64 x); replace p5 := p5.stn SX (by simp [no32]); exact bodyPost_ret (v := .agg #[.slice A5 n5 c5, .bool true, .int .i64 x]) (by simp [results, Tryz.results93, go_sem, SX.box.cell]) rfl ⟨A5, n5, c5, rfl, p5, by omega, (SX.below HB.out (by omega))⟩
theorem qdivided_l {w : World} {A B : Option Addr} {n c m d α β T Q R : Nat} {La Lb z e x : Int} (ha : Rd w A n c α) (hb : Rd w B m d β) (hn : n ≤ 8000) (hβ : β ≠ 0) (hla : ((blen α : Nat) : Int) = La) (hlb : ((blen β : Nat) : Int) = Lb) (hz : Lb - La + 64 = z) (z1 : -200000 ≤ z) (z2 : z ≤ 200000) (hx : e - z = x) (x1 : -3000000 ≤ x) (x2 : x ≤ 2097152)
   (hm : MV α z T true) (hQ : T / β = Q) (hR : T % β = R) (h0 : R ≠ 0) : Calls Tryz.prog 93 #[.slice A n c, .slice B m d, .int .i64 e] w (PQ7 w Q false x) := by
 have HM := Lib.hid hm; have HLA := Lib.hid hla; have HLB := Lib.hid hlb; have HQ := Lib.hid hQ; have HRR := Lib.hid hR; have H0 := Lib.hid h0; have HB0 := Lib.hid hβ
 have e0 : Lb - La = z - 64 := by omega
 have HW1 : Hid (IntKind.i64.wrap (Lb - La) = z - 64) := Lib.hid (by rw [e0]; exact IntWalk.i64_in _ (by omega))
 have HW2 : Hid (wrap64 z = z) := Lib.hid (IntWalk.wrap64_in _ (by omega))
 have HW4 : Hid (wrap64 x = x) := Lib.hid (IntWalk.wrap64_in _ (by omega))
 have HW3 : Hid (IntKind.i64.wrap (e - z) = x) := Lib.hid (by rw [hx]; exact IntWalk.i64_in _ (by omega))
 have hz3 : z ≤ 2097152 := by omega
 have HMZ : Hid (min z 2097152 = z) := Lib.hid (by omega)
 have HMX : Hid (min x 2097152 = x) := Lib.hid (by omega)
 clear hm hla hlb hz e0 hx hQ hR h0 hβ z1 z2 x1
 go_enter Tryz.func93, Tryz.ntmps93
 go_upto_region 1 with (fail)
 generalize hW1 : w.alloc _ = w1 at *; obtain ⟨XR, HB⟩ := Bo.en1 hW1; replace ha := ha.below HB.out; replace hb := hb.below HB.out; clear hW1
 go_wp2_with fail
 refine (vLenE hb HLB.out).mono ?_; rintro ee w2 ⟨rfl, B⟩; replace XR := XR.below B; replace ha := ha.below B; replace hb := hb.below B; replace HB := Hqb HB B; clear B
 go_wp2_with fail
 refine (vLenE ha HLA.out).mono ?_; rintro ee w3 ⟨rfl, B⟩; replace XR := XR.below B; replace ha := ha.below B; replace hb := hb.below B; replace HB := Hqb HB B; clear B; have hw1 := HW1.out; have hw2 := HW2.out; have hmz := HMZ.out
 go_wp2_with fail
 refine (HM.out _ _ _ _ ha hn).mono ?_; rintro ee w4 ⟨A4, n4, c4, rfl, p4, k4, B⟩; replace XR := XR.below B; replace ha := ha.below B; replace hb := hb.below B; replace HB := Hqb HB B; clear B; clear hw1 hw2 hmz
 go_wp2_with fail
 refine (vDivE p4.rd hb (by omega) HB0.out HQ.out HRR.out).mono ?_; rintro ee w5 ⟨A5, n5, c5, B5, m5, d5, rfl, p5, r5, k5, l5, B⟩; replace XR := XR.below B; replace hb := hb.below B; replace p4 := p4.below B; replace HB := Hqb HB B; clear B; clear hb p4
 have hne : ((m5 : Int) == 0) = false := by
   have := r5.pos
   have := H0.out
   have : (m5 : Int) ≠ 0 := by omega
   simpa using this
 have hne2 : ¬ m5 = 0 := by have := r5.pos; have := H0.out; omega
 clear r5 H0; have hw3 := HW3.out; have hmx := HMX.out; have xXR := XR.cell; have zXR0 := XR.frozen; go_wp2; clear xXR zXR0; have SX := StN.mk3 XR (.slice A5 n5 c5) (.bool false) (.int .i64 x); replace p5 := p5.stn SX (by simp [no32]); exact bodyPost_ret (v := .agg #[.slice A5 n5 c5, .bool false, .int .i64 x]) (by simp [results, Tryz.results93, go_sem, SX.box.cell]) rfl ⟨A5, n5, c5, rfl, p5, by omega, (SX.below HB.out (by omega))⟩
theorem qdivided_n {w : World} {A B : Option Addr} {n c m d α β T Q R : Nat} {La Lb z e x : Int} (ha : Rd w A n c α) (hb : Rd w B m d β) (hn : n ≤ 8000) (hβ : β ≠ 0) (hla : ((blen α : Nat) : Int) = La) (hlb : ((blen β : Nat) : Int) = Lb) (hz : Lb - La + 64 = z) (z1 : -200000 ≤ z) (z2 : z ≤ 200000) (hx : e - z = x) (x1 : -3000000 ≤ x) (x2 : x ≤ 2097152)
   (hm : MV α z T false) (hQ : T / β = Q) (hR : T % β = R) (h0 : True) : Calls Tryz.prog 93 #[.slice A n c, .slice B m d, .int .i64 e] w (PQ7 w Q false x) := by
 have HM := Lib.hid hm; have HLA := Lib.hid hla; have HLB := Lib.hid hlb; have HQ := Lib.hid hQ; have HRR := Lib.hid hR; have H0 := Lib.hid h0; have HB0 := Lib.hid hβ
 have e0 : Lb - La = z - 64 := by omega
 have HW1 : Hid (IntKind.i64.wrap (Lb - La) = z - 64) := Lib.hid (by rw [e0]; exact IntWalk.i64_in _ (by omega))
 have HW2 : Hid (wrap64 z = z) := Lib.hid (IntWalk.wrap64_in _ (by omega))
 have HW4 : Hid (wrap64 x = x) := Lib.hid (IntWalk.wrap64_in _ (by omega))
 have HW3 : Hid (IntKind.i64.wrap (e - z) = x) := Lib.hid (by rw [hx]; exact IntWalk.i64_in _ (by omega))
 have hz3 : z ≤ 2097152 := by omega
 have HMZ : Hid (min z 2097152 = z) := Lib.hid (by omega)
 have HMX : Hid (min x 2097152 = x) := Lib.hid (by omega)
 clear hm hla hlb hz e0 hx hQ hR h0 hβ z1 z2 x1
 go_enter Tryz.func93, Tryz.ntmps93
 go_upto_region 1 with (fail)
 generalize hW1 : w.alloc _ = w1 at *; obtain ⟨XR, HB⟩ := Bo.en1 hW1; replace ha := ha.below HB.out; replace hb := hb.below HB.out; clear hW1
 go_wp2_with fail
 refine (vLenE hb HLB.out).mono ?_; rintro ee w2 ⟨rfl, B⟩; replace XR := XR.below B; replace ha := ha.below B; replace hb := hb.below B; replace HB := Hqb HB B; clear B
 go_wp2_with fail
 refine (vLenE ha HLA.out).mono ?_; rintro ee w3 ⟨rfl, B⟩; replace XR := XR.below B; replace ha := ha.below B; replace hb := hb.below B; replace HB := Hqb HB B; clear B; have hw1 := HW1.out; have hw2 := HW2.out; have hmz := HMZ.out
 go_wp2_with fail
 refine (HM.out _ _ _ _ ha hn).mono ?_; rintro ee w4 ⟨A4, n4, c4, rfl, p4, k4, B⟩; replace XR := XR.below B; replace ha := ha.below B; replace hb := hb.below B; replace HB := Hqb HB B; clear B; clear hw1 hw2 hmz
 go_wp2_with fail
 refine (vDivE p4.rd hb (by omega) HB0.out HQ.out HRR.out).mono ?_; rintro ee w5 ⟨A5, n5, c5, B5, m5, d5, rfl, p5, r5, k5, l5, B⟩; replace XR := XR.below B; replace hb := hb.below B; replace p4 := p4.below B; replace HB := Hqb HB B; clear B; clear hb p4; clear r5 H0; have hw3 := HW3.out; have hmx := HMX.out; have xXR := XR.cell; have zXR0 := XR.frozen; go_wp2; clear xXR zXR0
 have SX := StN.mk3 XR (.slice A5 n5 c5) (.bool false) (.int .i64 x); replace p5 := p5.stn SX (by simp [no32]); exact bodyPost_ret (v := .agg #[.slice A5 n5 c5, .bool false, .int .i64 x]) (by simp [results, Tryz.results93, go_sem, SX.box.cell]) rfl ⟨A5, n5, c5, rfl, p5, by omega, (SX.below HB.out (by omega))⟩
theorem moved_up {α k : Nat} (hk : k ≤ 200000) : MV α (k : Int) (α * 2 ^ k) true := fun w A n c h hn => qmoved_up h hn hk rfl
theorem moved_dn {α k : Nat} {z : Int} (h0 : 0 < k) (hk : k ≤ 200000) (hz : -z = (k : Int)) : MV α z (α / 2 ^ k) (decide (α / 2 ^ k * 2 ^ k = α)) := fun w A n c h hn => by
 refine qmoved_dn h hn hk h0 hz rfl rfl rfl ?_
 by_cases c : α / 2 ^ k * 2 ^ k = α
 · rw [decide_eq_true c, c, cmpI_self]
   rfl
 · rw [decide_eq_false c]
   have : ¬ cmpI ((α / 2 ^ k * 2 ^ k : Nat) : Int) (α : Int) = 0 := fun e => c (by have := cmpI_zero.1 e; omega)
   simpa using this
theorem qDivided {w : World} {A B : Option Addr} {n c m d α β : Nat} {e : Int} {P : Bool → Bool → Int → Prop} (ha : Rd w A n c α) (hb : Rd w B m d β) (hn : n ≤ 3500) (hm : m ≤ 3500) (hα : 0 < α) (hβ : 0 < β) (e1 : -2200000 ≤ e) (e2 : e ≤ 2200000) (e3 : e - ((blen β : Int) - (blen α : Int) + 64) ≤ 2097152)
   (hP : ∀ σ up r, Sid up (sgi σ ((α : Int) * 2 ^ (e + (KK : Int)).toNat)) (β : Int) r → P σ up r) : Calls Tryz.prog 93 #[.slice A n c, .slice B m d, .int .i64 e] w (PP7 w P) := by
 have hba := ha.blen_le; have hbb := hb.blen_le; obtain ⟨z, hz⟩ : ∃ z : Int, (blen β : Int) - (blen α : Int) + 64 = z := ⟨_, rfl⟩; rw [hz] at e3
 have hn0 : β ≠ 0 := by omega
 have fin : ∀ {Q D : Nat} {t t' : Bool}, t' = t → decide (D = 0) = t → (∀ σ up, Sid up (sgi σ ((α : Int) * 2 ^ (e + (KK : Int)).toNat)) (β : Int) (rnd up (mk (sgi σ ((stk Q D : Nat) : Int)) (e - z - 1)).1 (mk (sgi σ ((stk Q D : Nat) : Int)) (e - z - 1)).2)) → ∀ ee w', PQ7 w Q t' (e - z) ee w' → PP7 w P ee w' := by
   rintro Q D t t' rfl ht hs ee w' ⟨A', n', c', he, hnm, hk, hb'⟩
   exact ⟨A', n', c', t', e - z, he, ⟨Q, D, hnm, hk, ht, by omega, by omega, fun σ up => hP σ up _ (hs σ up)⟩, hb'⟩
 rcases Int.lt_or_le z 0 with c0 | c0
 · obtain ⟨k, hk⟩ : ∃ k : Nat, z = -(k : Int) := ⟨z.natAbs, by omega⟩
   have mv := moved_dn (α := α) (k := k) (z := z) (by omega) (by omega) (by omega)
   have hs := fun {D} (hd : D = 0 ↔ (α / 2 ^ k * 2 ^ k = α ∧ α / 2 ^ k % β = 0)) (σ up : Bool) => part_dn (e := e) (d := D) hα hβ (by omega) (by omega) e1 e2 hd σ up
   have ez : e + (k : Int) - 1 = e - z - 1 := by omega
   rw [ez] at hs
   by_cases h1 : α / 2 ^ k * 2 ^ k = α
   · rw [decide_eq_true h1] at mv
     by_cases h2 : α / 2 ^ k % β = 0
     · exact (qdivided_e ha hb (by omega) hn0 rfl rfl hz (by omega) (by omega) rfl (by omega) e3 mv rfl rfl h2).mono (fin (D := 0) rfl rfl (hs ⟨fun _ => ⟨h1, h2⟩, fun _ => rfl⟩))
     · exact (qdivided_l ha hb (by omega) hn0 rfl rfl hz (by omega) (by omega) rfl (by omega) e3 mv rfl rfl h2).mono (fin (D := 1) rfl rfl (hs ⟨fun h => absurd h (by decide), fun h => absurd h.2 h2⟩))
   · rw [decide_eq_false h1] at mv
     exact (qdivided_n ha hb (by omega) hn0 rfl rfl hz (by omega) (by omega) rfl (by omega) e3 mv rfl rfl trivial).mono (fin (D := 1) rfl rfl (hs ⟨fun h => absurd h (by decide), fun h => absurd h.1 h1⟩))
 · obtain ⟨k, rfl⟩ : ∃ k : Nat, z = (k : Int) := ⟨z.toNat, by omega⟩
   have mv := moved_up (α := α) (k := k) (by omega); have hs := part_up (e := e) hα hβ hz (by omega) (by omega) e1 e2
   by_cases h2 : α * 2 ^ k % β = 0
   · exact (qdivided_e ha hb (by omega) hn0 rfl rfl hz (by omega) (by omega) rfl (by omega) e3 mv rfl rfl h2).mono (fin rfl (decide_eq_true h2) hs)
   · exact (qdivided_l ha hb (by omega) hn0 rfl rfl hz (by omega) (by omega) rfl (by omega) e3 mv rfl rfl h2).mono (fin rfl (decide_eq_false h2) hs)
theorem stk_zero7 (q : Nat) : stk q 0 = q * 2 ^ 1 := by
 unfold stk
 rw [if_pos rfl]
 omega
theorem stk_one7 {q r : Nat} (h : r ≠ 0) : stk q r = q * 2 ^ 1 + 1 := by
 unfold stk
 rw [if_neg h]
 omega
theorem sg_sgi7 (s : Bool) (a : Nat) : sg s a = sgi s (a : Int) := by
 cases s
 · rw [sg_false, wsg_f]
 · rw [sg_true, wsg_t]
theorem lit_one7 (W : World) : Rd (W.alloc (.cells #[.int .u32 1] 54)) (some ⟨W.heap.size, 0, none⟩) 1 1 1 :=
 ⟨_, [1], (Own.new W [1]).all (Lim.cons (by decide) Lim.nil) (by simp) (Nat.le_refl _), by decide⟩
theorem qround_e {w : World} {A : Option Addr} {n c q a0 a : Nat} {x r : Int} {σ up : Bool} (hT : Tab w) (h : Nm w A n c q) (hn : n ≤ 20000) (h0 : q * 2 ^ 1 = a0) (h1 : a0 = a) (x1 : -3000000 ≤ x) (x2 : x ≤ 3000000) (hr : rnd up (mk (sg σ a) (x - 1)).1 (mk (sg σ a) (x - 1)).2 = r) : Calls Tryz.prog 94 #[.agg #[.slice A n c, .bool true, .int .i64 x], .bool σ, .bool up] w (PN w r) := by
 have HA := Lib.hid h0; have H1 := Lib.hid h1; have HR := Lib.hid hr
 have HW : Hid (IntKind.i64.wrap (x - 1) = x - 1) := Lib.hid (IntWalk.i64_in _ (by omega))
 clear h0 h1 hr x1 x2
 go_enter Tryz.func94, Tryz.ntmps94
 go_upto_region 1 with (fail)
 generalize hW1 : (w.alloc _).alloc _ = w1 at *; obtain ⟨X3, XR, HB⟩ := Bo.en2 hW1; replace hT := hT.below HB.out; replace h := h.below HB.out; clear hW1; have xX3 := X3.cell
 go_wp2_with fail
 refine (vShlE (s := 1) h.rd (by omega) (by decide) HA.out).mono ?_; rintro ee w2 ⟨A2, n2, c2, rfl, p2, k2, B⟩; clear xX3; replace X3 := X3.below B; replace XR := XR.below B; replace hT := hT.below B; replace h := h.below B; replace HB := Hqb HB B; clear B; clear h
 obtain rfl := H1.out
 have xX3 := X3.cell
 go_upto_region 4 with (fail)
 clear xX3; refine Jo.rk [0, 1, 2, 3, 4, 5, 6, 7, 8] [some 17, some 18, some 19, some 20, some 21, some 22, some 23, some 24, some 25, none] [[], [], [0, 1], [], [3], [4], [2, 5], [], [6, 7], []] 10 1 [Jo.qb σ, Jo.Fact.eq (.slice A2 n2 c2), Jo.Fact.wn (sg σ a0) 30000, Jo.qp w.heap.size 2, Jo.qi x, Jo.Fact.eq (.int .i64 (x - 1)), Jo.Fact.dy (sg σ a0) (x - 1) 30000, Jo.qb up, Jo.Fact.num r, Jo.Fact.any] (by kernel_rfl) (by kernel_rfl) (by decide) rfl ?_ ?_
 · iterate 2 (refine Jo.jm rfl ?_ ?_; rotate_left)
   refine Jo.jm rfl ?_ ?_
   · rintro wj hJ _ rfl _ rfl K hK; simp only [Jo.z] at hK ⊢; go_simp; refine (wMake σ (p2.below hJ).rd).mono ?_; rintro ee wk ⟨s7, A7, n7, c7, rfl, p7, k7, B⟩; exact hK.out _ _ ⟨s7, A7, n7, c7, rfl, p7, by omega⟩ B
   refine Jo.jm rfl ?_ ?_; rotate_left
   refine Jo.jm rfl ?_ ?_
   · rintro wj hJ _ rfl K hK; simp only [Jo.z] at hK ⊢; have xX32 := (X3.below hJ).a 2 (.int .i64 x) rfl; go_simp; exact hK.out _ _ rfl (br _ _)
   refine Jo.jm rfl ?_ ?_
   · rintro wj hJ _ rfl K hK; simp only [Jo.z] at hK ⊢; have hw := HW.out; go_simp
     exact hK.out _ _ (by first | rfl | (show Value.int _ _ = Value.int _ _; rw [hw])) (br _ _)
   refine Jo.jm rfl ?_ ?_
   · rintro wj hJ _ ⟨s7, A7, n7, c7, rfl, p7, k7⟩ _ rfl K hK; simp only [Jo.z] at hK ⊢; go_simp; exact hK.out _ _ ⟨s7, A7, n7, c7, rfl, p7, k7⟩ (br _ _)
   refine Jo.jm rfl ?_ ?_; rotate_left
   refine Jo.jm rfl ?_ ?_
   · rintro wj hJ _ ⟨s8, A8, n8, c8, rfl, p8, k8⟩ _ rfl K hK; simp only [Jo.z] at hK ⊢; go_simp; refine (nRound (hT.below hJ) p8.wr (by omega) rfl rfl HR.out).mono ?_; rintro ee wk ⟨K9, s9, M9, E9, rfl, q9, B⟩; exact hK.out _ _ ⟨K9, s9, M9, E9, rfl, q9⟩ B
   exact Jo.Steps.nil
   all_goals (rintro wj hJ; (repeat rintro _ rfl); intro K hK; simp only [Jo.z] at hK ⊢; go_simp; exact hK.out _ _ rfl (br _ _))
 rintro w8 hJ _ rfl _ rfl _ ⟨_, _, _, _, rfl, _⟩ _ _ _ rfl _ rfl _ ⟨_, _, _, _, rfl, _⟩ _ rfl _ ⟨K9, s9, M9, E9, rfl, q9⟩ -; simp only [Jo.z]; replace X3 := X3.below hJ; replace XR := XR.below hJ; replace hT := hT.below hJ; replace p2 := p2.below hJ; replace HB := Hqb HB hJ; have xXR := XR.cell; have zXR0 := XR.frozen
 refine Jo.jnext (i := 9) (o := ⟨none, _, _, _, _, _⟩) (by kernel_rfl) rfl (fun K hK => ?_)
 go_simp; refine hK.out _ _ ?_; clear hK K xXR zXR0; have SX := StN.mk4 XR (.int .i64 K9) (.bool s9) (.int .u64 M9) (.int .i64 E9); refine Jo.jdone (by kernel_rfl) ?_; go_wp2; exact bodyPost_ret (by simp [results, Tryz.results94, go_sem, SX.box.cell]) rfl ⟨_, _, _, _, rfl, q9, (SX.below HB.out (by omega))⟩
theorem qround_l {w : World} {A : Option Addr} {n c q a0 a : Nat} {x r : Int} {σ up : Bool} (hT : Tab w) (h : Nm w A n c q) (hn : n ≤ 20000) (h0 : q * 2 ^ 1 = a0) (h1 : a0 + 1 = a) (x1 : -3000000 ≤ x) (x2 : x ≤ 3000000) (hr : rnd up (mk (sg σ a) (x - 1)).1 (mk (sg σ a) (x - 1)).2 = r) : Calls Tryz.prog 94 #[.agg #[.slice A n c, .bool false, .int .i64 x], .bool σ, .bool up] w (PN w r) := by
 have HA := Lib.hid h0; have H1 := Lib.hid h1; have HR := Lib.hid hr
 have HW : Hid (IntKind.i64.wrap (x - 1) = x - 1) := Lib.hid (IntWalk.i64_in _ (by omega))
 clear h0 h1 hr x1 x2
 go_enter Tryz.func94, Tryz.ntmps94
 go_upto_region 1 with (fail)
 generalize hW1 : (w.alloc _).alloc _ = w1 at *; obtain ⟨X3, XR, HB⟩ := Bo.en2 hW1; replace hT := hT.below HB.out; replace h := h.below HB.out; clear hW1; have xX3 := X3.cell
 go_wp2_with fail
 refine (vShlE (s := 1) h.rd (by omega) (by decide) HA.out).mono ?_; rintro ee w2 ⟨A2, n2, c2, rfl, p2, k2, B⟩; clear xX3; replace X3 := X3.below B; replace XR := XR.below B; replace hT := hT.below B; replace h := h.below B; replace HB := Hqb HB B; clear B; clear h; have xX3 := X3.cell
 go_wp2_with fail
 refine (vAddE (p2.below (bel1 _ _)).rd (lit_one7 w2) (by omega) (by decide) H1.out).mono ?_; rintro ee w4 ⟨A4, n4, c4, rfl, p4, k4, B⟩; clear xX3; replace B := bt (bel1 _ _) B; replace X3 := X3.below B; replace XR := XR.below B; replace hT := hT.below B; replace p2 := p2.below B; replace HB := Hqb HB B; clear B; clear p2; have xX3 := X3.cell
 go_upto_region 4 with (fail)
 clear xX3; refine Jo.rk [0, 1, 2, 3, 4, 5, 6, 7, 8] [some 17, some 18, some 19, some 20, some 21, some 22, some 23, some 24, some 25, none] [[], [], [0, 1], [], [3], [4], [2, 5], [], [6, 7], []] 10 1 [Jo.qb σ, Jo.Fact.eq (.slice A4 n4 c4), Jo.Fact.wn (sg σ a) 30000, Jo.qp w.heap.size 2, Jo.qi x, Jo.Fact.eq (.int .i64 (x - 1)), Jo.Fact.dy (sg σ a) (x - 1) 30000, Jo.qb up, Jo.Fact.num r, Jo.Fact.any] (by kernel_rfl) (by kernel_rfl) (by decide) rfl ?_ ?_
 · iterate 2 (refine Jo.jm rfl ?_ ?_; rotate_left)
   refine Jo.jm rfl ?_ ?_
   · rintro wj hJ _ rfl _ rfl K hK; simp only [Jo.z] at hK ⊢; go_simp; refine (wMake σ (p4.below hJ).rd).mono ?_; rintro ee wk ⟨s7, A7, n7, c7, rfl, p7, k7, B⟩; exact hK.out _ _ ⟨s7, A7, n7, c7, rfl, p7, by omega⟩ B
   refine Jo.jm rfl ?_ ?_; rotate_left
   refine Jo.jm rfl ?_ ?_
   · rintro wj hJ _ rfl K hK; simp only [Jo.z] at hK ⊢; have xX32 := (X3.below hJ).a 2 (.int .i64 x) rfl; go_simp; exact hK.out _ _ rfl (br _ _)
   refine Jo.jm rfl ?_ ?_
   · rintro wj hJ _ rfl K hK; simp only [Jo.z] at hK ⊢; have hw := HW.out; go_simp
     exact hK.out _ _ (by first | rfl | (show Value.int _ _ = Value.int _ _; rw [hw])) (br _ _)
   refine Jo.jm rfl ?_ ?_
   · rintro wj hJ _ ⟨s7, A7, n7, c7, rfl, p7, k7⟩ _ rfl K hK; simp only [Jo.z] at hK ⊢; go_simp; exact hK.out _ _ ⟨s7, A7, n7, c7, rfl, p7, k7⟩ (br _ _)
   refine Jo.jm rfl ?_ ?_; rotate_left
   refine Jo.jm rfl ?_ ?_
   · rintro wj hJ _ ⟨s8, A8, n8, c8, rfl, p8, k8⟩ _ rfl K hK; simp only [Jo.z] at hK ⊢; go_simp; refine (nRound (hT.below hJ) p8.wr (by omega) rfl rfl HR.out).mono ?_; rintro ee wk ⟨K9, s9, M9, E9, rfl, q9, B⟩; exact hK.out _ _ ⟨K9, s9, M9, E9, rfl, q9⟩ B
   exact Jo.Steps.nil
   all_goals (rintro wj hJ; (repeat rintro _ rfl); intro K hK; simp only [Jo.z] at hK ⊢; go_simp; exact hK.out _ _ rfl (br _ _))
 rintro w8 hJ _ rfl _ rfl _ ⟨_, _, _, _, rfl, _⟩ _ _ _ rfl _ rfl _ ⟨_, _, _, _, rfl, _⟩ _ rfl _ ⟨K9, s9, M9, E9, rfl, q9⟩ -; simp only [Jo.z]; replace X3 := X3.below hJ; replace XR := XR.below hJ; replace hT := hT.below hJ; replace p4 := p4.below hJ; replace HB := Hqb HB hJ; have xXR := XR.cell; have zXR0 := XR.frozen
 refine Jo.jnext (i := 9) (o := ⟨none, _, _, _, _, _⟩) (by kernel_rfl) rfl (fun K hK => ?_)
 go_simp; refine hK.out _ _ ?_; clear hK K xXR zXR0; have SX := StN.mk4 XR (.int .i64 K9) (.bool s9) (.int .u64 M9) (.int .i64 E9); refine Jo.jdone (by kernel_rfl) ?_; go_wp2; exact bodyPost_ret (by simp [results, Tryz.results94, go_sem, SX.box.cell]) rfl ⟨_, _, _, _, rfl, q9, (SX.below HB.out (by omega))⟩
theorem qRound {w : World} {A : Option Addr} {n c : Nat} {t σ up : Bool} {x r : Int} {P : Bool → Bool → Int → Prop} (hT : Tab w) (h : Pk w A n c t x P) (hr : ∀ r', P σ up r' → r' = r) : Calls Tryz.prog 94 #[.agg #[.slice A n c, .bool t, .int .i64 x], .bool σ, .bool up] w (PN w r) := by
 obtain ⟨q, d, hnm, hk, ht, x1, x2, hp⟩ := h; have e := hr _ (hp σ up); rw [← sg_sgi7] at e
 by_cases h0 : d = 0
 · subst h0
   obtain rfl : true = t := ht
   rw [stk_zero7] at e; exact qround_e hT hnm hk rfl rfl x1 x2 e
 · obtain rfl : false = t := by rw [← ht]; exact (decide_eq_false h0).symm
   rw [stk_one7 h0] at e; exact qround_l hT hnm hk rfl rfl x1 x2 e
theorem ratio_pre {up s t : Bool} {z y r : Int} {α β : Nat} (hz : sg s α = z) (hy : sg t β = y) (hβ : 0 < β) (hr : Rq up z y r) :
   ∃ P : Bool → Bool → Int → Prop, (∀ σ up r', Sid up (sgi σ ((α : Int) * 2 ^ ((0 : Int) + (KK : Int)).toNat)) (β : Int) r' → P σ up r') ∧ (∀ r', P (s != t) up r' → r' = r) := by
 refine ⟨_, fun _ _ _ h => h, fun r' h => ?_⟩
 have := rq_of hβ h
 rw [← sg_sgi7, ← sg_sgi7, hz, hy] at this; exact this.uniq hr
theorem rq_nought {up : Bool} {y r : Int} (hy : y ≠ 0) (h : Rq up 0 y r) : r = 0 := by
 have h1 := (rq_some hy).1 h
 have e : sgi (decide (y < 0)) 0 * 2 ^ KK = (0 : Int) := by
   have : sgi (decide (y < 0)) (0 : Int) = 0 := by cases decide (y < 0) <;> rfl
   rw [this, Int.zero_mul]
 rw [e] at h1
 exact h1.uniq (sg_pos hy) (sid_exact (r := 0) (sg_pos hy) (by decide) (by decide) (by rw [show vr 0 = 0 from rfl, Int.zero_mul]))
theorem kRatio0 {w : World} {A B : Option Addr} {n c m d : Nat} {s t up : Bool} {z y r : Int} (hT : Tab w) (h : Wr w s A n c z) (k : Wr w t B m d y) (hn : n ≤ 3500) (hm : m ≤ 3500) (hr : Rq up z y r) : Calls Tryz.prog 52 #[.agg #[.bool s, .slice A n c], .agg #[.bool t, .slice B m d], .bool up] w (PN w r) := by
 obtain ⟨σ, hσ⟩ : ∃ σ, cmpI y 0 = σ := ⟨_, rfl⟩; obtain ⟨τ, hτ⟩ : ∃ τ, cmpI z 0 = τ := ⟨_, rfl⟩; have HS := Lib.hid hσ; have HZ := Lib.hid hτ
 go_enter Tryz.func52, Tryz.ntmps52
 go_upto_region 1 with (fail)
 generalize hW1 : ((w.alloc _).alloc _).alloc _ = w1 at *; obtain ⟨X3, X4, XR, HB⟩ := Bo.en3 hW1; replace hT := hT.below HB.out; replace h := h.below HB.out; replace k := k.below HB.out; clear hW1; have xX4 := X4.cell
 go_wp2_with fail
 refine (wSign k HS.out).mono ?_; rintro ee w2 ⟨rfl, B⟩; clear xX4; replace X3 := X3.below B; replace X4 := X4.below B; replace XR := XR.below B; replace hT := hT.below B; replace h := h.below B; replace k := k.below B; replace HB := Hqb HB B; clear B
 by_cases hy0 : y = 0
 · have hs0 : (σ == 0) = true := by rw [← hσ, cmpI_eq hy0]; rfl
   subst hy0; have HRR := Lib.hid (rq_none.1 hr).symm; clear h k hT hr hσ hτ HS HZ
   go_wp2_with fail
   refine (qAway HRR.out).mono ?_; rintro ee w6 ⟨K3, s3, M3, E3, rfl, q3, B⟩; replace X3 := X3.below B; replace X4 := X4.below B; replace XR := XR.below B; replace HB := Hqb HB B; clear B; have xXR := XR.cell; have zXR0 := XR.frozen; go_wp2; clear xXR zXR0; have SX := StN.mk4 XR (.int .i64 K3) (.bool s3) (.int .u64 M3) (.int .i64 E3); exact bodyPost_ret (by simp [results, Tryz.results52, go_sem, SX.box.cell]) rfl ⟨_, _, _, _, rfl, q3, (SX.below HB.out (by omega))⟩
 · have hs0 : (σ == 0) = false := by
     have : σ ≠ 0 := fun e => hy0 (cmpI_zero.1 (hσ.trans e))
     simpa using this
   clear hσ HS; have xX3 := X3.cell
   go_wp2_with fail
   refine (wSign h HZ.out).mono ?_; rintro ee w3 ⟨rfl, B⟩; clear xX3; replace X3 := X3.below B; replace X4 := X4.below B; replace XR := XR.below B; replace hT := hT.below B; replace h := h.below B; replace k := k.below B; replace HB := Hqb HB B; clear B
   by_cases hz0 : z = 0
   · have hs1 : (τ == 0) = true := by rw [← hτ, cmpI_eq hz0]; rfl
     subst hz0
     obtain rfl := rq_nought hy0 hr
     clear h k hT hr hτ HZ; have xXR := XR.cell; have zXR0 := XR.frozen; have xX3 := X3.cell; have xX4 := X4.cell; go_wp2; clear xXR zXR0 xX3 xX4; have SX := StN.mk4 XR (.int .i64 0) (.bool false) (.int .u64 0) (.int .i64 0); exact bodyPost_ret (by simp [results, Tryz.results52, go_sem, SX.box.cell]) rfl ⟨_, _, _, _, rfl, Fq.nought, (SX.below HB.out (by omega))⟩
   · have hs1 : (τ == 0) = false := by
       have : τ ≠ 0 := fun e => hz0 (cmpI_zero.1 (hτ.trans e))
       simpa using this
     clear hτ HZ; obtain ⟨α, ha, hz⟩ := h; obtain ⟨β, hb, hy⟩ := k
     have α0 : 0 < α := by
       rcases Nat.eq_zero_or_pos α with e | e
       · subst e
         exact absurd (show z = 0 by rw [← hz]; cases s <;> rfl) hz0
       · exact e
     have β0 : 0 < β := by
       rcases Nat.eq_zero_or_pos β with e | e
       · subst e
         exact absurd (show y = 0 by rw [← hy]; cases t <;> rfl) hy0
       · exact e
     obtain ⟨P, hP, hPr⟩ := ratio_pre hz hy β0 hr; have hba := ha.blen_le; have hbb := hb.blen_le
     have eb3 : (0 : Int) - ((blen β : Int) - (blen α : Int) + 64) ≤ 2097152 := by omega
     have HPP := Lib.hid hP; have HPR := Lib.hid hPr; clear hP hPr hr hz hy hz0 hy0 hba hbb
     go_upto_region 5 with (fail)
     refine Jo.rk [0, 1, 2, 3, 4, 5, 6, 7, 8, 9, 10, 11] [some 18, some 19, some 20, some 21, some 22, some 23, some 24, some 25, some 26, some 27, some 28, some 29, none] [[], [0], [], [2], [1, 3], [], [5], [], [7], [6, 8], [], [4, 9, 10], []] 13 1 [Jo.qp w.heap.size 1, Jo.Fact.eq (.slice A n c), Jo.qp (w.heap.size + 1) 1, Jo.Fact.eq (.slice B m d), Jo.Fact.pk P, Jo.qp w.heap.size 0, Jo.qb s, Jo.qp (w.heap.size + 1) 0, Jo.qb t, Jo.Fact.eq (.bool (s != t)), Jo.qb up, Jo.Fact.num r, Jo.Fact.any] (by kernel_rfl) (by kernel_rfl) (by decide) rfl ?_ ?_
     · refine Jo.jm rfl ?_ ?_; rotate_left
       refine Jo.jm rfl ?_ ?_
       · rintro wj hJ _ rfl K hK; simp only [Jo.z] at hK ⊢; have xX31 := (X3.below hJ).a 1 (.slice A n c) rfl; go_simp; exact hK.out _ _ rfl (br _ _)
       refine Jo.jm rfl ?_ ?_; rotate_left
       refine Jo.jm rfl ?_ ?_
       · rintro wj hJ _ rfl K hK; simp only [Jo.z] at hK ⊢; have xX41 := (X4.below hJ).a 1 (.slice B m d) rfl; go_simp; exact hK.out _ _ rfl (br _ _)
       refine Jo.jm rfl ?_ ?_
       · rintro wj hJ _ rfl _ rfl K hK; simp only [Jo.z] at hK ⊢; go_simp; refine (qDivided (ha.below hJ) (hb.below hJ) (by omega) (by omega) α0 β0 (by decide) (by decide) eb3 HPP.out).mono ?_; rintro ee wk ⟨A7, n7, c7, t7, x7, rfl, p7, B⟩; exact hK.out _ _ ⟨A7, n7, c7, t7, x7, rfl, p7⟩ B
       refine Jo.jm rfl ?_ ?_; rotate_left
       refine Jo.jm rfl ?_ ?_
       · rintro wj hJ _ rfl K hK; simp only [Jo.z] at hK ⊢; have xX30 := (X3.below hJ).a 0 (.bool s) rfl; go_simp; exact hK.out _ _ rfl (br _ _)
       refine Jo.jm rfl ?_ ?_; rotate_left
       refine Jo.jm rfl ?_ ?_
       · rintro wj hJ _ rfl K hK; simp only [Jo.z] at hK ⊢; have xX40 := (X4.below hJ).a 0 (.bool t) rfl; go_simp; exact hK.out _ _ rfl (br _ _)
       iterate 2 (refine Jo.jm rfl ?_ ?_; rotate_left)
       refine Jo.jm rfl ?_ ?_
       · rintro wj hJ _ ⟨A7, n7, c7, t7, x7, rfl, p7⟩ _ rfl _ rfl K hK; simp only [Jo.z] at hK ⊢; go_simp; refine (qRound (hT.below hJ) p7 HPR.out).mono ?_; rintro ee wk ⟨K9, s9, M9, E9, rfl, q9, B⟩; exact hK.out _ _ ⟨K9, s9, M9, E9, rfl, q9⟩ B
       exact Jo.Steps.nil
       all_goals (rintro wj hJ; (repeat rintro _ rfl); intro K hK; simp only [Jo.z] at hK ⊢; go_simp; exact hK.out _ _ rfl (br _ _))
     rintro w8 hJ _ _ _ rfl _ _ _ rfl _ ⟨_, _, _, _, _, rfl, _⟩ _ _ _ rfl _ _ _ rfl _ rfl _ rfl _ ⟨K9, s9, M9, E9, rfl, q9⟩ -; simp only [Jo.z]; replace X3 := X3.below hJ; replace X4 := X4.below hJ; replace XR := XR.below hJ; replace hT := hT.below hJ; replace ha := ha.below hJ; replace hb := hb.below hJ; replace HB := Hqb HB hJ; have xXR := XR.cell; have zXR0 := XR.frozen
     refine Jo.jnext (i := 12) (o := ⟨none, _, _, _, _, _⟩) (by kernel_rfl) rfl (fun K hK => ?_)
     go_simp; refine hK.out _ _ ?_; clear hK K xXR zXR0; have SX := StN.mk4 XR (.int .i64 K9) (.bool s9) (.int .u64 M9) (.int .i64 E9); refine Jo.jdone (by kernel_rfl) ?_; go_wp2; exact bodyPost_ret (by simp [results, Tryz.results52, go_sem, SX.box.cell]) rfl ⟨_, _, _, _, rfl, q9, (SX.below HB.out (by omega))⟩
theorem kRatio {w : World} {A B : Option Addr} {n c m d : Nat} {s t up : Bool} {z y r : Int} (hT : Tab w) (h : Wr w s A n c z) (k : Wr w t B m d y) (hn : n ≤ 20) (hm : m ≤ 20) (hr : Rq up z y r) : Calls Tryz.prog 52 #[.agg #[.bool s, .slice A n c], .agg #[.bool t, .slice B m d], .bool up] w (PN w r) := kRatio0 hT h k (by omega) (by omega) hr
def hi1 : Sp → List Int
 | none => []
 | some (_, b) => [b]
end Go.Proofs.YtmmallhniijdfaaGreatDoor

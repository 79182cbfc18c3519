/-
  Contracts and words that the statement's proof rests on, several texts in one: Mr, Id.
-/
import Derived.Test.YtpmakljahhhnfaaGreatDoorYAak
import Derived.Test.YtpmakljahhhnfaaGreatDoorYAao
import Derived.Test.YtpmakljahhhnfaaGreatDoorYAav
import Derived.Test.YtpmakljahhhnfaaGreatDoorYAax
/-
  What the highest bits of a quotient and of a root are, and to what they are rounded.
-/
namespace Go.Proofs.YtpmakljahhhnfaaGreatDoor
open Go.RowKit
set_option linter.unusedVariables false
set_option linter.unusedSimpArgs false
set_option maxRecDepth 100000

/-- The highest bits of a number, whether they are all of it, and to what it is rounded. -/
def Pk (w : World) (A : Option Addr) (n c : Nat) (t : Bool) (x : Int) (P : Bool → Bool → Int → Prop) : Prop :=
  ∃ q d : Nat, Nm w A n c q ∧ n ≤ 20000 ∧ decide (d = 0) = t ∧ -3000000 ≤ x ∧ x ≤ 3000000 ∧ ∀ σ up, P σ up (rnd up (mk (sgi σ ((stk q d : Nat) : Int)) (x - 1)).1 (mk (sgi σ ((stk q d : Nat) : Int)) (x - 1)).2)
theorem Pk.below {w w' : World} {A : Option Addr} {n c : Nat} {t : Bool} {x : Int} {P : Bool → Bool → Int → Prop} (h : Pk w A n c t x P) (b : Below w.heap.size w w') : Pk w' A n c t x P := by
  obtain ⟨q, d, h1, h2⟩ := h
  exact ⟨q, d, h1.below b, h2⟩
/-- Such bits are answered. -/
def PP7 (w : World) (P : Bool → Bool → Int → Prop) (e : Ending) (w' : World) : Prop := ∃ A n c t x, e = .returned (.agg #[.slice A n c, .bool t, .int .i64 x]) ∧ Pk w' A n c t x P ∧ Below w.heap.size w w'
def Jo.Fact.pk (P : Bool → Bool → Int → Prop) : Jo.Fact := ⟨fun v w => ∃ A n c t x, v = .agg #[.slice A n c, .bool t, .int .i64 x] ∧ Pk w A n c t x P, fun v w w' h b => by
  obtain ⟨A, n, c, t, x, e, p⟩ := h
  exact ⟨A, n, c, t, x, e, p.below b⟩⟩
/-- Part of what is answered of a quotient. -/
def PQ7 (w : World) (Q : Nat) (t : Bool) (x : Int) (e : Ending) (w' : World) : Prop := ∃ A n c, e = .returned (.agg #[.slice A n c, .bool t, .int .i64 x]) ∧ Nm w' A n c Q ∧ n ≤ 20000 ∧ Below w.heap.size w w'
/-- The call of moved that is made. -/
def MV (α : Nat) (z : Int) (T : Nat) (t : Bool) : Prop := ∀ (w : World) (A : Option Addr) (n c : Nat), Rd w A n c α → n ≤ 8000 → Calls Tryz.prog 50 #[.slice A n c, .int .i64 z] w (P1B w 15000 T t)
set_option maxHeartbeats 1000000 in
theorem qdivided_e {w : World} {A B : Option Addr} {n c m d α β T Q R : Nat} {La Lb z e x : Int} (ha : Rd w A n c α) (hb : Rd w B m d β) (hn : n ≤ 8000) (hβ : β ≠ 0) (hla : ((blen α : Nat) : Int) = La) (hlb : ((blen β : Nat) : Int) = Lb) (hz : Lb - La + 64 = z) (z1 : -200000 ≤ z) (z2 : z ≤ 200000) (hx : e - z = x) (x1 : -3000000 ≤ x) (x2 : x ≤ 2097152)
    (hm : MV α z T true) (hQ : T / β = Q) (hR : T % β = R) (h0 : R = 0) : Calls Tryz.prog 22 #[.slice A n c, .slice B m d, .int .i64 e] w (PQ7 w Q true x) := by
  have HM := Lib.hid hm
  have HLA := Lib.hid hla
  have HLB := Lib.hid hlb
  have HQ := Lib.hid hQ
  have HRR := Lib.hid hR
  have H0 := Lib.hid h0
  have HB0 := Lib.hid hβ
  have e0 : Lb - La = z - 64 := by omega
  have HW1 : Hid (IntKind.i64.wrap (Lb - La) = z - 64) := Lib.hid (by rw [e0]; exact IntWalk.i64_in _ (by omega))
  have HW2 : Hid (wrap64 z = z) := Lib.hid (IntWalk.wrap64_in _ (by omega))
  have HW4 : Hid (wrap64 x = x) := Lib.hid (IntWalk.wrap64_in _ (by omega))
  have HW3 : Hid (IntKind.i64.wrap (e - z) = x) := Lib.hid (by rw [hx]; exact IntWalk.i64_in _ (by omega))
  have hz3 : z ≤ 2097152 := by omega
  have HMZ : Hid (min z 2097152 = z) := Lib.hid (by omega)
  have HMX : Hid (min x 2097152 = x) := Lib.hid (by omega)
  clear hm hla hlb hz e0 hx hQ hR h0 hβ z1 z2 x1
  go_enter Tryz.func22, Tryz.ntmps22
  go_upto_region 1 with (fail)
  have XR := (Bo.newAt w (g := w.heap.size) (by simp) #[.slice none 0 0, .bool false, .int .i64 0] 46)
  have HB := Lib.hid (bel1 w (.cells #[.slice none 0 0, .bool false, .int .i64 0] 46))
  replace ha := ha.below HB.out
  replace hb := hb.below HB.out
  generalize hW1 : (w.alloc (.cells #[.slice none 0 0, .bool false, .int .i64 0] 46)) = w1 at *
  clear hW1
  go_wp2_with fail
  refine (vLenE hb HLB.out).mono ?_
  rintro ee w2 ⟨rfl, B⟩
  replace XR := XR.below B
  replace ha := ha.below B
  replace hb := hb.below B
  replace HB := Lib.hid (bt HB.out B)
  clear B
  go_wp2_with fail
  refine (vLenE ha HLA.out).mono ?_
  rintro ee w3 ⟨rfl, B⟩
  replace XR := XR.below B
  replace ha := ha.below B
  replace hb := hb.below B
  replace HB := Lib.hid (bt HB.out B)
  clear B
  have hw1 := HW1.out
  have hw2 := HW2.out
  have hmz := HMZ.out
  go_wp2_with fail
  refine (HM.out _ _ _ _ ha hn).mono ?_
  rintro ee w4 ⟨A4, n4, c4, rfl, p4, k4, B⟩
  replace XR := XR.below B
  replace ha := ha.below B
  replace hb := hb.below B
  replace HB := Lib.hid (bt HB.out B)
  clear B
  clear hw1 hw2 hmz
  go_wp2_with fail
  refine (vDivE p4.rd hb (by omega) HB0.out HQ.out HRR.out).mono ?_
  rintro ee w5 ⟨A5, n5, c5, B5, m5, d5, rfl, p5, r5, k5, l5, B⟩
  replace XR := XR.below B
  replace hb := hb.below B
  replace p4 := p4.below B
  replace HB := Lib.hid (bt HB.out B)
  clear B
  clear hb p4
  obtain rfl : m5 = 0 := by have := r5.pos; have := H0.out; omega
  clear r5 H0
  have hw3 := HW3.out
  have hmx := HMX.out
  have xXR0 := XR.a 0 (.slice none 0 0) rfl
  have zXR0 := XR.frozen 0
  have xXR1 := XR.a 1 (.bool false) rfl
  have zXR1 := XR.frozen 1
  have xXR2 := XR.a 2 (.int .i64 0) rfl
  have zXR2 := XR.frozen 2
  go_wp2
  clear xXR0 zXR0 xXR1 zXR1 xXR2 zXR2
  have SX := StN.mk3 XR (.slice A5 n5 c5) (.bool true) (.int .i64 x)
  replace p5 := p5.stn SX (by simp [no32])
  replace HB := Lib.hid (SX.below HB.out (by omega))
  replace XR := SX.box
  clear SX
  generalize (World.setCell (World.setCell (World.setCell w5 ⟨w.heap.size, 0, none⟩ (.slice A5 n5 c5)) ⟨w.heap.size, 1, none⟩ (.bool true)) ⟨w.heap.size, 2, none⟩ (.int .i64 x)) = w6 at *
  have r0 := XR.cell 0
  have r1 := XR.cell 1
  have r2 := XR.cell 2
  exact bodyPost_ret (v := .agg #[.slice A5 n5 c5, .bool true, .int .i64 x]) (by simp [results, Tryz.results22, go_sem, r0, r1, r2]) rfl ⟨A5, n5, c5, rfl, p5, by omega, HB.out⟩
set_option maxHeartbeats 1000000 in
theorem qdivided_l {w : World} {A B : Option Addr} {n c m d α β T Q R : Nat} {La Lb z e x : Int} (ha : Rd w A n c α) (hb : Rd w B m d β) (hn : n ≤ 8000) (hβ : β ≠ 0) (hla : ((blen α : Nat) : Int) = La) (hlb : ((blen β : Nat) : Int) = Lb) (hz : Lb - La + 64 = z) (z1 : -200000 ≤ z) (z2 : z ≤ 200000) (hx : e - z = x) (x1 : -3000000 ≤ x) (x2 : x ≤ 2097152)
    (hm : MV α z T true) (hQ : T / β = Q) (hR : T % β = R) (h0 : R ≠ 0) : Calls Tryz.prog 22 #[.slice A n c, .slice B m d, .int .i64 e] w (PQ7 w Q false x) := by
  have HM := Lib.hid hm
  have HLA := Lib.hid hla
  have HLB := Lib.hid hlb
  have HQ := Lib.hid hQ
  have HRR := Lib.hid hR
  have H0 := Lib.hid h0
  have HB0 := Lib.hid hβ
  have e0 : Lb - La = z - 64 := by omega
  have HW1 : Hid (IntKind.i64.wrap (Lb - La) = z - 64) := Lib.hid (by rw [e0]; exact IntWalk.i64_in _ (by omega))
  have HW2 : Hid (wrap64 z = z) := Lib.hid (IntWalk.wrap64_in _ (by omega))
  have HW4 : Hid (wrap64 x = x) := Lib.hid (IntWalk.wrap64_in _ (by omega))
  have HW3 : Hid (IntKind.i64.wrap (e - z) = x) := Lib.hid (by rw [hx]; exact IntWalk.i64_in _ (by omega))
  have hz3 : z ≤ 2097152 := by omega
  have HMZ : Hid (min z 2097152 = z) := Lib.hid (by omega)
  have HMX : Hid (min x 2097152 = x) := Lib.hid (by omega)
  clear hm hla hlb hz e0 hx hQ hR h0 hβ z1 z2 x1
  go_enter Tryz.func22, Tryz.ntmps22
  go_upto_region 1 with (fail)
  have XR := (Bo.newAt w (g := w.heap.size) (by simp) #[.slice none 0 0, .bool false, .int .i64 0] 46)
  have HB := Lib.hid (bel1 w (.cells #[.slice none 0 0, .bool false, .int .i64 0] 46))
  replace ha := ha.below HB.out
  replace hb := hb.below HB.out
  generalize hW1 : (w.alloc (.cells #[.slice none 0 0, .bool false, .int .i64 0] 46)) = w1 at *
  clear hW1
  go_wp2_with fail
  refine (vLenE hb HLB.out).mono ?_
  rintro ee w2 ⟨rfl, B⟩
  replace XR := XR.below B
  replace ha := ha.below B
  replace hb := hb.below B
  replace HB := Lib.hid (bt HB.out B)
  clear B
  go_wp2_with fail
  refine (vLenE ha HLA.out).mono ?_
  rintro ee w3 ⟨rfl, B⟩
  replace XR := XR.below B
  replace ha := ha.below B
  replace hb := hb.below B
  replace HB := Lib.hid (bt HB.out B)
  clear B
  have hw1 := HW1.out
  have hw2 := HW2.out
  have hmz := HMZ.out
  go_wp2_with fail
  refine (HM.out _ _ _ _ ha hn).mono ?_
  rintro ee w4 ⟨A4, n4, c4, rfl, p4, k4, B⟩
  replace XR := XR.below B
  replace ha := ha.below B
  replace hb := hb.below B
  replace HB := Lib.hid (bt HB.out B)
  clear B
  clear hw1 hw2 hmz
  go_wp2_with fail
  refine (vDivE p4.rd hb (by omega) HB0.out HQ.out HRR.out).mono ?_
  rintro ee w5 ⟨A5, n5, c5, B5, m5, d5, rfl, p5, r5, k5, l5, B⟩
  replace XR := XR.below B
  replace hb := hb.below B
  replace p4 := p4.below B
  replace HB := Lib.hid (bt HB.out B)
  clear B
  clear hb p4
  have hne : ((m5 : Int) == 0) = false := by
    have := r5.pos
    have := H0.out
    have : (m5 : Int) ≠ 0 := by omega
    simpa using this
  have hne2 : ¬ m5 = 0 := by have := r5.pos; have := H0.out; omega
  clear r5 H0
  have hw3 := HW3.out
  have hmx := HMX.out
  have xXR0 := XR.a 0 (.slice none 0 0) rfl
  have zXR0 := XR.frozen 0
  have xXR1 := XR.a 1 (.bool false) rfl
  have zXR1 := XR.frozen 1
  have xXR2 := XR.a 2 (.int .i64 0) rfl
  have zXR2 := XR.frozen 2
  go_wp2
  clear xXR0 zXR0 xXR1 zXR1 xXR2 zXR2
  have SX := StN.mk3 XR (.slice A5 n5 c5) (.bool false) (.int .i64 x)
  replace p5 := p5.stn SX (by simp [no32])
  replace HB := Lib.hid (SX.below HB.out (by omega))
  replace XR := SX.box
  clear SX
  generalize (World.setCell (World.setCell (World.setCell w5 ⟨w.heap.size, 0, none⟩ (.slice A5 n5 c5)) ⟨w.heap.size, 1, none⟩ (.bool false)) ⟨w.heap.size, 2, none⟩ (.int .i64 x)) = w6 at *
  have r0 := XR.cell 0
  have r1 := XR.cell 1
  have r2 := XR.cell 2
  exact bodyPost_ret (v := .agg #[.slice A5 n5 c5, .bool false, .int .i64 x]) (by simp [results, Tryz.results22, go_sem, r0, r1, r2]) rfl ⟨A5, n5, c5, rfl, p5, by omega, HB.out⟩
set_option maxHeartbeats 1000000 in
theorem qdivided_n {w : World} {A B : Option Addr} {n c m d α β T Q R : Nat} {La Lb z e x : Int} (ha : Rd w A n c α) (hb : Rd w B m d β) (hn : n ≤ 8000) (hβ : β ≠ 0) (hla : ((blen α : Nat) : Int) = La) (hlb : ((blen β : Nat) : Int) = Lb) (hz : Lb - La + 64 = z) (z1 : -200000 ≤ z) (z2 : z ≤ 200000) (hx : e - z = x) (x1 : -3000000 ≤ x) (x2 : x ≤ 2097152)
    (hm : MV α z T false) (hQ : T / β = Q) (hR : T % β = R) (h0 : True) : Calls Tryz.prog 22 #[.slice A n c, .slice B m d, .int .i64 e] w (PQ7 w Q false x) := by
  have HM := Lib.hid hm
  have HLA := Lib.hid hla
  have HLB := Lib.hid hlb
  have HQ := Lib.hid hQ
  have HRR := Lib.hid hR
  have H0 := Lib.hid h0
  have HB0 := Lib.hid hβ
  have e0 : Lb - La = z - 64 := by omega
  have HW1 : Hid (IntKind.i64.wrap (Lb - La) = z - 64) := Lib.hid (by rw [e0]; exact IntWalk.i64_in _ (by omega))
  have HW2 : Hid (wrap64 z = z) := Lib.hid (IntWalk.wrap64_in _ (by omega))
  have HW4 : Hid (wrap64 x = x) := Lib.hid (IntWalk.wrap64_in _ (by omega))
  have HW3 : Hid (IntKind.i64.wrap (e - z) = x) := Lib.hid (by rw [hx]; exact IntWalk.i64_in _ (by omega))
  have hz3 : z ≤ 2097152 := by omega
  have HMZ : Hid (min z 2097152 = z) := Lib.hid (by omega)
  have HMX : Hid (min x 2097152 = x) := Lib.hid (by omega)
  clear hm hla hlb hz e0 hx hQ hR h0 hβ z1 z2 x1
  go_enter Tryz.func22, Tryz.ntmps22
  go_upto_region 1 with (fail)
  have XR := (Bo.newAt w (g := w.heap.size) (by simp) #[.slice none 0 0, .bool false, .int .i64 0] 46)
  have HB := Lib.hid (bel1 w (.cells #[.slice none 0 0, .bool false, .int .i64 0] 46))
  replace ha := ha.below HB.out
  replace hb := hb.below HB.out
  generalize hW1 : (w.alloc (.cells #[.slice none 0 0, .bool false, .int .i64 0] 46)) = w1 at *
  clear hW1
  go_wp2_with fail
  refine (vLenE hb HLB.out).mono ?_
  rintro ee w2 ⟨rfl, B⟩
  replace XR := XR.below B
  replace ha := ha.below B
  replace hb := hb.below B
  replace HB := Lib.hid (bt HB.out B)
  clear B
  go_wp2_with fail
  refine (vLenE ha HLA.out).mono ?_
  rintro ee w3 ⟨rfl, B⟩
  replace XR := XR.below B
  replace ha := ha.below B
  replace hb := hb.below B
  replace HB := Lib.hid (bt HB.out B)
  clear B
  have hw1 := HW1.out
  have hw2 := HW2.out
  have hmz := HMZ.out
  go_wp2_with fail
  refine (HM.out _ _ _ _ ha hn).mono ?_
  rintro ee w4 ⟨A4, n4, c4, rfl, p4, k4, B⟩
  replace XR := XR.below B
  replace ha := ha.below B
  replace hb := hb.below B
  replace HB := Lib.hid (bt HB.out B)
  clear B
  clear hw1 hw2 hmz
  go_wp2_with fail
  refine (vDivE p4.rd hb (by omega) HB0.out HQ.out HRR.out).mono ?_
  rintro ee w5 ⟨A5, n5, c5, B5, m5, d5, rfl, p5, r5, k5, l5, B⟩
  replace XR := XR.below B
  replace hb := hb.below B
  replace p4 := p4.below B
  replace HB := Lib.hid (bt HB.out B)
  clear B
  clear hb p4
  clear r5 H0
  have hw3 := HW3.out
  have hmx := HMX.out
  have xXR0 := XR.a 0 (.slice none 0 0) rfl
  have zXR0 := XR.frozen 0
  have xXR1 := XR.a 1 (.bool false) rfl
  have zXR1 := XR.frozen 1
  have xXR2 := XR.a 2 (.int .i64 0) rfl
  have zXR2 := XR.frozen 2
  go_wp2
  clear xXR0 zXR0 xXR1 zXR1 xXR2 zXR2
  have SX := StN.mk3 XR (.slice A5 n5 c5) (.bool false) (.int .i64 x)
  replace p5 := p5.stn SX (by simp [no32])
  replace HB := Lib.hid (SX.below HB.out (by omega))
  replace XR := SX.box
  clear SX
  generalize (World.setCell (World.setCell (World.setCell w5 ⟨w.heap.size, 0, none⟩ (.slice A5 n5 c5)) ⟨w.heap.size, 1, none⟩ (.bool false)) ⟨w.heap.size, 2, none⟩ (.int .i64 x)) = w6 at *
  have r0 := XR.cell 0
  have r1 := XR.cell 1
  have r2 := XR.cell 2
  exact bodyPost_ret (v := .agg #[.slice A5 n5 c5, .bool false, .int .i64 x]) (by simp [results, Tryz.results22, go_sem, r0, r1, r2]) rfl ⟨A5, n5, c5, rfl, p5, by omega, HB.out⟩
theorem moved_up {α k : Nat} (hk : k ≤ 200000) : MV α (k : Int) (α * 2 ^ k) true := fun w A n c h hn => qmoved_up h hn hk rfl
theorem moved_dn {α k : Nat} {z : Int} (h0 : 0 < k) (hk : k ≤ 200000) (hz : -z = (k : Int)) : MV α z (α / 2 ^ k) (decide (α / 2 ^ k * 2 ^ k = α)) := fun w A n c h hn => by
  refine qmoved_dn h hn hk h0 hz rfl rfl rfl ?_
  by_cases c : α / 2 ^ k * 2 ^ k = α
  · rw [decide_eq_true c, c, cmpI_self]
    rfl
  · rw [decide_eq_false c]
    have : ¬ cmpI ((α / 2 ^ k * 2 ^ k : Nat) : Int) (α : Int) = 0 := fun e => c (by have := cmpI_zero.1 e; omega)
    simpa using this
/-- The quotient of two numbers above nought. -/
theorem qDivided {w : World} {A B : Option Addr} {n c m d α β : Nat} {e : Int} {P : Bool → Bool → Int → Prop} (ha : Rd w A n c α) (hb : Rd w B m d β) (hn : n ≤ 3500) (hm : m ≤ 3500) (hα : 0 < α) (hβ : 0 < β) (e1 : -2200000 ≤ e) (e2 : e ≤ 2200000) (e3 : e - ((blen β : Int) - (blen α : Int) + 64) ≤ 2097152)
    (hP : ∀ σ up r, Sid up (sgi σ ((α : Int) * 2 ^ (e + (KK : Int)).toNat)) (β : Int) r → P σ up r) : Calls Tryz.prog 22 #[.slice A n c, .slice B m d, .int .i64 e] w (PP7 w P) := by
  have hba := ha.blen_le
  have hbb := hb.blen_le
  obtain ⟨z, hz⟩ : ∃ z : Int, (blen β : Int) - (blen α : Int) + 64 = z := ⟨_, rfl⟩
  rw [hz] at e3
  have hn0 : β ≠ 0 := by omega
  have fin : ∀ {Q D : Nat} {t t' : Bool}, t' = t → decide (D = 0) = t → (∀ σ up, Sid up (sgi σ ((α : Int) * 2 ^ (e + (KK : Int)).toNat)) (β : Int) (rnd up (mk (sgi σ ((stk Q D : Nat) : Int)) (e - z - 1)).1 (mk (sgi σ ((stk Q D : Nat) : Int)) (e - z - 1)).2)) → ∀ ee w', PQ7 w Q t' (e - z) ee w' → PP7 w P ee w' := by
    rintro Q D t t' rfl ht hs ee w' ⟨A', n', c', he, hnm, hk, hb'⟩
    exact ⟨A', n', c', t', e - z, he, ⟨Q, D, hnm, hk, ht, by omega, by omega, fun σ up => hP σ up _ (hs σ up)⟩, hb'⟩
  rcases Int.lt_or_le z 0 with c0 | c0
  · obtain ⟨k, hk⟩ : ∃ k : Nat, z = -(k : Int) := ⟨z.natAbs, by omega⟩
    have mv := moved_dn (α := α) (k := k) (z := z) (by omega) (by omega) (by omega)
    have hs := fun {D} (hd : D = 0 ↔ (α / 2 ^ k * 2 ^ k = α ∧ α / 2 ^ k % β = 0)) (σ up : Bool) => part_dn (e := e) (d := D) hα hβ (by omega) (by omega) e1 e2 hd σ up
    have ez : e + (k : Int) - 1 = e - z - 1 := by omega
    rw [ez] at hs
    by_cases h1 : α / 2 ^ k * 2 ^ k = α
    · rw [decide_eq_true h1] at mv
      by_cases h2 : α / 2 ^ k % β = 0
      · exact (qdivided_e ha hb (by omega) hn0 rfl rfl hz (by omega) (by omega) rfl (by omega) e3 mv rfl rfl h2).mono (fin (D := 0) rfl rfl (hs ⟨fun _ => ⟨h1, h2⟩, fun _ => rfl⟩))
      · exact (qdivided_l ha hb (by omega) hn0 rfl rfl hz (by omega) (by omega) rfl (by omega) e3 mv rfl rfl h2).mono (fin (D := 1) rfl rfl (hs ⟨fun h => absurd h (by decide), fun h => absurd h.2 h2⟩))
    · rw [decide_eq_false h1] at mv
      exact (qdivided_n ha hb (by omega) hn0 rfl rfl hz (by omega) (by omega) rfl (by omega) e3 mv rfl rfl trivial).mono (fin (D := 1) rfl rfl (hs ⟨fun h => absurd h (by decide), fun h => absurd h.1 h1⟩))
  · obtain ⟨k, rfl⟩ : ∃ k : Nat, z = (k : Int) := ⟨z.toNat, by omega⟩
    have mv := moved_up (α := α) (k := k) (by omega)
    have hs := part_up (e := e) hα hβ hz (by omega) (by omega) e1 e2
    by_cases h2 : α * 2 ^ k % β = 0
    · exact (qdivided_e ha hb (by omega) hn0 rfl rfl hz (by omega) (by omega) rfl (by omega) e3 mv rfl rfl h2).mono (fin rfl (decide_eq_true h2) hs)
    · exact (qdivided_l ha hb (by omega) hn0 rfl rfl hz (by omega) (by omega) rfl (by omega) e3 mv rfl rfl h2).mono (fin rfl (decide_eq_false h2) hs)
theorem and_one (e : Int) : bits .and .i64 e 1 = e % 2 := by
  have h1 : (BitVec.ofInt IntKind.i64.bits e &&& BitVec.ofInt IntKind.i64.bits 1).toNat = (e % 18446744073709551616).toNat % 2 := by
    rw [BitVec.toNat_and, BitVec.toNat_ofInt, BitVec.toNat_ofInt, show (1 % ((2 ^ IntKind.i64.bits : Nat) : Int)).toNat = 1 by decide, Nat.and_one_is_mod]
    rfl
  show IntKind.i64.wrap ((BitVec.ofInt IntKind.i64.bits e &&& BitVec.ofInt IntKind.i64.bits 1).toNat : Int) = e % 2
  rw [h1, IntWalk.i64_in _ (by omega)]
  omega
set_option maxHeartbeats 1000000 in
theorem qroot_w {w : World} {A : Option Addr} {n c N k X S : Nat} {e b f : Int} {t : Bool} (ha : Rd w A n c N) (hn : n ≤ 8000) (hb : e % 2 = b) (hk : 64 + b = (k : Int)) (hX : N * 2 ^ k = X) (hS : rt X = S) (ht : decide (S * S = X) = t) (hf : 2 * f = e - k) (e1 : -2200000 ≤ e) (e2 : e ≤ 2200000) : Calls Tryz.prog 29 #[.slice A n c, .int .i64 e] w (PQ7 w S t f) := by
  have HX := Lib.hid hX
  have HS := Lib.hid hS
  have HT := Lib.hid ht
  have hb2 : 0 ≤ b ∧ b ≤ 1 := by omega
  have HW0 : Hid (bits .and .i64 e 1 = b) := Lib.hid (by rw [and_one]; exact hb)
  have HW1 : Hid (wrap64 (64 + b) = (k : Int)) := Lib.hid (by rw [hk]; exact IntWalk.wrap64_in _ (by omega))
  have HW2 : Hid (IntKind.i64.wrap (e - (k : Int)) = 2 * f) := Lib.hid (by rw [← hf]; exact IntWalk.i64_in _ (by omega))
  have HW5 : Hid (wrap64 f = f) := Lib.hid (IntWalk.wrap64_in _ (by omega))
  have HW3 : Hid (Int.tdiv (2 * f) 2 = f) := Lib.hid (by rw [Int.mul_comm]; exact Int.mul_tdiv_cancel _ (by decide))
  have HW4 : Hid (IntKind.i64.wrap f = f) := Lib.hid (IntWalk.i64_in _ (by omega))
  have hk2 : k ≤ 65 := by omega
  clear hX hS ht hb hk hf e1 e2 hb2
  go_enter Tryz.func29, Tryz.ntmps29
  go_upto_region 1 with (fail)
  have XR := (Bo.newAt w (g := w.heap.size) (by simp) #[.slice none 0 0, .bool false, .int .i64 0] 46)
  have HB := Lib.hid (bel1 w (.cells #[.slice none 0 0, .bool false, .int .i64 0] 46))
  replace ha := ha.below HB.out
  generalize hW1 : (w.alloc (.cells #[.slice none 0 0, .bool false, .int .i64 0] 46)) = w1 at *
  clear hW1
  have hw0 := HW0.out
  have hw1 := HW1.out
  go_wp2_with fail
  refine (vShlE ha (by omega) (by omega) HX.out).mono ?_
  rintro ee w4 ⟨A4, n4, c4, rfl, p4, k4, B⟩
  replace XR := XR.below B
  replace ha := ha.below B
  replace HB := Lib.hid (bt HB.out B)
  clear B
  go_wp2_with fail
  refine (vRootE p4.rd (by omega) HS.out HT.out).mono ?_
  rintro ee w5 ⟨A5, n5, c5, rfl, p5, k5, B⟩
  replace XR := XR.below B
  replace p4 := p4.below B
  replace HB := Lib.hid (bt HB.out B)
  clear B
  clear p4
  have hw2 := HW2.out
  have hw3 := HW3.out
  have hw4 := HW4.out
  have hw5 := HW5.out
  have xXR0 := XR.a 0 (.slice none 0 0) rfl
  have zXR0 := XR.frozen 0
  have xXR1 := XR.a 1 (.bool false) rfl
  have zXR1 := XR.frozen 1
  have xXR2 := XR.a 2 (.int .i64 0) rfl
  have zXR2 := XR.frozen 2
  go_wp2
  clear xXR0 zXR0 xXR1 zXR1 xXR2 zXR2
  have SX := StN.mk3 XR (.slice A5 n5 c5) (.bool t) (.int .i64 f)
  replace p5 := p5.stn SX (by simp [no32])
  replace HB := Lib.hid (SX.below HB.out (by omega))
  replace XR := SX.box
  clear SX
  generalize (World.setCell (World.setCell (World.setCell w5 ⟨w.heap.size, 0, none⟩ (.slice A5 n5 c5)) ⟨w.heap.size, 1, none⟩ (.bool t)) ⟨w.heap.size, 2, none⟩ (.int .i64 f)) = w6 at *
  have r0 := XR.cell 0
  have r1 := XR.cell 1
  have r2 := XR.cell 2
  exact bodyPost_ret (v := .agg #[.slice A5 n5 c5, .bool t, .int .i64 f]) (by simp [results, Tryz.results29, go_sem, r0, r1, r2]) rfl ⟨A5, n5, c5, rfl, p5, by omega, HB.out⟩
/-- The root of a word. -/
theorem qRoot0 {w : World} {A : Option Addr} {n c N : Nat} {e : Int} {P : Bool → Bool → Int → Prop} (ha : Rd w A n c N) (hn : n ≤ 8000) (h0 : 9223372036854775808 ≤ N) (h1 : N < 18446744073709551616) (e1 : -2200000 ≤ e) (e2 : e ≤ 2200000)
    (hP : ∀ up r, Rt up ((N : Int) * 2 ^ (e + 2 * (KK : Int)).toNat) r → P false up r) (hQ : ∀ up r, P true up r) : Calls Tryz.prog 29 #[.slice A n c, .int .i64 e] w (PP7 w P) := by
  obtain ⟨k, hk⟩ : ∃ k : Nat, 64 + e % 2 = (k : Int) := ⟨(64 + e % 2).toNat, by omega⟩
  obtain ⟨f, hf⟩ : ∃ f : Int, 2 * f = e - k := ⟨(e - k) / 2, by omega⟩
  refine (qroot_w ha hn rfl hk rfl rfl rfl hf e1 e2).mono ?_
  rintro ee w' ⟨A', n', c', he, hnm, hk', hb'⟩
  have hsp := rt_spec (N * 2 ^ k)
  have hd : decide (N * 2 ^ k - rt (N * 2 ^ k) * rt (N * 2 ^ k) = 0) = decide (rt (N * 2 ^ k) * rt (N * 2 ^ k) = N * 2 ^ k) := by
    have := hsp.1
    by_cases c : rt (N * 2 ^ k) * rt (N * 2 ^ k) = N * 2 ^ k
    · rw [decide_eq_true c, c, Nat.sub_self]
      rfl
    · rw [decide_eq_false c]
      exact decide_eq_false (by omega)
  refine ⟨A', n', c', _, f, he, ⟨_, _, hnm, hk', hd, by omega, by omega, fun σ up => ?_⟩, hb'⟩
  cases σ
  · rw [wsg_f]
    exact hP up _ (part_root h0 h1 (by omega) hf rfl e1 e2 up)
  · exact hQ up _
theorem stk_zero7 (q : Nat) : stk q 0 = q * 2 ^ 1 := by
  unfold stk
  rw [if_pos rfl]
  omega
theorem stk_one7 {q r : Nat} (h : r ≠ 0) : stk q r = q * 2 ^ 1 + 1 := by
  unfold stk
  rw [if_neg h]
  omega
theorem sg_sgi7 (s : Bool) (a : Nat) : sg s a = sgi s (a : Int) := by
  cases s
  · rw [sg_false, wsg_f]
  · rw [sg_true, wsg_t]
theorem lit_one7 (W : World) : Rd (W.alloc (.cells #[.int .u32 1] 41)) (some ⟨W.heap.size, 0, none⟩) 1 1 1 :=
  ⟨_, [1], (Own.new W [1]).all (Lim.cons (by decide) Lim.nil) (by simp) (Nat.le_refl _), by decide⟩
set_option maxHeartbeats 1000000 in
theorem qround_e {w : World} {A : Option Addr} {n c q a0 a : Nat} {x r : Int} {σ up : Bool} (hT : Tab w) (h : Nm w A n c q) (hn : n ≤ 20000) (h0 : q * 2 ^ 1 = a0) (h1 : a0 = a) (x1 : -3000000 ≤ x) (x2 : x ≤ 3000000) (hr : rnd up (mk (sg σ a) (x - 1)).1 (mk (sg σ a) (x - 1)).2 = r) : Calls Tryz.prog 24 #[.agg #[.slice A n c, .bool true, .int .i64 x], .bool σ, .bool up] w (PN w r) := by
  have HA := Lib.hid h0
  have H1 := Lib.hid h1
  have HR := Lib.hid hr
  have HW : Hid (IntKind.i64.wrap (x - 1) = x - 1) := Lib.hid (IntWalk.i64_in _ (by omega))
  clear h0 h1 hr x1 x2
  go_enter Tryz.func24, Tryz.ntmps24
  go_upto_region 1 with (fail)
  have X3 := (Bo.newAt w (g := w.heap.size) (by simp) #[.slice A n c, .bool true, .int .i64 x] 46).below (bel1 _ (.cells #[.int .i64 0, .bool false, .int .u64 0, .int .i64 0] 24))
  have XR := (Bo.newAt (w.alloc (.cells #[.slice A n c, .bool true, .int .i64 x] 46)) (g := w.heap.size + 1) (by simp) #[.int .i64 0, .bool false, .int .u64 0, .int .i64 0] 24)
  have HB := Lib.hid (bel2 w (.cells #[.slice A n c, .bool true, .int .i64 x] 46) (.cells #[.int .i64 0, .bool false, .int .u64 0, .int .i64 0] 24))
  replace hT := hT.below HB.out
  replace h := h.below HB.out
  generalize hW1 : ((w.alloc (.cells #[.slice A n c, .bool true, .int .i64 x] 46)).alloc (.cells #[.int .i64 0, .bool false, .int .u64 0, .int .i64 0] 24)) = w1 at *
  clear hW1
  have xX30 := X3.a 0 (.slice A n c) rfl
  have xX31 := X3.a 1 (.bool true) rfl
  have xX32 := X3.a 2 (.int .i64 x) rfl
  go_wp2_with fail
  refine (vShlE (s := 1) h.rd (by omega) (by decide) HA.out).mono ?_
  rintro ee w2 ⟨A2, n2, c2, rfl, p2, k2, B⟩
  clear xX30 xX31 xX32
  replace X3 := X3.below B
  replace XR := XR.below B
  replace hT := hT.below B
  replace h := h.below B
  replace HB := Lib.hid (bt HB.out B)
  clear B
  clear h
  obtain rfl := H1.out
  have xX30 := X3.a 0 (.slice A n c) rfl
  have xX31 := X3.a 1 (.bool true) rfl
  have xX32 := X3.a 2 (.int .i64 x) rfl
  go_upto_region 4 with (fail)
  clear xX30 xX31 xX32
  refine Jo.region_joint (T := [0, 1, 2, 3, 4, 5, 6, 7, 8]) (ds := [some 17, some 18, some 19, some 20, some 21, some 22, some 23, some 24, some 25, none]) (ls := [[], [], [0, 1], [], [3], [4], [2, 5], [], [6, 7], []]) (k := 10) (L := [(some 17, 0), (some 18, 1), (some 19, 2), (some 20, 3), (some 21, 4), (some 22, 5), (some 23, 6), (some 24, 7), (some 25, 8)]) (fuel := 1) (J := fun wj => Below (World.heap w2).size w2 wj)
    (F := [Jo.Fact.eq (.bool σ), Jo.Fact.eq (.slice A2 n2 c2), Jo.Fact.wn (sg σ a0) 30000, Jo.Fact.eq (.pointer (some ⟨w.heap.size, 2, none⟩)), Jo.Fact.eq (.int .i64 x), Jo.Fact.eq (.int .i64 (x - 1)), Jo.Fact.dy (sg σ a0) (x - 1) 30000, Jo.Fact.eq (.bool up), Jo.Fact.num r, Jo.Fact.any])
    (by kernel_rfl) (by kernel_rfl) (by decide) rfl rfl (fun _ _ h b => bt h b) ((Below.refl _ _).drew) ?_ (fun vs w8 hJ hd => ?_)
  · refine Jo.jd 0 (some 17) [] (Jo.Fact.eq (.bool σ)) rfl rfl rfl rfl (fun vs wj hJ hd K hK => ?_) ?_
    · simp only [Jo.putl, Jo.ze, Act.put, Jo.za, Jo.zb, Jo.zc] at hK ⊢
      clear hd
      go_simp
      exact hK.out _ _ rfl (Below.refl _ _)
    refine Jo.jd 1 (some 18) [] (Jo.Fact.eq (.slice A2 n2 c2)) rfl rfl rfl rfl (fun vs wj hJ hd K hK => ?_) ?_
    · simp only [Jo.putl, Jo.ze, Act.put, Jo.za, Jo.zb, Jo.zc] at hK ⊢
      clear hd
      go_simp
      exact hK.out _ _ rfl (Below.refl _ _)
    refine Jo.jd 2 (some 19) [(some 17, 0), (some 18, 1)] (Jo.Fact.wn (sg σ a0) 30000) rfl rfl rfl rfl (fun vs wj hJ hd K hK => ?_) ?_
    · simp only [Jo.putl, Jo.zd, Jo.ze, Act.put, Jo.za, Jo.zb, Jo.zc] at hK ⊢
      rw [show vs 0 = _ from hd 0 (by decide), show vs 1 = _ from hd 1 (by decide)] at hK ⊢
      clear hd
      go_simp
      refine (wMake σ (p2.below hJ).rd).mono ?_
      rintro ee wk ⟨s7, A7, n7, c7, rfl, p7, k7, B⟩
      exact hK.out _ _ ⟨s7, A7, n7, c7, rfl, p7, by omega⟩ B
    refine Jo.jd 3 (some 20) [] (Jo.Fact.eq (.pointer (some ⟨w.heap.size, 2, none⟩))) rfl rfl rfl rfl (fun vs wj hJ hd K hK => ?_) ?_
    · simp only [Jo.putl, Jo.ze, Act.put, Jo.za, Jo.zb, Jo.zc] at hK ⊢
      clear hd
      go_simp
      exact hK.out _ _ rfl (Below.refl _ _)
    refine Jo.jd 4 (some 21) [(some 20, 3)] (Jo.Fact.eq (.int .i64 x)) rfl rfl rfl rfl (fun vs wj hJ hd K hK => ?_) ?_
    · simp only [Jo.putl, Jo.zd, Jo.ze, Act.put, Jo.za, Jo.zb, Jo.zc] at hK ⊢
      rw [show vs 3 = _ from hd 3 (by decide)] at hK ⊢
      clear hd
      have xX32 := (X3.below hJ).a 2 (.int .i64 x) rfl
      go_simp
      exact hK.out _ _ rfl (Below.refl _ _)
    refine Jo.jd 5 (some 22) [(some 21, 4)] (Jo.Fact.eq (.int .i64 (x - 1))) rfl rfl rfl rfl (fun vs wj hJ hd K hK => ?_) ?_
    · simp only [Jo.putl, Jo.zd, Jo.ze, Act.put, Jo.za, Jo.zb, Jo.zc] at hK ⊢
      rw [show vs 4 = _ from hd 4 (by decide)] at hK ⊢
      clear hd
      have hw := HW.out
      go_simp
      exact hK.out _ _ (by first | rfl | (show Value.int _ _ = Value.int _ _; rw [hw])) (Below.refl _ _)
    refine Jo.jd 6 (some 23) [(some 19, 2), (some 22, 5)] (Jo.Fact.dy (sg σ a0) (x - 1) 30000) rfl rfl rfl rfl (fun vs wj hJ hd K hK => ?_) ?_
    · have d2 : (Jo.Fact.wn (sg σ a0) 30000).P (vs 2) wj := hd 2 (by decide)
      simp only [Jo.putl, Jo.zd, Jo.ze, Act.put, Jo.za, Jo.zb, Jo.zc] at hK ⊢
      rw [show vs 5 = _ from hd 5 (by decide)] at hK ⊢
      clear hd
      generalize vs 2 = u2 at hK d2 ⊢
      obtain ⟨s7, A7, n7, c7, rfl, p7, k7⟩ := d2
      go_simp
      exact hK.out _ _ ⟨s7, A7, n7, c7, rfl, p7, k7⟩ (Below.refl _ _)
    refine Jo.jd 7 (some 24) [] (Jo.Fact.eq (.bool up)) rfl rfl rfl rfl (fun vs wj hJ hd K hK => ?_) ?_
    · simp only [Jo.putl, Jo.ze, Act.put, Jo.za, Jo.zb, Jo.zc] at hK ⊢
      clear hd
      go_simp
      exact hK.out _ _ rfl (Below.refl _ _)
    refine Jo.jd 8 (some 25) [(some 23, 6), (some 24, 7)] (Jo.Fact.num r) rfl rfl rfl rfl (fun vs wj hJ hd K hK => ?_) ?_
    · have d6 : (Jo.Fact.dy (sg σ a0) (x - 1) 30000).P (vs 6) wj := hd 6 (by decide)
      simp only [Jo.putl, Jo.zd, Jo.ze, Act.put, Jo.za, Jo.zb, Jo.zc] at hK ⊢
      rw [show vs 7 = _ from hd 7 (by decide)] at hK ⊢
      clear hd
      generalize vs 6 = u6 at hK d6 ⊢
      obtain ⟨s8, A8, n8, c8, rfl, p8, k8⟩ := d6
      go_simp
      refine (nRound (hT.below hJ) p8.wr (by omega) rfl rfl HR.out).mono ?_
      rintro ee wk ⟨K9, s9, M9, E9, rfl, q9, B⟩
      exact hK.out _ _ ⟨K9, s9, M9, E9, rfl, q9⟩ B
    exact Jo.Steps.nil
  have d2 : (Jo.Fact.wn (sg σ a0) 30000).P (vs 2) w8 := hd 2 (by decide)
  have d6 : (Jo.Fact.dy (sg σ a0) (x - 1) 30000).P (vs 6) w8 := hd 6 (by decide)
  have d8 : (Jo.Fact.num r).P (vs 8) w8 := hd 8 (by decide)
  simp only [Jo.putl, Jo.zd, Jo.ze, Act.put, Jo.za, Jo.zb, Jo.zc]
  rw [show vs 0 = _ from hd 0 (by decide), show vs 1 = _ from hd 1 (by decide), show vs 4 = _ from hd 4 (by decide), show vs 5 = _ from hd 5 (by decide), show vs 7 = _ from hd 7 (by decide)]
  clear hd
  generalize vs 2 = u2 at d2 ⊢
  generalize vs 6 = u6 at d6 ⊢
  generalize vs 8 = u8 at d8 ⊢
  obtain ⟨_, _, _, _, rfl, _⟩ := d2
  obtain ⟨_, _, _, _, rfl, _⟩ := d6
  obtain ⟨K9, s9, M9, E9, rfl, q9⟩ := d8
  replace X3 := X3.below hJ
  replace XR := XR.below hJ
  replace hT := hT.below hJ
  replace p2 := p2.below hJ
  replace HB := Lib.hid (bt HB.out hJ)
  have xXR0 := XR.a 0 (.int .i64 0) rfl
  have zXR0 := XR.frozen 0
  have xXR1 := XR.a 1 (.bool false) rfl
  have zXR1 := XR.frozen 1
  have xXR2 := XR.a 2 (.int .u64 0) rfl
  have zXR2 := XR.frozen 2
  have xXR3 := XR.a 3 (.int .i64 0) rfl
  have zXR3 := XR.frozen 3
  refine Jo.jnext (i := 9) (o := ⟨none, _, _, _, _, _⟩) (by kernel_rfl) rfl (fun K hK => ?_)
  go_simp
  refine hK.out _ _ ?_
  clear hK K xXR0 zXR0 xXR1 zXR1 xXR2 zXR2 xXR3 zXR3
  have SX := StN.mk4 XR (.int .i64 K9) (.bool s9) (.int .u64 M9) (.int .i64 E9)
  replace X3 := X3.stn SX (by omega)
  replace HB := Lib.hid (SX.below HB.out (by omega))
  replace XR := SX.box
  clear SX
  generalize (World.setCell (World.setCell (World.setCell (World.setCell w8 ⟨w.heap.size + 1, 0, none⟩ (.int .i64 K9)) ⟨w.heap.size + 1, 1, none⟩ (.bool s9)) ⟨w.heap.size + 1, 2, none⟩ (.int .u64 M9)) ⟨w.heap.size + 1, 3, none⟩ (.int .i64 E9)) = w9 at *
  refine Jo.jdone (by kernel_rfl) ?_
  go_wp2
  have r0 := XR.cell 0
  have r1 := XR.cell 1
  have r2 := XR.cell 2
  have r3 := XR.cell 3
  exact bodyPost_ret (v := .agg #[.int .i64 K9, .bool s9, .int .u64 M9, .int .i64 E9]) (by simp [results, Tryz.results24, go_sem, r0, r1, r2, r3]) rfl ⟨_, _, _, _, rfl, q9, HB.out⟩
set_option maxHeartbeats 1000000 in
theorem qround_l {w : World} {A : Option Addr} {n c q a0 a : Nat} {x r : Int} {σ up : Bool} (hT : Tab w) (h : Nm w A n c q) (hn : n ≤ 20000) (h0 : q * 2 ^ 1 = a0) (h1 : a0 + 1 = a) (x1 : -3000000 ≤ x) (x2 : x ≤ 3000000) (hr : rnd up (mk (sg σ a) (x - 1)).1 (mk (sg σ a) (x - 1)).2 = r) : Calls Tryz.prog 24 #[.agg #[.slice A n c, .bool false, .int .i64 x], .bool σ, .bool up] w (PN w r) := by
  have HA := Lib.hid h0
  have H1 := Lib.hid h1
  have HR := Lib.hid hr
  have HW : Hid (IntKind.i64.wrap (x - 1) = x - 1) := Lib.hid (IntWalk.i64_in _ (by omega))
  clear h0 h1 hr x1 x2
  go_enter Tryz.func24, Tryz.ntmps24
  go_upto_region 1 with (fail)
  have X3 := (Bo.newAt w (g := w.heap.size) (by simp) #[.slice A n c, .bool false, .int .i64 x] 46).below (bel1 _ (.cells #[.int .i64 0, .bool false, .int .u64 0, .int .i64 0] 24))
  have XR := (Bo.newAt (w.alloc (.cells #[.slice A n c, .bool false, .int .i64 x] 46)) (g := w.heap.size + 1) (by simp) #[.int .i64 0, .bool false, .int .u64 0, .int .i64 0] 24)
  have HB := Lib.hid (bel2 w (.cells #[.slice A n c, .bool false, .int .i64 x] 46) (.cells #[.int .i64 0, .bool false, .int .u64 0, .int .i64 0] 24))
  replace hT := hT.below HB.out
  replace h := h.below HB.out
  generalize hW1 : ((w.alloc (.cells #[.slice A n c, .bool false, .int .i64 x] 46)).alloc (.cells #[.int .i64 0, .bool false, .int .u64 0, .int .i64 0] 24)) = w1 at *
  clear hW1
  have xX30 := X3.a 0 (.slice A n c) rfl
  have xX31 := X3.a 1 (.bool false) rfl
  have xX32 := X3.a 2 (.int .i64 x) rfl
  go_wp2_with fail
  refine (vShlE (s := 1) h.rd (by omega) (by decide) HA.out).mono ?_
  rintro ee w2 ⟨A2, n2, c2, rfl, p2, k2, B⟩
  clear xX30 xX31 xX32
  replace X3 := X3.below B
  replace XR := XR.below B
  replace hT := hT.below B
  replace h := h.below B
  replace HB := Lib.hid (bt HB.out B)
  clear B
  clear h
  have xX30 := X3.a 0 (.slice A n c) rfl
  have xX31 := X3.a 1 (.bool false) rfl
  have xX32 := X3.a 2 (.int .i64 x) rfl
  go_wp2_with fail
  refine (vAddE (p2.below (bel1 _ _)).rd (lit_one7 w2) (by omega) (by decide) H1.out).mono ?_
  rintro ee w4 ⟨A4, n4, c4, rfl, p4, k4, B⟩
  clear xX30 xX31 xX32
  replace B := bt (bel1 _ _) B
  replace X3 := X3.below B
  replace XR := XR.below B
  replace hT := hT.below B
  replace p2 := p2.below B
  replace HB := Lib.hid (bt HB.out B)
  clear B
  clear p2
  have xX30 := X3.a 0 (.slice A n c) rfl
  have xX31 := X3.a 1 (.bool false) rfl
  have xX32 := X3.a 2 (.int .i64 x) rfl
  go_upto_region 4 with (fail)
  clear xX30 xX31 xX32
  refine Jo.region_joint (T := [0, 1, 2, 3, 4, 5, 6, 7, 8]) (ds := [some 17, some 18, some 19, some 20, some 21, some 22, some 23, some 24, some 25, none]) (ls := [[], [], [0, 1], [], [3], [4], [2, 5], [], [6, 7], []]) (k := 10) (L := [(some 17, 0), (some 18, 1), (some 19, 2), (some 20, 3), (some 21, 4), (some 22, 5), (some 23, 6), (some 24, 7), (some 25, 8)]) (fuel := 1) (J := fun wj => Below (World.heap w4).size w4 wj)
    (F := [Jo.Fact.eq (.bool σ), Jo.Fact.eq (.slice A4 n4 c4), Jo.Fact.wn (sg σ a) 30000, Jo.Fact.eq (.pointer (some ⟨w.heap.size, 2, none⟩)), Jo.Fact.eq (.int .i64 x), Jo.Fact.eq (.int .i64 (x - 1)), Jo.Fact.dy (sg σ a) (x - 1) 30000, Jo.Fact.eq (.bool up), Jo.Fact.num r, Jo.Fact.any])
    (by kernel_rfl) (by kernel_rfl) (by decide) rfl rfl (fun _ _ h b => bt h b) ((Below.refl _ _).drew) ?_ (fun vs w8 hJ hd => ?_)
  · refine Jo.jd 0 (some 17) [] (Jo.Fact.eq (.bool σ)) rfl rfl rfl rfl (fun vs wj hJ hd K hK => ?_) ?_
    · simp only [Jo.putl, Jo.ze, Act.put, Jo.za, Jo.zb, Jo.zc] at hK ⊢
      clear hd
      go_simp
      exact hK.out _ _ rfl (Below.refl _ _)
    refine Jo.jd 1 (some 18) [] (Jo.Fact.eq (.slice A4 n4 c4)) rfl rfl rfl rfl (fun vs wj hJ hd K hK => ?_) ?_
    · simp only [Jo.putl, Jo.ze, Act.put, Jo.za, Jo.zb, Jo.zc] at hK ⊢
      clear hd
      go_simp
      exact hK.out _ _ rfl (Below.refl _ _)
    refine Jo.jd 2 (some 19) [(some 17, 0), (some 18, 1)] (Jo.Fact.wn (sg σ a) 30000) rfl rfl rfl rfl (fun vs wj hJ hd K hK => ?_) ?_
    · simp only [Jo.putl, Jo.zd, Jo.ze, Act.put, Jo.za, Jo.zb, Jo.zc] at hK ⊢
      rw [show vs 0 = _ from hd 0 (by decide), show vs 1 = _ from hd 1 (by decide)] at hK ⊢
      clear hd
      go_simp
      refine (wMake σ (p4.below hJ).rd).mono ?_
      rintro ee wk ⟨s7, A7, n7, c7, rfl, p7, k7, B⟩
      exact hK.out _ _ ⟨s7, A7, n7, c7, rfl, p7, by omega⟩ B
    refine Jo.jd 3 (some 20) [] (Jo.Fact.eq (.pointer (some ⟨w.heap.size, 2, none⟩))) rfl rfl rfl rfl (fun vs wj hJ hd K hK => ?_) ?_
    · simp only [Jo.putl, Jo.ze, Act.put, Jo.za, Jo.zb, Jo.zc] at hK ⊢
      clear hd
      go_simp
      exact hK.out _ _ rfl (Below.refl _ _)
    refine Jo.jd 4 (some 21) [(some 20, 3)] (Jo.Fact.eq (.int .i64 x)) rfl rfl rfl rfl (fun vs wj hJ hd K hK => ?_) ?_
    · simp only [Jo.putl, Jo.zd, Jo.ze, Act.put, Jo.za, Jo.zb, Jo.zc] at hK ⊢
      rw [show vs 3 = _ from hd 3 (by decide)] at hK ⊢
      clear hd
      have xX32 := (X3.below hJ).a 2 (.int .i64 x) rfl
      go_simp
      exact hK.out _ _ rfl (Below.refl _ _)
    refine Jo.jd 5 (some 22) [(some 21, 4)] (Jo.Fact.eq (.int .i64 (x - 1))) rfl rfl rfl rfl (fun vs wj hJ hd K hK => ?_) ?_
    · simp only [Jo.putl, Jo.zd, Jo.ze, Act.put, Jo.za, Jo.zb, Jo.zc] at hK ⊢
      rw [show vs 4 = _ from hd 4 (by decide)] at hK ⊢
      clear hd
      have hw := HW.out
      go_simp
      exact hK.out _ _ (by first | rfl | (show Value.int _ _ = Value.int _ _; rw [hw])) (Below.refl _ _)
    refine Jo.jd 6 (some 23) [(some 19, 2), (some 22, 5)] (Jo.Fact.dy (sg σ a) (x - 1) 30000) rfl rfl rfl rfl (fun vs wj hJ hd K hK => ?_) ?_
    · have d2 : (Jo.Fact.wn (sg σ a) 30000).P (vs 2) wj := hd 2 (by decide)
      simp only [Jo.putl, Jo.zd, Jo.ze, Act.put, Jo.za, Jo.zb, Jo.zc] at hK ⊢
      rw [show vs 5 = _ from hd 5 (by decide)] at hK ⊢
      clear hd
      generalize vs 2 = u2 at hK d2 ⊢
      obtain ⟨s7, A7, n7, c7, rfl, p7, k7⟩ := d2
      go_simp
      exact hK.out _ _ ⟨s7, A7, n7, c7, rfl, p7, k7⟩ (Below.refl _ _)
    refine Jo.jd 7 (some 24) [] (Jo.Fact.eq (.bool up)) rfl rfl rfl rfl (fun vs wj hJ hd K hK => ?_) ?_
    · simp only [Jo.putl, Jo.ze, Act.put, Jo.za, Jo.zb, Jo.zc] at hK ⊢
      clear hd
      go_simp
      exact hK.out _ _ rfl (Below.refl _ _)
    refine Jo.jd 8 (some 25) [(some 23, 6), (some 24, 7)] (Jo.Fact.num r) rfl rfl rfl rfl (fun vs wj hJ hd K hK => ?_) ?_
    · have d6 : (Jo.Fact.dy (sg σ a) (x - 1) 30000).P (vs 6) wj := hd 6 (by decide)
      simp only [Jo.putl, Jo.zd, Jo.ze, Act.put, Jo.za, Jo.zb, Jo.zc] at hK ⊢
      rw [show vs 7 = _ from hd 7 (by decide)] at hK ⊢
      clear hd
      generalize vs 6 = u6 at hK d6 ⊢
      obtain ⟨s8, A8, n8, c8, rfl, p8, k8⟩ := d6
      go_simp
      refine (nRound (hT.below hJ) p8.wr (by omega) rfl rfl HR.out).mono ?_
      rintro ee wk ⟨K9, s9, M9, E9, rfl, q9, B⟩
      exact hK.out _ _ ⟨K9, s9, M9, E9, rfl, q9⟩ B
    exact Jo.Steps.nil
  have d2 : (Jo.Fact.wn (sg σ a) 30000).P (vs 2) w8 := hd 2 (by decide)
  have d6 : (Jo.Fact.dy (sg σ a) (x - 1) 30000).P (vs 6) w8 := hd 6 (by decide)
  have d8 : (Jo.Fact.num r).P (vs 8) w8 := hd 8 (by decide)
  simp only [Jo.putl, Jo.zd, Jo.ze, Act.put, Jo.za, Jo.zb, Jo.zc]
  rw [show vs 0 = _ from hd 0 (by decide), show vs 1 = _ from hd 1 (by decide), show vs 4 = _ from hd 4 (by decide), show vs 5 = _ from hd 5 (by decide), show vs 7 = _ from hd 7 (by decide)]
  clear hd
  generalize vs 2 = u2 at d2 ⊢
  generalize vs 6 = u6 at d6 ⊢
  generalize vs 8 = u8 at d8 ⊢
  obtain ⟨_, _, _, _, rfl, _⟩ := d2
  obtain ⟨_, _, _, _, rfl, _⟩ := d6
  obtain ⟨K9, s9, M9, E9, rfl, q9⟩ := d8
  replace X3 := X3.below hJ
  replace XR := XR.below hJ
  replace hT := hT.below hJ
  replace p4 := p4.below hJ
  replace HB := Lib.hid (bt HB.out hJ)
  have xXR0 := XR.a 0 (.int .i64 0) rfl
  have zXR0 := XR.frozen 0
  have xXR1 := XR.a 1 (.bool false) rfl
  have zXR1 := XR.frozen 1
  have xXR2 := XR.a 2 (.int .u64 0) rfl
  have zXR2 := XR.frozen 2
  have xXR3 := XR.a 3 (.int .i64 0) rfl
  have zXR3 := XR.frozen 3
  refine Jo.jnext (i := 9) (o := ⟨none, _, _, _, _, _⟩) (by kernel_rfl) rfl (fun K hK => ?_)
  go_simp
  refine hK.out _ _ ?_
  clear hK K xXR0 zXR0 xXR1 zXR1 xXR2 zXR2 xXR3 zXR3
  have SX := StN.mk4 XR (.int .i64 K9) (.bool s9) (.int .u64 M9) (.int .i64 E9)
  replace X3 := X3.stn SX (by omega)
  replace HB := Lib.hid (SX.below HB.out (by omega))
  replace XR := SX.box
  clear SX
  generalize (World.setCell (World.setCell (World.setCell (World.setCell w8 ⟨w.heap.size + 1, 0, none⟩ (.int .i64 K9)) ⟨w.heap.size + 1, 1, none⟩ (.bool s9)) ⟨w.heap.size + 1, 2, none⟩ (.int .u64 M9)) ⟨w.heap.size + 1, 3, none⟩ (.int .i64 E9)) = w9 at *
  refine Jo.jdone (by kernel_rfl) ?_
  go_wp2
  have r0 := XR.cell 0
  have r1 := XR.cell 1
  have r2 := XR.cell 2
  have r3 := XR.cell 3
  exact bodyPost_ret (v := .agg #[.int .i64 K9, .bool s9, .int .u64 M9, .int .i64 E9]) (by simp [results, Tryz.results24, go_sem, r0, r1, r2, r3]) rfl ⟨_, _, _, _, rfl, q9, HB.out⟩
theorem qRound {w : World} {A : Option Addr} {n c : Nat} {t σ up : Bool} {x r : Int} {P : Bool → Bool → Int → Prop} (hT : Tab w) (h : Pk w A n c t x P) (hr : ∀ r', P σ up r' → r' = r) : Calls Tryz.prog 24 #[.agg #[.slice A n c, .bool t, .int .i64 x], .bool σ, .bool up] w (PN w r) := by
  obtain ⟨q, d, hnm, hk, ht, x1, x2, hp⟩ := h
  have e := hr _ (hp σ up)
  rw [← sg_sgi7] at e
  by_cases h0 : d = 0
  · subst h0
    obtain rfl : true = t := ht
    rw [stk_zero7] at e
    exact qround_e hT hnm hk rfl rfl x1 x2 e
  · obtain rfl : false = t := by rw [← ht]; exact (decide_eq_false h0).symm
    rw [stk_one7 h0] at e
    exact qround_l hT hnm hk rfl rfl x1 x2 e
end Go.Proofs.YtpmakljahhhnfaaGreatDoor

/-
  What the document's sticky, ratio and Ratio of layer 7 do.
-/
namespace Go.Proofs.YtpmakljahhhnfaaGreatDoor
open Go.RowKit
set_option linter.unusedVariables false
set_option linter.unusedSimpArgs false
set_option maxRecDepth 100000

theorem lit_one (W : World) : Rd (W.alloc (.cells #[.int .u32 1] 41)) (some ⟨W.heap.size, 0, none⟩) 1 1 1 :=
  ⟨_, [1], (Own.new W [1]).all (Lim.cons (by decide) Lim.nil) (by simp) (Nat.le_refl _), by decide⟩
theorem stk_zero (q : Nat) : stk q 0 = q * 2 ^ (1 : Int).toNat := by
  unfold stk
  rw [if_pos rfl]
  show 2 * q + 0 = q * 2
  omega
theorem stk_one {q r : Nat} (h : r ≠ 0) : stk q r = q * 2 ^ (1 : Int).toNat + 1 := by
  unfold stk
  rw [if_neg h]
  show 2 * q + 1 = q * 2 + 1
  omega
theorem sg_sgi (s : Bool) (a : Nat) : sg s a = sgi s (a : Int) := by
  cases s
  · rw [sg_false, wsg_f]
  · rw [sg_true, wsg_t]
set_option maxHeartbeats 1000000 in
theorem jsticky_n {w : World} {A : Option Addr} {n c a r : Nat} (h : Rd w A n c a) (hn : n ≤ 100000) (hr : a * 2 ^ (1 : Int).toNat = r) : Calls Tryz.prog 32 #[.slice A n c, .bool false] w (P1 w (n + 5) r) := by
  have HR := Lib.hid hr
  obtain ⟨d, hd⟩ : ∃ d, a * 2 ^ (1 : Int).toNat = d := ⟨_, rfl⟩
  have HD := Lib.hid hd
  rw [hd] at HR
  clear hr hd
  go_enter Tryz.func32, Tryz.ntmps32
  go_wp2_with fail
  refine (rShlN (z := 1) h (by omega) (by decide) (by decide) HD.out).mono ?_
  rintro ee w2 ⟨A1, n1, c1, rfl, p1, k1, B1⟩
  have hk1 : n1 ≤ n + 2 := by
    have : (1 : Int).toNat / 32 = 0 := rfl
    omega
  clear h k1
  obtain rfl : d = r := HR.out
  go_wp2
  go_ret
  exact ⟨A1, n1, c1, rfl, p1, by omega, B1⟩
set_option maxHeartbeats 1000000 in
theorem jsticky_y {w : World} {A : Option Addr} {n c a r : Nat} (h : Rd w A n c a) (hn : n ≤ 100000) (hr : a * 2 ^ (1 : Int).toNat + 1 = r) : Calls Tryz.prog 32 #[.slice A n c, .bool true] w (P1 w (n + 5) r) := by
  have HR := Lib.hid hr
  obtain ⟨d, hd⟩ : ∃ d, a * 2 ^ (1 : Int).toNat = d := ⟨_, rfl⟩
  have HD := Lib.hid hd
  rw [hd] at HR
  clear hr hd
  go_enter Tryz.func32, Tryz.ntmps32
  go_wp2_with fail
  refine (rShlN (z := 1) h (by omega) (by decide) (by decide) HD.out).mono ?_
  rintro ee w2 ⟨A1, n1, c1, rfl, p1, k1, B1⟩
  have hk1 : n1 ≤ n + 2 := by
    have : (1 : Int).toNat / 32 = 0 := rfl
    omega
  clear h k1
  go_wp2_with fail
  refine (rAddE (p1.below (bel1 _ _)).rd (lit_one w2) (by omega) (by decide) HR.out).mono ?_
  rintro ee w3 ⟨A2, n2, c2, rfl, p2, k2, B2⟩
  go_wp2
  go_ret
  exact ⟨A2, n2, c2, rfl, p2, by omega, bt B1 (bt (bel1 _ _) B2)⟩
theorem jSticky {w : World} {A : Option Addr} {n c a d r : Nat} {cut : Bool} (h : Rd w A n c a) (hn : n ≤ 100000) (hc : decide (d ≠ 0) = cut) (hr : stk a d = r) : Calls Tryz.prog 32 #[.slice A n c, .bool cut] w (P1 w (n + 5) r) := by
  by_cases h0 : d = 0
  · subst h0
    obtain rfl : false = cut := hc
    exact jsticky_n h hn (by rw [← stk_zero]; exact hr)
  · obtain rfl : true = cut := by rw [← hc]; exact (decide_eq_true h0).symm
    exact jsticky_y h hn (by rw [← stk_one h0]; exact hr)
theorem jDivE {w : World} {A1 A2 : Option Addr} {n m c1 c2 a d q r : Nat} (h1 : Rd w A1 n c1 a) (h2 : Rd w A2 m c2 d) (hn : n ≤ 268435456) (hm : m ≤ 268435456) (hd : d ≠ 0) (hq : a / d = q) (hr : a % d = r) :
    Calls Tryz.prog 60 #[.slice A1 n c1, .slice A2 m c2] w (P3 w n q r) := hq ▸ hr ▸ rDiv h1 h2 hn hm hd
/-- A quotient and what is left. -/
def Jo.Fact.dv (q r K : Nat) : Jo.Fact := ⟨fun v w => ∃ A n c B m d, v = .tuple #[.slice A n c, .slice B m d, .bool true] ∧ Nm w A n c q ∧ Nm w B m d r ∧ n ≤ K, fun v w w' h b => by
  obtain ⟨A, n, c, B, m, d, e, p, k, l⟩ := h
  exact ⟨A, n, c, B, m, d, e, p.below b, k.below b, l⟩⟩
/-- A number in some slice. -/
def Jo.Fact.nmA (a : Nat) : Jo.Fact := ⟨fun v w => ∃ A n c, v = .slice A n c ∧ Nm w A n c a, fun v w w' h b => by
  obtain ⟨A, n, c, e, p⟩ := h
  exact ⟨A, n, c, e, p.below b⟩⟩
theorem stk_small {α β κ n : Nat} {N M : Nat} (hβ : 0 < β) (hn : n = 70 + blen β) (hα : α < 4294967296 ^ N) (hβ2 : β < 4294967296 ^ M) (hN : N ≤ 3500) (hM : M ≤ 3500) (hκ : κ = 500000) : stk (α * 2 ^ n / β) (α * 2 ^ n % β) < 2 ^ κ := by
  have e32 : ∀ k : Nat, (4294967296 : Nat) ^ k = 2 ^ (32 * k) := fun k => by rw [show (4294967296 : Nat) = 2 ^ 32 by decide, ← Nat.pow_mul]
  rw [e32] at hα hβ2
  have b1 : blen β ≤ 32 * M := blen_mono_le hβ2
  have q1 : α * 2 ^ n / β ≤ α * 2 ^ n := Nat.div_le_self _ _
  have q2 : α * 2 ^ n < 2 ^ (32 * N) * 2 ^ n := Nat.mul_lt_mul_of_pos_right hα (Nat.pow_pos (by decide))
  rw [← Nat.pow_add] at q2
  have q3 : stk (α * 2 ^ n / β) (α * 2 ^ n % β) ≤ 2 * (α * 2 ^ n / β) + 1 := by
    unfold stk
    split <;> omega
  have q4 : 2 ^ (32 * N + n + 1) ≤ 2 ^ κ := Nat.pow_le_pow_right (by decide) (by omega)
  rw [Nat.pow_succ] at q4
  omega
set_option maxHeartbeats 4000000 in
theorem jratio_z {w : World} {A B : Option Addr} {n c m d α β : Nat} {s t up : Bool} {e r : Int} (ha : Rd w A n c α) (hb : Rd w B m d β) (hn : n ≤ 3500) (hm : m ≤ 3500) (e1 : -2200000 ≤ e) (e2 : e ≤ 2200000) (h0 : β = 0) (hr : sgi (!up) TP = r) : Calls Tryz.prog 28 #[.agg #[.bool s, .slice A n c], .agg #[.bool t, .slice B m d], .int .i64 e, .bool up] w (PN w r) := by
  subst h0
  have HR := Lib.hid hr
  have HS : Hid (cmpI (sg t 0) 0 = 0) := Lib.hid (cmpI_eq (sg_zero t))
  clear hr
  go_enter Tryz.func28, Tryz.ntmps28
  go_upto_region 1 with (fail)
  have X4 := (Bo.newAt w (g := w.heap.size) (by simp) #[.bool s, .slice A n c] 34).below (bel2 _ (.cells #[.bool t, .slice B m d] 34) (.cells #[.int .i64 0, .bool false, .int .u64 0, .int .i64 0] 24))
  have X5 := (Bo.newAt (w.alloc (.cells #[.bool s, .slice A n c] 34)) (g := w.heap.size + 1) (by simp) #[.bool t, .slice B m d] 34).below (bel1 _ (.cells #[.int .i64 0, .bool false, .int .u64 0, .int .i64 0] 24))
  have XR := (Bo.newAt ((w.alloc (.cells #[.bool s, .slice A n c] 34)).alloc (.cells #[.bool t, .slice B m d] 34)) (g := w.heap.size + 1 + 1) (by simp) #[.int .i64 0, .bool false, .int .u64 0, .int .i64 0] 24)
  have HB := Lib.hid (bel3 w (.cells #[.bool s, .slice A n c] 34) (.cells #[.bool t, .slice B m d] 34) (.cells #[.int .i64 0, .bool false, .int .u64 0, .int .i64 0] 24))
  replace hb := hb.below HB.out
  generalize hW1 : (((w.alloc (.cells #[.bool s, .slice A n c] 34)).alloc (.cells #[.bool t, .slice B m d] 34)).alloc (.cells #[.int .i64 0, .bool false, .int .u64 0, .int .i64 0] 24)) = w1 at *
  clear hW1
  have xX50 := X5.a 0 (.bool t) rfl
  have xX51 := X5.a 1 (.slice B m d) rfl
  go_wp2_with fail
  refine (qSign (hb.wr t) HS.out).mono ?_
  rintro ee w2 ⟨rfl, B⟩
  clear xX50 xX51
  replace X4 := X4.below B
  replace X5 := X5.below B
  replace XR := XR.below B
  replace hb := hb.below B
  replace HB := Lib.hid (bt HB.out B)
  clear B
  clear hb
  go_wp2_with fail
  refine (yInf (s := !up) HR.out).mono ?_
  rintro ee w3 ⟨K1, s1, M1, E1, rfl, q1, B⟩
  replace X4 := X4.below B
  replace X5 := X5.below B
  replace XR := XR.below B
  replace HB := Lib.hid (bt HB.out B)
  clear B
  have xXR0 := XR.a 0 (.int .i64 0) rfl
  have zXR0 := XR.frozen 0
  have xXR1 := XR.a 1 (.bool false) rfl
  have zXR1 := XR.frozen 1
  have xXR2 := XR.a 2 (.int .u64 0) rfl
  have zXR2 := XR.frozen 2
  have xXR3 := XR.a 3 (.int .i64 0) rfl
  have zXR3 := XR.frozen 3
  go_wp2
  clear xXR0 zXR0 xXR1 zXR1 xXR2 zXR2 xXR3 zXR3
  have SX := StN.mk4 XR (.int .i64 K1) (.bool s1) (.int .u64 M1) (.int .i64 E1)
  replace X4 := X4.stn SX (by omega)
  replace X5 := X5.stn SX (by omega)
  replace HB := Lib.hid (SX.below HB.out (by omega))
  replace XR := SX.box
  clear SX
  generalize (World.setCell (World.setCell (World.setCell (World.setCell w3 ⟨w.heap.size + 1 + 1, 0, none⟩ (.int .i64 K1)) ⟨w.heap.size + 1 + 1, 1, none⟩ (.bool s1)) ⟨w.heap.size + 1 + 1, 2, none⟩ (.int .u64 M1)) ⟨w.heap.size + 1 + 1, 3, none⟩ (.int .i64 E1)) = w4 at *
  have r0 := XR.cell 0
  have r1 := XR.cell 1
  have r2 := XR.cell 2
  have r3 := XR.cell 3
  exact bodyPost_ret (v := .agg #[.int .i64 K1, .bool s1, .int .u64 M1, .int .i64 E1]) (by simp [results, Tryz.results28, go_sem, r0, r1, r2, r3]) rfl ⟨_, _, _, _, rfl, q1, HB.out⟩
set_option maxHeartbeats 8000000 in
theorem jratio_l {w : World} {A B : Option Addr} {n c m d α β : Nat} {s t up : Bool} {e r : Int} (ha : Rd w A n c α) (hb : Rd w B m d β) (hn : n ≤ 3500) (hm : m ≤ 3500) (e1 : -2200000 ≤ e) (e2 : e ≤ 2200000) {Q R : Nat} (h0 : 0 < β) (hQ : α * 2 ^ (70 + blen β) / β = Q) (hR : α * 2 ^ (70 + blen β) % β = R) (hz : R ≠ 0) (hr : Sid up (sgi (s != t) ((α : Int) * 2 ^ (e + (KK : Int)).toNat)) (β : Int) r) : Calls Tryz.prog 28 #[.agg #[.bool s, .slice A n c], .agg #[.bool t, .slice B m d], .int .i64 e, .bool up] w (PN w r) := by
  have hbl := hb.blen_le
  obtain ⟨by_, hby⟩ : ∃ k : Nat, 70 + blen β = k := ⟨_, rfl⟩
  obtain ⟨κ, hκ⟩ : ∃ κ : Nat, κ = 500000 := ⟨_, rfl⟩
  have hsmall := stk_small h0 hby.symm ha.bound hb.bound hn hm hκ
  have hside := ratio_side (σ := (s != t)) (up := up) (e := e) h0 hby.symm hκ hsmall (by omega) (by omega)
  have hru := hside.uniq (by omega) hr
  rw [hby] at hQ hR
  rw [hQ, hR] at hru
  obtain ⟨S, hS⟩ : ∃ S, stk Q R = S := ⟨_, rfl⟩
  rw [hS, ← sg_sgi] at hru
  obtain ⟨X, hX⟩ : ∃ X, α * 2 ^ by_ = X := ⟨_, rfl⟩
  rw [hX] at hQ hR
  obtain ⟨b, hb2⟩ : ∃ b : Int, (by_ : Int) = b := ⟨_, rfl⟩
  rw [hb2] at hru
  obtain ⟨L, hL⟩ : ∃ L : Int, ((blen β : Nat) : Int) = L := ⟨_, rfl⟩
  have hLb : 70 + L = b := by omega
  have hb3 : 70 ≤ b ∧ b ≤ 200000 := by omega
  obtain ⟨P, hP⟩ : ∃ P, mk (sg (s != t) S) (e - b - 1) = P := ⟨_, rfl⟩
  rw [hP] at hru
  have hPn : mk P.1 P.2 = P := by rw [← hP]; exact mk_nf _ _
  have HRR := Lib.hid (show rnd up (mk P.1 P.2).1 (mk P.1 P.2).2 = r by rw [hPn]; exact hru)
  have HP1 : Hid ((mk (sg (!(s == t)) S) (e - b - 1)).1 = P.1) := Lib.hid (by rw [← hP]; rfl)
  have HP2 : Hid ((mk (sg (!(s == t)) S) (e - b - 1)).2 = P.2) := Lib.hid (by rw [← hP]; rfl)
  have HL := Lib.hid hL
  have HW1 : Hid (IntKind.i64.wrap (70 + L) = b) := Lib.hid (by rw [hLb]; exact IntWalk.i64_in _ (by omega))
  have HW2 : Hid (IntKind.i64.wrap (e - b) = e - b) := Lib.hid (IntWalk.i64_in _ (by omega))
  have HW3 : Hid (IntKind.i64.wrap (e - b - 1) = e - b - 1) := Lib.hid (IntWalk.i64_in _ (by omega))
  have hbt : b.toNat = by_ := by omega
  have HX : Hid (α * 2 ^ b.toNat = X) := Lib.hid (by rw [hbt]; exact hX)
  have HQ := Lib.hid hQ
  have HRM := Lib.hid hR
  have HST := Lib.hid hS
  have hn0 : β ≠ 0 := by omega
  obtain ⟨σ, hσ⟩ : ∃ σ, cmpI (sg t β) 0 = σ := ⟨_, rfl⟩
  have hs0 : (σ == 0) = false := by
    have : σ ≠ 0 := by
      rw [← hσ]
      rcases sg_cases t β with ⟨a, _⟩ | ⟨_, _, a⟩ | ⟨_, _, a⟩
      · omega
      · rw [a]; decide
      · rw [a]; decide
    simpa using this
  have HS := Lib.hid hσ
  have hXn : n + b.toNat / 32 + 1 ≤ 20000 := by omega
  clear hside hr hru hsmall hbl hL hLb hX hb2 hP hPn hQ hR hS hby hκ hbt hσ
  go_enter Tryz.func28, Tryz.ntmps28
  go_upto_region 1 with (fail)
  have X4 := (Bo.newAt w (g := w.heap.size) (by simp) #[.bool s, .slice A n c] 34).below (bel2 _ (.cells #[.bool t, .slice B m d] 34) (.cells #[.int .i64 0, .bool false, .int .u64 0, .int .i64 0] 24))
  have X5 := (Bo.newAt (w.alloc (.cells #[.bool s, .slice A n c] 34)) (g := w.heap.size + 1) (by simp) #[.bool t, .slice B m d] 34).below (bel1 _ (.cells #[.int .i64 0, .bool false, .int .u64 0, .int .i64 0] 24))
  have XR := (Bo.newAt ((w.alloc (.cells #[.bool s, .slice A n c] 34)).alloc (.cells #[.bool t, .slice B m d] 34)) (g := w.heap.size + 1 + 1) (by simp) #[.int .i64 0, .bool false, .int .u64 0, .int .i64 0] 24)
  have HB := Lib.hid (bel3 w (.cells #[.bool s, .slice A n c] 34) (.cells #[.bool t, .slice B m d] 34) (.cells #[.int .i64 0, .bool false, .int .u64 0, .int .i64 0] 24))
  replace ha := ha.below HB.out
  replace hb := hb.below HB.out
  generalize hW1 : (((w.alloc (.cells #[.bool s, .slice A n c] 34)).alloc (.cells #[.bool t, .slice B m d] 34)).alloc (.cells #[.int .i64 0, .bool false, .int .u64 0, .int .i64 0] 24)) = w1 at *
  clear hW1
  have xX50 := X5.a 0 (.bool t) rfl
  have xX51 := X5.a 1 (.slice B m d) rfl
  go_wp2_with fail
  refine (qSign (hb.wr t) HS.out).mono ?_
  rintro ee w2 ⟨rfl, B⟩
  clear xX50 xX51
  replace X4 := X4.below B
  replace X5 := X5.below B
  replace XR := XR.below B
  replace ha := ha.below B
  replace hb := hb.below B
  replace HB := Lib.hid (bt HB.out B)
  clear B
  have xX50 := X5.a 0 (.bool t) rfl
  have xX51 := X5.a 1 (.slice B m d) rfl
  go_wp2_with fail
  refine (rLen hb HL.out).mono ?_
  rintro ee w3 ⟨rfl, B⟩
  clear xX50 xX51
  replace X4 := X4.below B
  replace X5 := X5.below B
  replace XR := XR.below B
  replace ha := ha.below B
  replace hb := hb.below B
  replace HB := Lib.hid (bt HB.out B)
  clear B
  have hw1 := HW1.out
  go_upto_region 4 with (fail)
  clear hw1
  refine Jo.region_joint (T := [0, 1, 2, 3, 4, 5, 6, 7, 8, 9, 10, 11, 12, 13]) (ds := [some 25, some 26, some 27, some 28, some 29, some 30, some 31, some 24, some 32, some 33, some 34, some 10, some 11, some 12]) (ls := [[], [0], [], [1, 2], [], [4], [3, 5], [6], [7], [7], [7], [8], [9], [10]]) (k := 14) (L := [(some 25, 0), (some 26, 1), (some 27, 2), (some 28, 3), (some 29, 4), (some 30, 5), (some 31, 6), (some 24, 7), (some 32, 8), (some 33, 9), (some 34, 10), (some 10, 11), (some 11, 12), (some 12, 13)]) (fuel := 0) (J := fun wj => Below (World.heap w3).size w3 wj)
    (F := [Jo.Fact.eq (.pointer (some ⟨w.heap.size, 1, none⟩)), Jo.Fact.eq (.slice A n c), Jo.Fact.eq (.int .i64 b), Jo.Fact.nm X 20000, Jo.Fact.eq (.pointer (some ⟨w.heap.size + 1, 1, none⟩)), Jo.Fact.eq (.slice B m d), Jo.Fact.dv Q R 20000, Jo.Fact.dv Q R 20000, Jo.Fact.nm Q 20000, Jo.Fact.nmA R, Jo.Fact.eq (.bool true), Jo.Fact.nm Q 20000, Jo.Fact.nmA R, Jo.Fact.eq (.bool true)])
    (by kernel_rfl) (by kernel_rfl) (by decide) rfl rfl (fun _ _ h b => bt h b) ((Below.refl _ _).drew) ?_ (fun vs w4 hJ hd => ?_)
  · refine Jo.jd 0 (some 25) [] (Jo.Fact.eq (.pointer (some ⟨w.heap.size, 1, none⟩))) rfl rfl rfl rfl (fun vs wj hJ hd K hK => ?_) ?_
    · simp only [Jo.putl, Jo.ze, Act.put, Jo.za, Jo.zb, Jo.zc] at hK ⊢
      clear hd
      go_simp
      exact hK.out _ _ rfl (Below.refl _ _)
    refine Jo.jd 1 (some 26) [(some 25, 0)] (Jo.Fact.eq (.slice A n c)) rfl rfl rfl rfl (fun vs wj hJ hd K hK => ?_) ?_
    · simp only [Jo.putl, Jo.zd, Jo.ze, Act.put, Jo.za, Jo.zb, Jo.zc] at hK ⊢
      rw [show vs 0 = _ from hd 0 (by decide)] at hK ⊢
      clear hd
      have xX41 := (X4.below hJ).a 1 (.slice A n c) rfl
      go_simp
      exact hK.out _ _ rfl (Below.refl _ _)
    refine Jo.jd 2 (some 27) [] (Jo.Fact.eq (.int .i64 b)) rfl rfl rfl rfl (fun vs wj hJ hd K hK => ?_) ?_
    · simp only [Jo.putl, Jo.ze, Act.put, Jo.za, Jo.zb, Jo.zc] at hK ⊢
      clear hd
      go_simp
      exact hK.out _ _ rfl (Below.refl _ _)
    refine Jo.jd 3 (some 28) [(some 26, 1), (some 27, 2)] (Jo.Fact.nm X 20000) rfl rfl rfl rfl (fun vs wj hJ hd K hK => ?_) ?_
    · simp only [Jo.putl, Jo.zd, Jo.ze, Act.put, Jo.za, Jo.zb, Jo.zc] at hK ⊢
      rw [show vs 1 = _ from hd 1 (by decide), show vs 2 = _ from hd 2 (by decide)] at hK ⊢
      clear hd
      go_simp
      refine (rShlN (z := b) (ha.below hJ) (by omega) (by omega) (by omega) HX.out).mono ?_
      rintro ee wk ⟨A3, n3, c3, rfl, p3, k3, B⟩
      exact hK.out _ _ ⟨A3, n3, c3, rfl, p3, Nat.le_trans k3 hXn⟩ B
    refine Jo.jd 4 (some 29) [] (Jo.Fact.eq (.pointer (some ⟨w.heap.size + 1, 1, none⟩))) rfl rfl rfl rfl (fun vs wj hJ hd K hK => ?_) ?_
    · simp only [Jo.putl, Jo.ze, Act.put, Jo.za, Jo.zb, Jo.zc] at hK ⊢
      clear hd
      go_simp
      exact hK.out _ _ rfl (Below.refl _ _)
    refine Jo.jd 5 (some 30) [(some 29, 4)] (Jo.Fact.eq (.slice B m d)) rfl rfl rfl rfl (fun vs wj hJ hd K hK => ?_) ?_
    · simp only [Jo.putl, Jo.zd, Jo.ze, Act.put, Jo.za, Jo.zb, Jo.zc] at hK ⊢
      rw [show vs 4 = _ from hd 4 (by decide)] at hK ⊢
      clear hd
      have xX51 := (X5.below hJ).a 1 (.slice B m d) rfl
      go_simp
      exact hK.out _ _ rfl (Below.refl _ _)
    refine Jo.jd 6 (some 31) [(some 28, 3), (some 30, 5)] (Jo.Fact.dv Q R 20000) rfl rfl rfl rfl (fun vs wj hJ hd K hK => ?_) ?_
    · have d3 : (Jo.Fact.nm X 20000).P (vs 3) wj := hd 3 (by decide)
      simp only [Jo.putl, Jo.zd, Jo.ze, Act.put, Jo.za, Jo.zb, Jo.zc] at hK ⊢
      rw [show vs 5 = _ from hd 5 (by decide)] at hK ⊢
      clear hd
      generalize vs 3 = u3 at hK d3 ⊢
      obtain ⟨A3, n3, c3, rfl, p3, k3⟩ := d3
      go_simp
      refine (jDivE p3.rd (hb.below hJ) (by omega) (by omega) hn0 HQ.out HRM.out).mono ?_
      rintro ee wk ⟨A6, n6, c6, B6, m6, d6_, rfl, p6, r6, k6, l6, B⟩
      exact hK.out _ _ ⟨A6, n6, c6, B6, m6, d6_, rfl, p6, r6, Nat.le_trans k6 k3⟩ B
    refine Jo.jd 7 (some 24) [(some 31, 6)] (Jo.Fact.dv Q R 20000) rfl rfl rfl rfl (fun vs wj hJ hd K hK => ?_) ?_
    · have d6 : (Jo.Fact.dv Q R 20000).P (vs 6) wj := hd 6 (by decide)
      simp only [Jo.putl, Jo.zd, Jo.ze, Act.put, Jo.za, Jo.zb, Jo.zc] at hK ⊢
      clear hd
      generalize vs 6 = u6 at hK d6 ⊢
      obtain ⟨A6, n6, c6, B6, m6, d6_, rfl, p6, r6, k6⟩ := d6
      go_simp
      exact hK.out _ _ ⟨A6, n6, c6, B6, m6, d6_, rfl, p6, r6, k6⟩ (Below.refl _ _)
    refine Jo.jd 8 (some 32) [(some 24, 7)] (Jo.Fact.nm Q 20000) rfl rfl rfl rfl (fun vs wj hJ hd K hK => ?_) ?_
    · have d7 : (Jo.Fact.dv Q R 20000).P (vs 7) wj := hd 7 (by decide)
      simp only [Jo.putl, Jo.zd, Jo.ze, Act.put, Jo.za, Jo.zb, Jo.zc] at hK ⊢
      clear hd
      generalize vs 7 = u7 at hK d7 ⊢
      obtain ⟨A6, n6, c6, B6, m6, d6_, rfl, p6, r6, k6⟩ := d7
      go_simp
      exact hK.out _ _ ⟨A6, n6, c6, rfl, p6, k6⟩ (Below.refl _ _)
    refine Jo.jd 9 (some 33) [(some 24, 7)] (Jo.Fact.nmA R) rfl rfl rfl rfl (fun vs wj hJ hd K hK => ?_) ?_
    · have d7 : (Jo.Fact.dv Q R 20000).P (vs 7) wj := hd 7 (by decide)
      simp only [Jo.putl, Jo.zd, Jo.ze, Act.put, Jo.za, Jo.zb, Jo.zc] at hK ⊢
      clear hd
      generalize vs 7 = u7 at hK d7 ⊢
      obtain ⟨A6, n6, c6, B6, m6, d6_, rfl, p6, r6, k6⟩ := d7
      go_simp
      exact hK.out _ _ ⟨B6, m6, d6_, rfl, r6⟩ (Below.refl _ _)
    refine Jo.jd 10 (some 34) [(some 24, 7)] (Jo.Fact.eq (.bool true)) rfl rfl rfl rfl (fun vs wj hJ hd K hK => ?_) ?_
    · have d7 : (Jo.Fact.dv Q R 20000).P (vs 7) wj := hd 7 (by decide)
      simp only [Jo.putl, Jo.zd, Jo.ze, Act.put, Jo.za, Jo.zb, Jo.zc] at hK ⊢
      clear hd
      generalize vs 7 = u7 at hK d7 ⊢
      obtain ⟨A6, n6, c6, B6, m6, d6_, rfl, p6, r6, k6⟩ := d7
      go_simp
      exact hK.out _ _ rfl (Below.refl _ _)
    refine Jo.jd 11 (some 10) [(some 32, 8)] (Jo.Fact.nm Q 20000) rfl rfl rfl rfl (fun vs wj hJ hd K hK => ?_) ?_
    · have d8 : (Jo.Fact.nm Q 20000).P (vs 8) wj := hd 8 (by decide)
      simp only [Jo.putl, Jo.zd, Jo.ze, Act.put, Jo.za, Jo.zb, Jo.zc] at hK ⊢
      clear hd
      generalize vs 8 = u8 at hK d8 ⊢
      obtain ⟨A8, n8, c8, rfl, p8, k8⟩ := d8
      go_simp
      exact hK.out _ _ ⟨A8, n8, c8, rfl, p8, k8⟩ (Below.refl _ _)
    refine Jo.jd 12 (some 11) [(some 33, 9)] (Jo.Fact.nmA R) rfl rfl rfl rfl (fun vs wj hJ hd K hK => ?_) ?_
    · have d9 : (Jo.Fact.nmA R).P (vs 9) wj := hd 9 (by decide)
      simp only [Jo.putl, Jo.zd, Jo.ze, Act.put, Jo.za, Jo.zb, Jo.zc] at hK ⊢
      clear hd
      generalize vs 9 = u9 at hK d9 ⊢
      obtain ⟨A9, n9, c9, rfl, p9⟩ := d9
      go_simp
      exact hK.out _ _ ⟨A9, n9, c9, rfl, p9⟩ (Below.refl _ _)
    refine Jo.jd 13 (some 12) [(some 34, 10)] (Jo.Fact.eq (.bool true)) rfl rfl rfl rfl (fun vs wj hJ hd K hK => ?_) ?_
    · simp only [Jo.putl, Jo.zd, Jo.ze, Act.put, Jo.za, Jo.zb, Jo.zc] at hK ⊢
      rw [show vs 10 = _ from hd 10 (by decide)] at hK ⊢
      clear hd
      go_simp
      exact hK.out _ _ rfl (Below.refl _ _)
    exact Jo.Steps.nil
  have d3 : (Jo.Fact.nm X 20000).P (vs 3) w4 := hd 3 (by decide)
  have d6 : (Jo.Fact.dv Q R 20000).P (vs 6) w4 := hd 6 (by decide)
  have d7 : (Jo.Fact.dv Q R 20000).P (vs 7) w4 := hd 7 (by decide)
  have d8 : (Jo.Fact.nm Q 20000).P (vs 8) w4 := hd 8 (by decide)
  have d9 : (Jo.Fact.nmA R).P (vs 9) w4 := hd 9 (by decide)
  have d11 : (Jo.Fact.nm Q 20000).P (vs 11) w4 := hd 11 (by decide)
  have d12 : (Jo.Fact.nmA R).P (vs 12) w4 := hd 12 (by decide)
  simp only [Jo.putl, Jo.zd, Jo.ze, Act.put, Jo.za, Jo.zb, Jo.zc]
  rw [show vs 1 = _ from hd 1 (by decide), show vs 2 = _ from hd 2 (by decide), show vs 5 = _ from hd 5 (by decide), show vs 10 = _ from hd 10 (by decide), show vs 13 = _ from hd 13 (by decide)]
  clear hd
  generalize vs 3 = u3 at d3 ⊢
  generalize vs 6 = u6 at d6 ⊢
  generalize vs 7 = u7 at d7 ⊢
  generalize vs 8 = u8 at d8 ⊢
  generalize vs 9 = u9 at d9 ⊢
  generalize vs 11 = u11 at d11 ⊢
  generalize vs 12 = u12 at d12 ⊢
  obtain ⟨_, _, _, rfl, _⟩ := d3
  obtain ⟨_, _, _, _, _, _, rfl, _⟩ := d6
  obtain ⟨_, _, _, _, _, _, rfl, _⟩ := d7
  obtain ⟨_, _, _, rfl, _⟩ := d8
  obtain ⟨_, _, _, rfl, _⟩ := d9
  obtain ⟨A11, n11, c11, rfl, p11, k11⟩ := d11
  obtain ⟨A12, n12, c12, rfl, p12⟩ := d12
  replace X4 := X4.below hJ
  replace X5 := X5.below hJ
  replace XR := XR.below hJ
  replace ha := ha.below hJ
  replace hb := hb.below hJ
  replace HB := Lib.hid (bt HB.out hJ)
  refine Jo.jdone (by kernel_rfl) ?_
  clear ha hb
  have hpos : 0 < n12 := by have := p12.pos; omega
  have hgt : (0 : Int) < n12 := by omega
  have hlen : n12 ≤ 1099511627776 := p12.rd.big
  clear p12
  go_wp2_with fail
  refine (jSticky (d := R) (cut := true) p11.rd (by omega) (decide_eq_true hz) HST.out).mono ?_
  rintro ee w5 ⟨A5, n5, c5, rfl, p5, k5, B⟩
  replace X4 := X4.below B
  replace X5 := X5.below B
  replace XR := XR.below B
  replace p11 := p11.below B
  replace HB := Lib.hid (bt HB.out B)
  clear B
  clear p11
  have xX40 := X4.a 0 (.bool s) rfl
  have xX41 := X4.a 1 (.slice A n c) rfl
  have xX50 := X5.a 0 (.bool t) rfl
  have xX51 := X5.a 1 (.slice B m d) rfl
  go_wp2_with fail
  refine (qMake (!(s == t)) p5.rd).mono ?_
  rintro ee w6 ⟨s7, A7, n7, c7, rfl, p7, k7, B⟩
  clear xX40 xX41 xX50 xX51
  replace X4 := X4.below B
  replace X5 := X5.below B
  replace XR := XR.below B
  replace p5 := p5.below B
  replace HB := Lib.hid (bt HB.out B)
  clear B
  clear p5
  have hw2 := HW2.out
  have hw3 := HW3.out
  go_wp2_with fail
  refine (q3Make p7.wr (by omega) HP1.out HP2.out).mono ?_
  rintro ee w7 ⟨s8, A8, n8, c8, rfl, p8, k8, B⟩
  replace X4 := X4.below B
  replace X5 := X5.below B
  replace XR := XR.below B
  replace p7 := p7.below B
  replace HB := Lib.hid (bt HB.out B)
  clear B
  clear p7 hw2 hw3
  go_wp2_with fail
  refine (yRound p8.wr (by omega) rfl rfl HRR.out).mono ?_
  rintro ee w8 ⟨K9, s9, M9, E9, rfl, q9, B⟩
  replace X4 := X4.below B
  replace X5 := X5.below B
  replace XR := XR.below B
  replace p8 := p8.below B
  replace HB := Lib.hid (bt HB.out B)
  clear B
  have xXR0 := XR.a 0 (.int .i64 0) rfl
  have zXR0 := XR.frozen 0
  have xXR1 := XR.a 1 (.bool false) rfl
  have zXR1 := XR.frozen 1
  have xXR2 := XR.a 2 (.int .u64 0) rfl
  have zXR2 := XR.frozen 2
  have xXR3 := XR.a 3 (.int .i64 0) rfl
  have zXR3 := XR.frozen 3
  go_wp2
  clear xXR0 zXR0 xXR1 zXR1 xXR2 zXR2 xXR3 zXR3
  have SX := StN.mk4 XR (.int .i64 K9) (.bool s9) (.int .u64 M9) (.int .i64 E9)
  replace X4 := X4.stn SX (by omega)
  replace X5 := X5.stn SX (by omega)
  replace HB := Lib.hid (SX.below HB.out (by omega))
  replace XR := SX.box
  clear SX
  generalize (World.setCell (World.setCell (World.setCell (World.setCell w8 ⟨w.heap.size + 1 + 1, 0, none⟩ (.int .i64 K9)) ⟨w.heap.size + 1 + 1, 1, none⟩ (.bool s9)) ⟨w.heap.size + 1 + 1, 2, none⟩ (.int .u64 M9)) ⟨w.heap.size + 1 + 1, 3, none⟩ (.int .i64 E9)) = w9 at *
  have r0 := XR.cell 0
  have r1 := XR.cell 1
  have r2 := XR.cell 2
  have r3 := XR.cell 3
  exact bodyPost_ret (v := .agg #[.int .i64 K9, .bool s9, .int .u64 M9, .int .i64 E9]) (by simp [results, Tryz.results28, go_sem, r0, r1, r2, r3]) rfl ⟨_, _, _, _, rfl, q9, HB.out⟩
set_option maxHeartbeats 8000000 in
theorem jratio_e {w : World} {A B : Option Addr} {n c m d α β : Nat} {s t up : Bool} {e r : Int} (ha : Rd w A n c α) (hb : Rd w B m d β) (hn : n ≤ 3500) (hm : m ≤ 3500) (e1 : -2200000 ≤ e) (e2 : e ≤ 2200000) {Q R : Nat} (h0 : 0 < β) (hQ : α * 2 ^ (70 + blen β) / β = Q) (hR : α * 2 ^ (70 + blen β) % β = R) (hz : R = 0) (hr : Sid up (sgi (s != t) ((α : Int) * 2 ^ (e + (KK : Int)).toNat)) (β : Int) r) : Calls Tryz.prog 28 #[.agg #[.bool s, .slice A n c], .agg #[.bool t, .slice B m d], .int .i64 e, .bool up] w (PN w r) := by
  have hbl := hb.blen_le
  obtain ⟨by_, hby⟩ : ∃ k : Nat, 70 + blen β = k := ⟨_, rfl⟩
  obtain ⟨κ, hκ⟩ : ∃ κ : Nat, κ = 500000 := ⟨_, rfl⟩
  have hsmall := stk_small h0 hby.symm ha.bound hb.bound hn hm hκ
  have hside := ratio_side (σ := (s != t)) (up := up) (e := e) h0 hby.symm hκ hsmall (by omega) (by omega)
  have hru := hside.uniq (by omega) hr
  rw [hby] at hQ hR
  rw [hQ, hR] at hru
  obtain ⟨S, hS⟩ : ∃ S, stk Q R = S := ⟨_, rfl⟩
  rw [hS, ← sg_sgi] at hru
  obtain ⟨X, hX⟩ : ∃ X, α * 2 ^ by_ = X := ⟨_, rfl⟩
  rw [hX] at hQ hR
  obtain ⟨b, hb2⟩ : ∃ b : Int, (by_ : Int) = b := ⟨_, rfl⟩
  rw [hb2] at hru
  obtain ⟨L, hL⟩ : ∃ L : Int, ((blen β : Nat) : Int) = L := ⟨_, rfl⟩
  have hLb : 70 + L = b := by omega
  have hb3 : 70 ≤ b ∧ b ≤ 200000 := by omega
  obtain ⟨P, hP⟩ : ∃ P, mk (sg (s != t) S) (e - b - 1) = P := ⟨_, rfl⟩
  rw [hP] at hru
  have hPn : mk P.1 P.2 = P := by rw [← hP]; exact mk_nf _ _
  have HRR := Lib.hid (show rnd up (mk P.1 P.2).1 (mk P.1 P.2).2 = r by rw [hPn]; exact hru)
  have HP1 : Hid ((mk (sg (!(s == t)) S) (e - b - 1)).1 = P.1) := Lib.hid (by rw [← hP]; rfl)
  have HP2 : Hid ((mk (sg (!(s == t)) S) (e - b - 1)).2 = P.2) := Lib.hid (by rw [← hP]; rfl)
  have HL := Lib.hid hL
  have HW1 : Hid (IntKind.i64.wrap (70 + L) = b) := Lib.hid (by rw [hLb]; exact IntWalk.i64_in _ (by omega))
  have HW2 : Hid (IntKind.i64.wrap (e - b) = e - b) := Lib.hid (IntWalk.i64_in _ (by omega))
  have HW3 : Hid (IntKind.i64.wrap (e - b - 1) = e - b - 1) := Lib.hid (IntWalk.i64_in _ (by omega))
  have hbt : b.toNat = by_ := by omega
  have HX : Hid (α * 2 ^ b.toNat = X) := Lib.hid (by rw [hbt]; exact hX)
  have HQ := Lib.hid hQ
  have HRM := Lib.hid hR
  have HST := Lib.hid hS
  have hn0 : β ≠ 0 := by omega
  obtain ⟨σ, hσ⟩ : ∃ σ, cmpI (sg t β) 0 = σ := ⟨_, rfl⟩
  have hs0 : (σ == 0) = false := by
    have : σ ≠ 0 := by
      rw [← hσ]
      rcases sg_cases t β with ⟨a, _⟩ | ⟨_, _, a⟩ | ⟨_, _, a⟩
      · omega
      · rw [a]; decide
      · rw [a]; decide
    simpa using this
  have HS := Lib.hid hσ
  have hXn : n + b.toNat / 32 + 1 ≤ 20000 := by omega
  clear hside hr hru hsmall hbl hL hLb hX hb2 hP hPn hQ hR hS hby hκ hbt hσ
  go_enter Tryz.func28, Tryz.ntmps28
  go_upto_region 1 with (fail)
  have X4 := (Bo.newAt w (g := w.heap.size) (by simp) #[.bool s, .slice A n c] 34).below (bel2 _ (.cells #[.bool t, .slice B m d] 34) (.cells #[.int .i64 0, .bool false, .int .u64 0, .int .i64 0] 24))
  have X5 := (Bo.newAt (w.alloc (.cells #[.bool s, .slice A n c] 34)) (g := w.heap.size + 1) (by simp) #[.bool t, .slice B m d] 34).below (bel1 _ (.cells #[.int .i64 0, .bool false, .int .u64 0, .int .i64 0] 24))
  have XR := (Bo.newAt ((w.alloc (.cells #[.bool s, .slice A n c] 34)).alloc (.cells #[.bool t, .slice B m d] 34)) (g := w.heap.size + 1 + 1) (by simp) #[.int .i64 0, .bool false, .int .u64 0, .int .i64 0] 24)
  have HB := Lib.hid (bel3 w (.cells #[.bool s, .slice A n c] 34) (.cells #[.bool t, .slice B m d] 34) (.cells #[.int .i64 0, .bool false, .int .u64 0, .int .i64 0] 24))
  replace ha := ha.below HB.out
  replace hb := hb.below HB.out
  generalize hW1 : (((w.alloc (.cells #[.bool s, .slice A n c] 34)).alloc (.cells #[.bool t, .slice B m d] 34)).alloc (.cells #[.int .i64 0, .bool false, .int .u64 0, .int .i64 0] 24)) = w1 at *
  clear hW1
  have xX50 := X5.a 0 (.bool t) rfl
  have xX51 := X5.a 1 (.slice B m d) rfl
  go_wp2_with fail
  refine (qSign (hb.wr t) HS.out).mono ?_
  rintro ee w2 ⟨rfl, B⟩
  clear xX50 xX51
  replace X4 := X4.below B
  replace X5 := X5.below B
  replace XR := XR.below B
  replace ha := ha.below B
  replace hb := hb.below B
  replace HB := Lib.hid (bt HB.out B)
  clear B
  have xX50 := X5.a 0 (.bool t) rfl
  have xX51 := X5.a 1 (.slice B m d) rfl
  go_wp2_with fail
  refine (rLen hb HL.out).mono ?_
  rintro ee w3 ⟨rfl, B⟩
  clear xX50 xX51
  replace X4 := X4.below B
  replace X5 := X5.below B
  replace XR := XR.below B
  replace ha := ha.below B
  replace hb := hb.below B
  replace HB := Lib.hid (bt HB.out B)
  clear B
  have hw1 := HW1.out
  go_upto_region 4 with (fail)
  clear hw1
  refine Jo.region_joint (T := [0, 1, 2, 3, 4, 5, 6, 7, 8, 9, 10, 11, 12, 13]) (ds := [some 25, some 26, some 27, some 28, some 29, some 30, some 31, some 24, some 32, some 33, some 34, some 10, some 11, some 12]) (ls := [[], [0], [], [1, 2], [], [4], [3, 5], [6], [7], [7], [7], [8], [9], [10]]) (k := 14) (L := [(some 25, 0), (some 26, 1), (some 27, 2), (some 28, 3), (some 29, 4), (some 30, 5), (some 31, 6), (some 24, 7), (some 32, 8), (some 33, 9), (some 34, 10), (some 10, 11), (some 11, 12), (some 12, 13)]) (fuel := 0) (J := fun wj => Below (World.heap w3).size w3 wj)
    (F := [Jo.Fact.eq (.pointer (some ⟨w.heap.size, 1, none⟩)), Jo.Fact.eq (.slice A n c), Jo.Fact.eq (.int .i64 b), Jo.Fact.nm X 20000, Jo.Fact.eq (.pointer (some ⟨w.heap.size + 1, 1, none⟩)), Jo.Fact.eq (.slice B m d), Jo.Fact.dv Q R 20000, Jo.Fact.dv Q R 20000, Jo.Fact.nm Q 20000, Jo.Fact.nmA R, Jo.Fact.eq (.bool true), Jo.Fact.nm Q 20000, Jo.Fact.nmA R, Jo.Fact.eq (.bool true)])
    (by kernel_rfl) (by kernel_rfl) (by decide) rfl rfl (fun _ _ h b => bt h b) ((Below.refl _ _).drew) ?_ (fun vs w4 hJ hd => ?_)
  · refine Jo.jd 0 (some 25) [] (Jo.Fact.eq (.pointer (some ⟨w.heap.size, 1, none⟩))) rfl rfl rfl rfl (fun vs wj hJ hd K hK => ?_) ?_
    · simp only [Jo.putl, Jo.ze, Act.put, Jo.za, Jo.zb, Jo.zc] at hK ⊢
      clear hd
      go_simp
      exact hK.out _ _ rfl (Below.refl _ _)
    refine Jo.jd 1 (some 26) [(some 25, 0)] (Jo.Fact.eq (.slice A n c)) rfl rfl rfl rfl (fun vs wj hJ hd K hK => ?_) ?_
    · simp only [Jo.putl, Jo.zd, Jo.ze, Act.put, Jo.za, Jo.zb, Jo.zc] at hK ⊢
      rw [show vs 0 = _ from hd 0 (by decide)] at hK ⊢
      clear hd
      have xX41 := (X4.below hJ).a 1 (.slice A n c) rfl
      go_simp
      exact hK.out _ _ rfl (Below.refl _ _)
    refine Jo.jd 2 (some 27) [] (Jo.Fact.eq (.int .i64 b)) rfl rfl rfl rfl (fun vs wj hJ hd K hK => ?_) ?_
    · simp only [Jo.putl, Jo.ze, Act.put, Jo.za, Jo.zb, Jo.zc] at hK ⊢
      clear hd
      go_simp
      exact hK.out _ _ rfl (Below.refl _ _)
    refine Jo.jd 3 (some 28) [(some 26, 1), (some 27, 2)] (Jo.Fact.nm X 20000) rfl rfl rfl rfl (fun vs wj hJ hd K hK => ?_) ?_
    · simp only [Jo.putl, Jo.zd, Jo.ze, Act.put, Jo.za, Jo.zb, Jo.zc] at hK ⊢
      rw [show vs 1 = _ from hd 1 (by decide), show vs 2 = _ from hd 2 (by decide)] at hK ⊢
      clear hd
      go_simp
      refine (rShlN (z := b) (ha.below hJ) (by omega) (by omega) (by omega) HX.out).mono ?_
      rintro ee wk ⟨A3, n3, c3, rfl, p3, k3, B⟩
      exact hK.out _ _ ⟨A3, n3, c3, rfl, p3, Nat.le_trans k3 hXn⟩ B
    refine Jo.jd 4 (some 29) [] (Jo.Fact.eq (.pointer (some ⟨w.heap.size + 1, 1, none⟩))) rfl rfl rfl rfl (fun vs wj hJ hd K hK => ?_) ?_
    · simp only [Jo.putl, Jo.ze, Act.put, Jo.za, Jo.zb, Jo.zc] at hK ⊢
      clear hd
      go_simp
      exact hK.out _ _ rfl (Below.refl _ _)
    refine Jo.jd 5 (some 30) [(some 29, 4)] (Jo.Fact.eq (.slice B m d)) rfl rfl rfl rfl (fun vs wj hJ hd K hK => ?_) ?_
    · simp only [Jo.putl, Jo.zd, Jo.ze, Act.put, Jo.za, Jo.zb, Jo.zc] at hK ⊢
      rw [show vs 4 = _ from hd 4 (by decide)] at hK ⊢
      clear hd
      have xX51 := (X5.below hJ).a 1 (.slice B m d) rfl
      go_simp
      exact hK.out _ _ rfl (Below.refl _ _)
    refine Jo.jd 6 (some 31) [(some 28, 3), (some 30, 5)] (Jo.Fact.dv Q R 20000) rfl rfl rfl rfl (fun vs wj hJ hd K hK => ?_) ?_
    · have d3 : (Jo.Fact.nm X 20000).P (vs 3) wj := hd 3 (by decide)
      simp only [Jo.putl, Jo.zd, Jo.ze, Act.put, Jo.za, Jo.zb, Jo.zc] at hK ⊢
      rw [show vs 5 = _ from hd 5 (by decide)] at hK ⊢
      clear hd
      generalize vs 3 = u3 at hK d3 ⊢
      obtain ⟨A3, n3, c3, rfl, p3, k3⟩ := d3
      go_simp
      refine (jDivE p3.rd (hb.below hJ) (by omega) (by omega) hn0 HQ.out HRM.out).mono ?_
      rintro ee wk ⟨A6, n6, c6, B6, m6, d6_, rfl, p6, r6, k6, l6, B⟩
      exact hK.out _ _ ⟨A6, n6, c6, B6, m6, d6_, rfl, p6, r6, Nat.le_trans k6 k3⟩ B
    refine Jo.jd 7 (some 24) [(some 31, 6)] (Jo.Fact.dv Q R 20000) rfl rfl rfl rfl (fun vs wj hJ hd K hK => ?_) ?_
    · have d6 : (Jo.Fact.dv Q R 20000).P (vs 6) wj := hd 6 (by decide)
      simp only [Jo.putl, Jo.zd, Jo.ze, Act.put, Jo.za, Jo.zb, Jo.zc] at hK ⊢
      clear hd
      generalize vs 6 = u6 at hK d6 ⊢
      obtain ⟨A6, n6, c6, B6, m6, d6_, rfl, p6, r6, k6⟩ := d6
      go_simp
      exact hK.out _ _ ⟨A6, n6, c6, B6, m6, d6_, rfl, p6, r6, k6⟩ (Below.refl _ _)
    refine Jo.jd 8 (some 32) [(some 24, 7)] (Jo.Fact.nm Q 20000) rfl rfl rfl rfl (fun vs wj hJ hd K hK => ?_) ?_
    · have d7 : (Jo.Fact.dv Q R 20000).P (vs 7) wj := hd 7 (by decide)
      simp only [Jo.putl, Jo.zd, Jo.ze, Act.put, Jo.za, Jo.zb, Jo.zc] at hK ⊢
      clear hd
      generalize vs 7 = u7 at hK d7 ⊢
      obtain ⟨A6, n6, c6, B6, m6, d6_, rfl, p6, r6, k6⟩ := d7
      go_simp
      exact hK.out _ _ ⟨A6, n6, c6, rfl, p6, k6⟩ (Below.refl _ _)
    refine Jo.jd 9 (some 33) [(some 24, 7)] (Jo.Fact.nmA R) rfl rfl rfl rfl (fun vs wj hJ hd K hK => ?_) ?_
    · have d7 : (Jo.Fact.dv Q R 20000).P (vs 7) wj := hd 7 (by decide)
      simp only [Jo.putl, Jo.zd, Jo.ze, Act.put, Jo.za, Jo.zb, Jo.zc] at hK ⊢
      clear hd
      generalize vs 7 = u7 at hK d7 ⊢
      obtain ⟨A6, n6, c6, B6, m6, d6_, rfl, p6, r6, k6⟩ := d7
      go_simp
      exact hK.out _ _ ⟨B6, m6, d6_, rfl, r6⟩ (Below.refl _ _)
    refine Jo.jd 10 (some 34) [(some 24, 7)] (Jo.Fact.eq (.bool true)) rfl rfl rfl rfl (fun vs wj hJ hd K hK => ?_) ?_
    · have d7 : (Jo.Fact.dv Q R 20000).P (vs 7) wj := hd 7 (by decide)
      simp only [Jo.putl, Jo.zd, Jo.ze, Act.put, Jo.za, Jo.zb, Jo.zc] at hK ⊢
      clear hd
      generalize vs 7 = u7 at hK d7 ⊢
      obtain ⟨A6, n6, c6, B6, m6, d6_, rfl, p6, r6, k6⟩ := d7
      go_simp
      exact hK.out _ _ rfl (Below.refl _ _)
    refine Jo.jd 11 (some 10) [(some 32, 8)] (Jo.Fact.nm Q 20000) rfl rfl rfl rfl (fun vs wj hJ hd K hK => ?_) ?_
    · have d8 : (Jo.Fact.nm Q 20000).P (vs 8) wj := hd 8 (by decide)
      simp only [Jo.putl, Jo.zd, Jo.ze, Act.put, Jo.za, Jo.zb, Jo.zc] at hK ⊢
      clear hd
      generalize vs 8 = u8 at hK d8 ⊢
      obtain ⟨A8, n8, c8, rfl, p8, k8⟩ := d8
      go_simp
      exact hK.out _ _ ⟨A8, n8, c8, rfl, p8, k8⟩ (Below.refl _ _)
    refine Jo.jd 12 (some 11) [(some 33, 9)] (Jo.Fact.nmA R) rfl rfl rfl rfl (fun vs wj hJ hd K hK => ?_) ?_
    · have d9 : (Jo.Fact.nmA R).P (vs 9) wj := hd 9 (by decide)
      simp only [Jo.putl, Jo.zd, Jo.ze, Act.put, Jo.za, Jo.zb, Jo.zc] at hK ⊢
      clear hd
      generalize vs 9 = u9 at hK d9 ⊢
      obtain ⟨A9, n9, c9, rfl, p9⟩ := d9
      go_simp
      exact hK.out _ _ ⟨A9, n9, c9, rfl, p9⟩ (Below.refl _ _)
    refine Jo.jd 13 (some 12) [(some 34, 10)] (Jo.Fact.eq (.bool true)) rfl rfl rfl rfl (fun vs wj hJ hd K hK => ?_) ?_
    · simp only [Jo.putl, Jo.zd, Jo.ze, Act.put, Jo.za, Jo.zb, Jo.zc] at hK ⊢
      rw [show vs 10 = _ from hd 10 (by decide)] at hK ⊢
      clear hd
      go_simp
      exact hK.out _ _ rfl (Below.refl _ _)
    exact Jo.Steps.nil
  have d3 : (Jo.Fact.nm X 20000).P (vs 3) w4 := hd 3 (by decide)
  have d6 : (Jo.Fact.dv Q R 20000).P (vs 6) w4 := hd 6 (by decide)
  have d7 : (Jo.Fact.dv Q R 20000).P (vs 7) w4 := hd 7 (by decide)
  have d8 : (Jo.Fact.nm Q 20000).P (vs 8) w4 := hd 8 (by decide)
  have d9 : (Jo.Fact.nmA R).P (vs 9) w4 := hd 9 (by decide)
  have d11 : (Jo.Fact.nm Q 20000).P (vs 11) w4 := hd 11 (by decide)
  have d12 : (Jo.Fact.nmA R).P (vs 12) w4 := hd 12 (by decide)
  simp only [Jo.putl, Jo.zd, Jo.ze, Act.put, Jo.za, Jo.zb, Jo.zc]
  rw [show vs 1 = _ from hd 1 (by decide), show vs 2 = _ from hd 2 (by decide), show vs 5 = _ from hd 5 (by decide), show vs 10 = _ from hd 10 (by decide), show vs 13 = _ from hd 13 (by decide)]
  clear hd
  generalize vs 3 = u3 at d3 ⊢
  generalize vs 6 = u6 at d6 ⊢
  generalize vs 7 = u7 at d7 ⊢
  generalize vs 8 = u8 at d8 ⊢
  generalize vs 9 = u9 at d9 ⊢
  generalize vs 11 = u11 at d11 ⊢
  generalize vs 12 = u12 at d12 ⊢
  obtain ⟨_, _, _, rfl, _⟩ := d3
  obtain ⟨_, _, _, _, _, _, rfl, _⟩ := d6
  obtain ⟨_, _, _, _, _, _, rfl, _⟩ := d7
  obtain ⟨_, _, _, rfl, _⟩ := d8
  obtain ⟨_, _, _, rfl, _⟩ := d9
  obtain ⟨A11, n11, c11, rfl, p11, k11⟩ := d11
  obtain ⟨A12, n12, c12, rfl, p12⟩ := d12
  replace X4 := X4.below hJ
  replace X5 := X5.below hJ
  replace XR := XR.below hJ
  replace ha := ha.below hJ
  replace hb := hb.below hJ
  replace HB := Lib.hid (bt HB.out hJ)
  refine Jo.jdone (by kernel_rfl) ?_
  clear ha hb
  subst hz
  obtain rfl : n12 = 0 := by have := p12.pos; omega
  clear p12
  go_wp2_with fail
  refine (jSticky (d := 0) (cut := false) p11.rd (by omega) (by decide) HST.out).mono ?_
  rintro ee w5 ⟨A5, n5, c5, rfl, p5, k5, B⟩
  replace X4 := X4.below B
  replace X5 := X5.below B
  replace XR := XR.below B
  replace p11 := p11.below B
  replace HB := Lib.hid (bt HB.out B)
  clear B
  clear p11
  have xX40 := X4.a 0 (.bool s) rfl
  have xX41 := X4.a 1 (.slice A n c) rfl
  have xX50 := X5.a 0 (.bool t) rfl
  have xX51 := X5.a 1 (.slice B m d) rfl
  go_wp2_with fail
  refine (qMake (!(s == t)) p5.rd).mono ?_
  rintro ee w6 ⟨s7, A7, n7, c7, rfl, p7, k7, B⟩
  clear xX40 xX41 xX50 xX51
  replace X4 := X4.below B
  replace X5 := X5.below B
  replace XR := XR.below B
  replace p5 := p5.below B
  replace HB := Lib.hid (bt HB.out B)
  clear B
  clear p5
  have hw2 := HW2.out
  have hw3 := HW3.out
  go_wp2_with fail
  refine (q3Make p7.wr (by omega) HP1.out HP2.out).mono ?_
  rintro ee w7 ⟨s8, A8, n8, c8, rfl, p8, k8, B⟩
  replace X4 := X4.below B
  replace X5 := X5.below B
  replace XR := XR.below B
  replace p7 := p7.below B
  replace HB := Lib.hid (bt HB.out B)
  clear B
  clear p7 hw2 hw3
  go_wp2_with fail
  refine (yRound p8.wr (by omega) rfl rfl HRR.out).mono ?_
  rintro ee w8 ⟨K9, s9, M9, E9, rfl, q9, B⟩
  replace X4 := X4.below B
  replace X5 := X5.below B
  replace XR := XR.below B
  replace p8 := p8.below B
  replace HB := Lib.hid (bt HB.out B)
  clear B
  have xXR0 := XR.a 0 (.int .i64 0) rfl
  have zXR0 := XR.frozen 0
  have xXR1 := XR.a 1 (.bool false) rfl
  have zXR1 := XR.frozen 1
  have xXR2 := XR.a 2 (.int .u64 0) rfl
  have zXR2 := XR.frozen 2
  have xXR3 := XR.a 3 (.int .i64 0) rfl
  have zXR3 := XR.frozen 3
  go_wp2
  clear xXR0 zXR0 xXR1 zXR1 xXR2 zXR2 xXR3 zXR3
  have SX := StN.mk4 XR (.int .i64 K9) (.bool s9) (.int .u64 M9) (.int .i64 E9)
  replace X4 := X4.stn SX (by omega)
  replace X5 := X5.stn SX (by omega)
  replace HB := Lib.hid (SX.below HB.out (by omega))
  replace XR := SX.box
  clear SX
  generalize (World.setCell (World.setCell (World.setCell (World.setCell w8 ⟨w.heap.size + 1 + 1, 0, none⟩ (.int .i64 K9)) ⟨w.heap.size + 1 + 1, 1, none⟩ (.bool s9)) ⟨w.heap.size + 1 + 1, 2, none⟩ (.int .u64 M9)) ⟨w.heap.size + 1 + 1, 3, none⟩ (.int .i64 E9)) = w9 at *
  have r0 := XR.cell 0
  have r1 := XR.cell 1
  have r2 := XR.cell 2
  have r3 := XR.cell 3
  exact bodyPost_ret (v := .agg #[.int .i64 K9, .bool s9, .int .u64 M9, .int .i64 E9]) (by simp [results, Tryz.results28, go_sem, r0, r1, r2, r3]) rfl ⟨_, _, _, _, rfl, q9, HB.out⟩
theorem jRatio0 {w : World} {A B : Option Addr} {n c m d α β : Nat} {s t up : Bool} {e r : Int} (ha : Rd w A n c α) (hb : Rd w B m d β) (hn : n ≤ 3500) (hm : m ≤ 3500) (e1 : -2200000 ≤ e) (e2 : e ≤ 2200000) (h0 : 0 < β) (hr : Sid up (sgi (s != t) ((α : Int) * 2 ^ (e + (KK : Int)).toNat)) (β : Int) r) : Calls Tryz.prog 28 #[.agg #[.bool s, .slice A n c], .agg #[.bool t, .slice B m d], .int .i64 e, .bool up] w (PN w r) := by
  by_cases hz : α * 2 ^ (70 + blen β) % β = 0
  · exact jratio_e ha hb hn hm e1 e2 h0 rfl rfl hz hr
  · exact jratio_l ha hb hn hm e1 e2 h0 rfl rfl hz hr
set_option maxHeartbeats 2000000 in
theorem jRatio {w : World} {A B : Option Addr} {n c m d : Nat} {s t up : Bool} {z y r : Int} (h : Wr w s A n c z) (k : Wr w t B m d y) (hn : n ≤ 3500) (hm : m ≤ 3500) (hr : Rq up z y r) : Calls Tryz.prog 13 #[.agg #[.bool s, .slice A n c], .agg #[.bool t, .slice B m d], .bool up] w (PN w r) := by
  obtain ⟨α, ha, hz⟩ := h
  obtain ⟨β, hb, hy⟩ := k
  have hside : (β = 0 ∧ sgi (!up) TP = r) ∨ (0 < β ∧ Sid up (sgi (s != t) ((α : Int) * 2 ^ (0 + (KK : Int)).toNat)) (β : Int) r) := by
    rw [sg_sgi] at hz hy
    rcases Nat.eq_zero_or_pos β with e | e
    · left
      subst e
      have : y = 0 := by rw [← hy]; cases t <;> rfl
      subst this
      exact ⟨rfl, (rq_none.1 hr).symm⟩
    · right
      obtain ⟨r', hr'⟩ := sid_ex up (sgi (s != t) ((α : Int) * 2 ^ (0 + (KK : Int)).toNat)) (show (0 : Int) < (β : Int) by omega)
      have := rq_of e hr'
      rw [hz, hy] at this
      rw [hr.uniq this]
      exact ⟨e, hr'⟩
  clear hz hy hr
  go_enter Tryz.func13, Tryz.ntmps13
  go_upto_region 1 with (fail)
  have X3 := (Bo.newAt w (g := w.heap.size) (by simp) #[.bool s, .slice A n c] 34).below (bel2 _ (.cells #[.bool t, .slice B m d] 34) (.cells #[.int .i64 0, .bool false, .int .u64 0, .int .i64 0] 24))
  have X4 := (Bo.newAt (w.alloc (.cells #[.bool s, .slice A n c] 34)) (g := w.heap.size + 1) (by simp) #[.bool t, .slice B m d] 34).below (bel1 _ (.cells #[.int .i64 0, .bool false, .int .u64 0, .int .i64 0] 24))
  have XR := (Bo.newAt ((w.alloc (.cells #[.bool s, .slice A n c] 34)).alloc (.cells #[.bool t, .slice B m d] 34)) (g := w.heap.size + 1 + 1) (by simp) #[.int .i64 0, .bool false, .int .u64 0, .int .i64 0] 24)
  have HB := Lib.hid (bel3 w (.cells #[.bool s, .slice A n c] 34) (.cells #[.bool t, .slice B m d] 34) (.cells #[.int .i64 0, .bool false, .int .u64 0, .int .i64 0] 24))
  replace ha := ha.below HB.out
  replace hb := hb.below HB.out
  generalize hW1 : (((w.alloc (.cells #[.bool s, .slice A n c] 34)).alloc (.cells #[.bool t, .slice B m d] 34)).alloc (.cells #[.int .i64 0, .bool false, .int .u64 0, .int .i64 0] 24)) = w1 at *
  clear hW1
  rcases hside with ⟨h0, hr⟩ | ⟨h0, hr⟩
  · have xX30 := X3.a 0 (.bool s) rfl
    have xX31 := X3.a 1 (.slice A n c) rfl
    have xX40 := X4.a 0 (.bool t) rfl
    have xX41 := X4.a 1 (.slice B m d) rfl
    go_wp2_with fail
    refine (jratio_z ha hb hn hm (by decide) (by decide) h0 hr).mono ?_
    rintro ee w2 ⟨K1, s1, M1, E1, rfl, q1, B⟩
    clear xX30 xX31 xX40 xX41
    replace X3 := X3.below B
    replace X4 := X4.below B
    replace XR := XR.below B
    replace ha := ha.below B
    replace hb := hb.below B
    replace HB := Lib.hid (bt HB.out B)
    clear B
    have xXR0 := XR.a 0 (.int .i64 0) rfl
    have zXR0 := XR.frozen 0
    have xXR1 := XR.a 1 (.bool false) rfl
    have zXR1 := XR.frozen 1
    have xXR2 := XR.a 2 (.int .u64 0) rfl
    have zXR2 := XR.frozen 2
    have xXR3 := XR.a 3 (.int .i64 0) rfl
    have zXR3 := XR.frozen 3
    go_wp2
    clear xXR0 zXR0 xXR1 zXR1 xXR2 zXR2 xXR3 zXR3
    have SX := StN.mk4 XR (.int .i64 K1) (.bool s1) (.int .u64 M1) (.int .i64 E1)
    replace X3 := X3.stn SX (by omega)
    replace X4 := X4.stn SX (by omega)
    replace HB := Lib.hid (SX.below HB.out (by omega))
    replace XR := SX.box
    clear SX
    generalize (World.setCell (World.setCell (World.setCell (World.setCell w2 ⟨w.heap.size + 1 + 1, 0, none⟩ (.int .i64 K1)) ⟨w.heap.size + 1 + 1, 1, none⟩ (.bool s1)) ⟨w.heap.size + 1 + 1, 2, none⟩ (.int .u64 M1)) ⟨w.heap.size + 1 + 1, 3, none⟩ (.int .i64 E1)) = w3 at *
    have r0 := XR.cell 0
    have r1 := XR.cell 1
    have r2 := XR.cell 2
    have r3 := XR.cell 3
    exact bodyPost_ret (v := .agg #[.int .i64 K1, .bool s1, .int .u64 M1, .int .i64 E1]) (by simp [results, Tryz.results13, go_sem, r0, r1, r2, r3]) rfl ⟨_, _, _, _, rfl, q1, HB.out⟩
  · have HR := Lib.hid hr
    clear hr
    have xX30 := X3.a 0 (.bool s) rfl
    have xX31 := X3.a 1 (.slice A n c) rfl
    have xX40 := X4.a 0 (.bool t) rfl
    have xX41 := X4.a 1 (.slice B m d) rfl
    go_wp2_with fail
    refine (jRatio0 ha hb hn hm (by decide) (by decide) h0 HR.out).mono ?_
    rintro ee w2 ⟨K1, s1, M1, E1, rfl, q1, B⟩
    clear xX30 xX31 xX40 xX41
    replace X3 := X3.below B
    replace X4 := X4.below B
    replace XR := XR.below B
    replace ha := ha.below B
    replace hb := hb.below B
    replace HB := Lib.hid (bt HB.out B)
    clear B
    have xXR0 := XR.a 0 (.int .i64 0) rfl
    have zXR0 := XR.frozen 0
    have xXR1 := XR.a 1 (.bool false) rfl
    have zXR1 := XR.frozen 1
    have xXR2 := XR.a 2 (.int .u64 0) rfl
    have zXR2 := XR.frozen 2
    have xXR3 := XR.a 3 (.int .i64 0) rfl
    have zXR3 := XR.frozen 3
    go_wp2
    clear xXR0 zXR0 xXR1 zXR1 xXR2 zXR2 xXR3 zXR3
    have SX := StN.mk4 XR (.int .i64 K1) (.bool s1) (.int .u64 M1) (.int .i64 E1)
    replace X3 := X3.stn SX (by omega)
    replace X4 := X4.stn SX (by omega)
    replace HB := Lib.hid (SX.below HB.out (by omega))
    replace XR := SX.box
    clear SX
    generalize (World.setCell (World.setCell (World.setCell (World.setCell w2 ⟨w.heap.size + 1 + 1, 0, none⟩ (.int .i64 K1)) ⟨w.heap.size + 1 + 1, 1, none⟩ (.bool s1)) ⟨w.heap.size + 1 + 1, 2, none⟩ (.int .u64 M1)) ⟨w.heap.size + 1 + 1, 3, none⟩ (.int .i64 E1)) = w3 at *
    have r0 := XR.cell 0
    have r1 := XR.cell 1
    have r2 := XR.cell 2
    have r3 := XR.cell 3
    exact bodyPost_ret (v := .agg #[.int .i64 K1, .bool s1, .int .u64 M1, .int .i64 E1]) (by simp [results, Tryz.results13, go_sem, r0, r1, r2, r3]) rfl ⟨_, _, _, _, rfl, q1, HB.out⟩
end Go.Proofs.YtpmakljahhhnfaaGreatDoor

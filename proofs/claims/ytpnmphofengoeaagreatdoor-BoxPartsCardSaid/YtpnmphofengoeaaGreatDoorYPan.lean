/-
  Contracts and words that the statement's proof rests on: Qc, Dc, Dd, Vm.
-/
import Derived.StillTailTactics
import Derived.Test.YtpnmphofengoeaaGreatDoorYPal
import Derived.Test.YtpnmphofengoeaaGreatDoorYPam
namespace Go.Proofs.YtpnmphofengoeaaGreatDoor
open Go.RowKit
set_option linter.unusedVariables false

set_option maxHeartbeats 2000000 in
theorem qTwo {w : World} {A B : Option Addr} {n c m d : Nat} {s t : Bool} {x y r : Int} (h : Wr w s A n c x) (k : Wr w t B m d y) (hn : n ≤ 268435456) (hm : m ≤ 268435456) (hr : x * y = r) :
    Calls Tryz.prog 105 #[.agg #[.bool s, .slice A n c], .agg #[.bool t, .slice B m d]] w (W1 w (n + m) r) := by
  obtain ⟨a, h, e1⟩ := h; obtain ⟨b, k, e2⟩ := k
  have HR : Hid (sg (s != t) (a * b) = r) := Lib.hid (by rw [← hr, ← e1, ← e2]; exact sg_mul s t a b)
  clear hr e1 e2
  go_enter Tryz.func105, Tryz.ntmps105
  go_wp2; obtain ⟨X1, X2, X3, B0⟩ := box3 w s t A B n c m d rfl; replace h := h.below B0; replace k := k.below B0; have HB := Lib.hid B0; clear B0; have x10 := X1.cell0; have x11 := X1.cell1; have x20 := X2.cell0; have x21 := X2.cell1
  go_region_held3 (fun w' => w'.cell? ⟨w.heap.size, 0, none⟩ = some (.bool s) ∧ w'.cell? ⟨w.heap.size, 1, none⟩ = some (.slice A n c) ∧ w'.cell? ⟨w.heap.size + 1, 0, none⟩ = some (.bool t) ∧ w'.cell? ⟨w.heap.size + 1, 1, none⟩ = some (.slice B m d))
    (first | with_reducible exact ⟨x10, x11, x20, x21⟩ | with_reducible exact ⟨X1.cell0, X1.cell1, X2.cell0, X2.cell1⟩ | with_reducible exact ⟨X1.drew.cell0, X1.drew.cell1, X2.drew.cell0, X2.drew.cell1⟩ | with_reducible exact ⟨(X1.far (Nat.ne_of_lt (Nat.lt_succ_of_lt (Nat.lt_succ_self _))) _ _).cell0, (X1.far (Nat.ne_of_lt (Nat.lt_succ_of_lt (Nat.lt_succ_self _))) _ _).cell1, (X2.far (Nat.ne_of_lt (Nat.lt_succ_self _)) _ _).cell0, (X2.far (Nat.ne_of_lt (Nat.lt_succ_self _)) _ _).cell1⟩)
    (first
      | (go_at_call 108; ((with_reducible refine (rMul h.drew k.drew hn hm rfl).mono ?_); rintro e w1 ⟨A1, n1, c1, rfl, h1, k1, B1⟩; clear x10 x11 x20 x21; replace X1 := X1.drew.below B1; replace X2 := X2.drew.below B1; replace X3 := X3.drew.below B1; replace HB := Lib.hid (bt HB.out.drew B1); clear B1))
      | (go_at_call 90; ((with_reducible refine (qMake (!(s == t)) h1.rd).mono ?_); rintro e w2 ⟨s2, A2, n2, c2, rfl, h2, k2, B2⟩; replace X1 := X1.below B2; replace X2 := X2.below B2; replace X3 := X3.below B2; replace HB := Lib.hid (bt HB.out B2); clear B2; have y30 := X3.cell0; have y31 := X3.cell1; have f30 := X3.frozen 0; have f31 := X3.frozen 1)))
  go_wp2; exact bodyPost_ret (v := .agg #[.bool s2, .slice A2 n2 c2]) (by simp [results, Tryz.results105, go_sem, X3.cell0, X3.cell1]) rfl ⟨s2, A2, n2, c2, rfl, HR.out ▸ h2.st X3 _ _, by omega, st2 HB.out (by omega) _ _⟩

end Go.Proofs.YtpnmphofengoeaaGreatDoor

namespace Go.Proofs.YtpnmphofengoeaaGreatDoor
open Go.RowKit
set_option linter.unusedVariables false

section
variable {w : World} {g : Nat} {a b c : Value} {T : TypeId}
theorem Bo.c0 (h : Bo w g #[a, b, c] T) : w.cell? ⟨g, 0, none⟩ = some a := h.cell 0
theorem Bo.c1 (h : Bo w g #[a, b, c] T) : w.cell? ⟨g, 1, none⟩ = some b := h.cell 1
theorem Bo.c2 (h : Bo w g #[a, b, c] T) : w.cell? ⟨g, 2, none⟩ = some c := h.cell 2
theorem Bo.far3 {cs : Array Value} (h : Bo w g cs T) {k : Nat} (hk : g ≠ k) (u v t : Value) : Bo (((w.setCell ⟨k, 0, none⟩ u).setCell ⟨k, 1, none⟩ v).setCell ⟨k, 2, none⟩ t) g cs T := ((h.far hk 0 u).far hk 1 v).far hk 2 t
end
theorem dbox3 (w : World) (s t : Bool) (A B : Option Addr) (n c m d : Nat) (e f : Int) {W : World} (hW : W = ((w.alloc (.cells #[.bool s, .slice A n c, .int .i64 e] 83)).alloc (.cells #[.bool t, .slice B m d, .int .i64 f] 83)).alloc (.cells #[.bool false, .slice none 0 0, .int .i64 0] 83)) :
    Bd W w.heap.size s A n c e ∧ Bd W (w.heap.size + 1) t B m d f ∧ Bd W (w.heap.size + 1 + 1) false none 0 0 0 ∧ Below w.heap.size w W := by
  subst hW; exact ⟨((Bo.new w _ _).below  (bel1 _ _)).below  (bel1 _ _), (Bo.newAt _ (by simp) _ _).below  (bel1 _ _), Bo.newAt _ (by simp) _ _, bel3 _ _ _ _⟩

theorem mk_bd (z e : Int) : -4194304 ≤ (mk z e).2 ∧ (mk z e).2 ≤ 4194304 := by
  unfold mk
  split
  · simp
  · rename_i h
    simp only
    omega
set_option maxHeartbeats 4000000 in
theorem q3Mul {w : World} {A B : Option Addr} {n c m d : Nat} {s t : Bool} {z e y f N E : Int} (h : Wr w s A n c z) (k : Wr w t B m d y) (hn : n ≤ 50000) (hm : m ≤ 50000)
    (hN : (mk ((mk z e).1 * (mk y f).1) ((mk z e).2 + (mk y f).2)).1 = N) (hE : (mk ((mk z e).1 * (mk y f).1) ((mk z e).2 + (mk y f).2)).2 = E) :
    Calls Tryz.prog 88 #[.agg #[.bool s, .slice A n c, .int .i64 e], .agg #[.bool t, .slice B m d, .int .i64 f]] w (D1 w (n + m) N E) := by
  have hb := mk_bd z e; have hd := mk_bd y f
  revert hb hd hN hE
  generalize hN1 : (mk z e).1 = N1; generalize hE1 : (mk z e).2 = E1; generalize hN2 : (mk y f).1 = N2; generalize hE2 : (mk y f).2 = E2
  intro hN hE hb hd
  have HN1 := Lib.hid hN1; have HE1 := Lib.hid hE1; have HN2 := Lib.hid hN2; have HE2 := Lib.hid hE2; have HN := Lib.hid hN; have HE := Lib.hid hE; clear hN1 hE1 hN2 hE2 hN hE; obtain ⟨hb1, hb2⟩ := hb; obtain ⟨hd1, hd2⟩ := hd
  have hw : IntKind.i64.wrap (E1 + E2) = E1 + E2 := IntWalk.i64_in _ (by omega)
  have HW := Lib.hid hw; clear hw
  go_enter Tryz.func88, Tryz.ntmps88
  go_wp2_with fail
  obtain ⟨X1, X2, XR, B0⟩ := dbox3 w s t A B n c m d e f rfl; refine (q3Make (h.below  B0) (by omega) HN1.out HE1.out).mono ?_; rintro ee w1 ⟨s1, A1, n1, c1, rfl, p1, k1, B1⟩
  have g5 : w.heap.size + 1 + 1 < w1.heap.size := (XR.below  B1).lt
  have X5 := Bo.new w1 #[.bool s1, .slice A1 n1 c1, .int .i64 E1] 83; replace p1 := p1.below  (bel1 _ (.cells #[.bool s1, .slice A1 n1 c1, .int .i64 E1] 83)); replace B1 := bt B1 (bel1 _ (.cells #[.bool s1, .slice A1 n1 c1, .int .i64 E1] 83)); replace XR := XR.below  B1; replace X2 := X2.below  B1; replace k := k.below  (bt B0 B1); have HB := Lib.hid (bt B0 B1); have x20 := X2.c0; have x21 := X2.c1; have x22 := X2.c2
  clear B1 B0 X1
  go_wp2_with fail
  refine (q3Make k (by omega) HN2.out HE2.out).mono ?_; rintro ee w2 ⟨s2, A2, n2, c2, rfl, p2, k2, B2⟩; clear x20 x21 x22
  have g6 : w1.heap.size < w2.heap.size := (X5.below  B2).lt
  have X6 := Bo.new w2 #[.bool s2, .slice A2 n2 c2, .int .i64 E2] 83; replace p2 := p2.below  (bel1 _ (.cells #[.bool s2, .slice A2 n2 c2, .int .i64 E2] 83)); replace B2 := bt B2 (bel1 _ (.cells #[.bool s2, .slice A2 n2 c2, .int .i64 E2] 83)); replace XR := XR.below  B2; replace X5 := X5.below  B2; replace p1 := p1.below  B2; replace HB := Lib.hid (bt HB.out B2)
  have d5 : w1.heap.size ≠ w.heap.size + 1 + 1 := by omega
  have d6 : w2.heap.size ≠ w.heap.size + 1 + 1 := by omega
  clear B2 X2; have hw := HW.out; go_wp2
  go_region_held3 (fun w' => w'.cell? ⟨w1.heap.size, 0, none⟩ = some (.bool s1) ∧ w'.cell? ⟨w1.heap.size, 1, none⟩ = some (.slice A1 n1 c1) ∧ w'.cell? ⟨w1.heap.size, 2, none⟩ = some (.int .i64 E1) ∧ w'.cell? ⟨w2.heap.size, 0, none⟩ = some (.bool s2) ∧ w'.cell? ⟨w2.heap.size, 1, none⟩ = some (.slice A2 n2 c2) ∧ w'.cell? ⟨w2.heap.size, 2, none⟩ = some (.int .i64 E2)) (first | with_reducible exact ⟨X5.c0, X5.c1, X5.c2, X6.c0, X6.c1, X6.c2⟩ | with_reducible exact ⟨X5.drew.c0, X5.drew.c1, X5.drew.c2, X6.drew.c0, X6.drew.c1, X6.drew.c2⟩ | with_reducible exact ⟨(X5.far3 d5 _ _ _).c0, (X5.far3 d5 _ _ _).c1, (X5.far3 d5 _ _ _).c2, (X6.far3 d6 _ _ _).c0, (X6.far3 d6 _ _ _).c1, (X6.far3 d6 _ _ _).c2⟩)
    (first
      | (go_at_call 105; ((with_reducible refine (qTwo p1.wr.drew p2.wr.drew (by clear hw; omega) (by clear hw; omega) rfl).mono ?_); rintro ee w3 ⟨s3, A3, n3, c3, rfl, p3, k3, B3⟩; replace X5 := X5.drew.below  B3; replace X6 := X6.drew.below  B3; replace XR := XR.drew.below  B3; replace HB := Lib.hid (bt HB.out.drew B3); clear B3))
      | (go_at_call 89; ((with_reducible refine (q3Make p3.wr (by clear hw; omega) HN.out HE.out).mono ?_); rintro ee w4 ⟨s4, A4, n4, c4, rfl, p4, k4, B4⟩; replace X5 := X5.below  B4; replace X6 := X6.below  B4; replace XR := XR.below  B4; replace HB := Lib.hid (bt HB.out B4); clear B4; have r0 := XR.c0; have r1 := XR.c1; have r2 := XR.c2; have q0 := XR.frozen 0; have q1 := XR.frozen 1; have q2 := XR.frozen 2)))
  clear hw; go_wp2; exact bodyPost_ret (v := .agg #[.bool s4, .slice A4 n4 c4, .int .i64 E]) (by simp [results, Tryz.results88, go_sem, r0, r1, r2]) rfl ⟨s4, A4, n4, c4, rfl, p4.st3 XR _ _ _ _ _ (by simp [no32]), by omega, st3 HB.out (by omega) _ _ _⟩
end Go.Proofs.YtpnmphofengoeaaGreatDoor

namespace Go.Proofs.YtpnmphofengoeaaGreatDoor
open Go.RowKit
set_option linter.unusedVariables false

theorem rShlN {w : World} {A1 : Option Addr} {n c1 a r : Nat} {z : Int} (h1 : Rd w A1 n c1 a) (hn : n ≤ 134217728) (hz0 : 0 ≤ z) (hz : z ≤ 16777216) (hr : a * 2 ^ z.toNat = r) : Calls Tryz.prog 95 #[.slice A1 n c1, .int .i64 z] w (P1 w (n + z.toNat / 32 + 1) r) := by
  subst hr; obtain ⟨k, rfl⟩ := Int.eq_ofNat_of_zero_le hz0
  rcases Nat.eq_zero_or_pos k with e | e
  · subst e; refine (rShl_low _ h1 (by omega)).mono ?_; rintro ee w' ⟨A, m, c, rfl, hm, hk, hb⟩; exact ⟨A, m, c, rfl, by simpa using hm, by omega, hb⟩
  · have := rShl k h1 hn (by omega) (by omega)
    simpa using this
theorem sg_scale (s : Bool) (N : Int) (p : Nat) (h : sg s N.natAbs = N) : sg s (N.natAbs * p) = N * (p : Int) := by
  have : sg s (N.natAbs * p) = sg s N.natAbs * (p : Int) := by cases s <;> simp [sg, Int.neg_mul]
  rw [this, h]

end Go.Proofs.YtpnmphofengoeaaGreatDoor

namespace Go.Proofs.YtpnmphofengoeaaGreatDoor
set_option linter.unusedVariables false

theorem p2pos (k : Nat) : (0 : Int) < 2 ^ k := Int.pow_pos (by decide)
theorem natAbs_mul_pow (z : Int) (k : Nat) : (z * 2 ^ k).natAbs = z.natAbs * 2 ^ k := by
  rw [Int.natAbs_mul, Int.natAbs_pow]
  rfl
def Nf (p : Int × Int) : Prop := mk p.1 p.2 = p
theorem mk_odd {z e : Int} (hz : z.natAbs % 2 = 1) (h1 : -4194304 ≤ e) (h2 : e ≤ 4194304) : mk z e = (z, e) := by
  have h0 : z ≠ 0 := by omega
  have hv := v2_odd hz; obtain ⟨e1, e2, e3, e4, e5⟩ := mk_in (z := z) (e := e) h0 h1 (by rw [hv]; simpa using h2); rw [hv] at e1 e5
  apply Prod.ext
  · simpa using e5.symm
  · simpa using e1
theorem mk_cases (z e : Int) : mk z e = (0, 0) ∨ (z ≠ 0 ∧ -4194304 ≤ e ∧ e ≤ 4194304 ∧ e + (v2 z.natAbs : Nat) ≤ 4194304 ∧ (mk z e).1.natAbs % 2 = 1 ∧ (mk z e).2 = e + (v2 z.natAbs : Nat) ∧ z = (mk z e).1 * 2 ^ v2 z.natAbs) := by
  by_cases hc : z = 0 ∨ e < -4194304 ∨ 4194304 < e ∨ 4194304 < e + (v2 z.natAbs : Nat)
  · left
    unfold mk
    rw [if_pos hc]
  · right
    have h0 : z ≠ 0 := by omega
    obtain ⟨e1, e2, e3, e4, e5⟩ := mk_in (z := z) (e := e) h0 (by omega) (by omega); refine ⟨h0, by omega, by omega, by omega, ?_, e1, e5⟩
    rw [e2]; exact (v2_spec z.natAbs (by omega)).2
theorem mk_nf (z e : Int) : Nf (mk z e) := by
  rcases mk_cases z e with h | ⟨h0, h1, h2, h3, h4, h5, h6⟩
  · unfold Nf
    rw [h]; exact mk_zero 0
  · exact mk_odd h4 (by omega) (by omega)
theorem Nf.cases {p : Int × Int} (h : Nf p) : p = (0, 0) ∨ (p.1 ≠ 0 ∧ p.1.natAbs % 2 = 1 ∧ -4194304 ≤ p.2 ∧ p.2 ≤ 4194304) := by
  have hb := mk_bd p.1 p.2
  rcases mk_cases p.1 p.2 with e | ⟨h0, h1, h2, h3, h4, h5, h6⟩
  · left
    rw [← e]; exact h.symm
  · right
    rw [show mk p.1 p.2 = p from h] at h4
    exact ⟨h0, h4, h1, h2⟩
theorem Nf.zero {p : Int × Int} (h : Nf p) (h0 : p.1 = 0) : p = (0, 0) := by
  rcases h.cases with e | ⟨e, _⟩
  · exact e
  · exact absurd h0 e
theorem mk_neg (z e : Int) : mk (-z) e = (-(mk z e).1, (mk z e).2) := by
  by_cases hz : z = 0
  · subst hz; rw [Int.neg_zero, mk_zero]; rfl
  · unfold mk
    rw [Int.natAbs_neg]
    by_cases hc : z = 0 ∨ e < -4194304 ∨ 4194304 < e ∨ 4194304 < e + (v2 z.natAbs : Nat)
    · have hc' : -z = 0 ∨ e < -4194304 ∨ 4194304 < e ∨ 4194304 < e + (v2 z.natAbs : Nat) := by omega
      rw [if_pos hc, if_pos hc']; rfl
    · have hc' : ¬ (-z = 0 ∨ e < -4194304 ∨ 4194304 < e ∨ 4194304 < e + (v2 z.natAbs : Nat)) := by omega
      rw [if_neg hc, if_neg hc']
      apply Prod.ext
      · rcases Int.lt_or_gt_of_ne hz with h | h
        · have h' : ¬ -z < 0 := by omega
          rw [if_neg h', if_pos h]
          simp
        · have h' : -z < 0 := by omega
          have h2 : ¬ z < 0 := by omega
          rw [if_pos h', if_neg h2]
          simp
      · rfl
def KK : Nat := 4194304
theorem KK_eq : KK = 4194304 := rfl
def vl (p : Int × Int) : Int := p.1 * 2 ^ (p.2 + KK).toNat
theorem vl_zero : vl (0, 0) = 0 := by unfold vl; exact Int.zero_mul _
theorem cmpI_scale {a b p : Int} (hp : 0 < p) : cmpI (a * p) (b * p) = cmpI a b := by
  unfold cmpI
  by_cases h1 : a < b
  · rw [if_pos h1, if_pos (Int.mul_lt_mul_of_pos_right h1 hp)]
  · have h1' : ¬ a * p < b * p := Int.not_lt.2 (Int.mul_le_mul_of_nonneg_right (Int.not_lt.1 h1) (Int.le_of_lt hp))
    rw [if_neg h1, if_neg h1']
    by_cases h2 : b < a
    · rw [if_pos h2, if_pos (Int.mul_lt_mul_of_pos_right h2 hp)]
    · have h2' : ¬ b * p < a * p := Int.not_lt.2 (Int.mul_le_mul_of_nonneg_right (Int.not_lt.1 h2) (Int.le_of_lt hp))
      rw [if_neg h2, if_neg h2']
def Fit (h : Nat) (p : Int × Int) : Prop := Nf p ∧ -(h : Int) ≤ p.2 ∧ p.1.natAbs * 2 ^ (p.2 + h).toNat < 2 ^ (2 * h)
theorem Fit.nf {h : Nat} {p : Int × Int} (f : Fit h p) : Nf p := f.1
theorem Fit.lo {h : Nat} {p : Int × Int} (f : Fit h p) : -(h : Int) ≤ p.2 := f.2.1
theorem Fit.hi {h : Nat} {p : Int × Int} (f : Fit h p) : p.2 ≤ h := by
  rcases f.1.cases with e | ⟨e, _⟩
  · rw [e]; simp
  · have h1 : 1 ≤ p.1.natAbs := by omega
    have h2 := Nat.lt_of_le_of_lt (Nat.mul_le_mul_right (2 ^ (p.2 + h).toNat) h1) f.2.2; rw [Nat.one_mul] at h2
    have := (Nat.pow_lt_pow_iff_right (a := 2) (by decide)).1 h2
    have := f.lo
    omega
theorem Fit.zero (h : Nat) : Fit h (0, 0) := ⟨mk_zero 0, by simp, by simp; exact Nat.pow_pos (by decide)⟩
theorem Fit.mono {h k : Nat} {p : Int × Int} (f : Fit h p) (hk : h ≤ k) : Fit k p := by
  have h1 := f.lo; refine ⟨f.1, by omega, ?_⟩
  have e1 : (2 : Nat) ^ (p.2 + k).toNat = 2 ^ (p.2 + h).toNat * 2 ^ (k - h) := by rw [← Nat.pow_add]; congr 1; omega
  have e2 : (2 : Nat) ^ (2 * k) = 2 ^ (2 * h) * 2 ^ (k - h) * 2 ^ (k - h) := by rw [← Nat.pow_add, ← Nat.pow_add]; congr 1; omega
  rw [e1, e2, ← Nat.mul_assoc]; refine Nat.lt_of_lt_of_le (Nat.mul_lt_mul_of_pos_right f.2.2 (Nat.pow_pos (by decide))) (Nat.le_mul_of_pos_right _ (Nat.pow_pos (by decide)))
theorem Fit.neg {h : Nat} {p : Int × Int} (f : Fit h p) : Fit h (-p.1, p.2) := by
  refine ⟨?_, f.lo, by simpa using f.2.2⟩
  unfold Nf
  rw [mk_neg, show mk p.1 p.2 = p from f.1]
theorem mk_fit {z e : Int} {h : Nat} (hh : h ≤ 4194304) (h1 : -(h : Int) ≤ e) (h2 : z.natAbs * 2 ^ (e + h).toNat < 2 ^ (2 * h)) : Fit h (mk z e) ∧ vl (mk z e) = z * 2 ^ (e + KK).toNat := by
  by_cases h0 : z = 0
  · subst h0; rw [mk_zero]; exact ⟨Fit.zero h, by rw [vl_zero, Int.zero_mul]⟩
  · have hn : z.natAbs ≠ 0 := by omega
    have h3 := Nat.lt_of_le_of_lt (Nat.mul_le_mul_right (2 ^ (e + h).toNat) (v2_pow_le hn)) h2; rw [← Nat.pow_add] at h3; have h4 := (Nat.pow_lt_pow_iff_right (a := 2) (by decide)).1 h3; obtain ⟨e1, e2, e3, e4, e5⟩ := mk_in (z := z) (e := e) h0 (by omega) (by omega); have hnf := mk_nf z e
    revert e1 e5 hnf
    generalize hv : v2 z.natAbs = v at *; generalize mk z e = p; obtain ⟨N, E⟩ := p
    intro e1 e5 hnf
    simp only at e1 e5; subst e5; subst e1; refine ⟨⟨hnf, by simp only; omega, ?_⟩, ?_⟩
    · simp only
      rw [natAbs_mul_pow, Nat.mul_assoc, ← Nat.pow_add, show v + (e + h).toNat = (e + v + h).toNat by omega] at h2
      exact h2
    · unfold vl
      simp only
      rw [Int.mul_assoc, ← Int.pow_add]
      congr 2
      rw [KK_eq]
      omega
def pl (p q : Int × Int) : Int × Int := if p.1 = 0 then q else if q.1 = 0 then p else mk (p.1 * 2 ^ (p.2 - min p.2 q.2).toNat + q.1 * 2 ^ (q.2 - min p.2 q.2).toNat) (min p.2 q.2)
theorem pl_comm {p q : Int × Int} (hp : Nf p) (hq : Nf q) : pl p q = pl q p := by
  unfold pl
  by_cases h1 : p.1 = 0
  · rw [if_pos h1]
    by_cases h2 : q.1 = 0
    · rw [if_pos h2, hp.zero h1, hq.zero h2]
    · rw [if_neg h2, if_pos h1]
  · rw [if_neg h1]
    by_cases h2 : q.1 = 0
    · rw [if_pos h2, if_pos h2]
    · rw [if_neg h2, if_neg h2, if_neg h1, Int.min_comm q.2 p.2, Int.add_comm]
theorem pl_nf {p q : Int × Int} (hp : Nf p) (hq : Nf q) : Nf (pl p q) := by
  unfold pl
  split
  · exact hq
  · split
    · exact hp
    · exact mk_nf _ _
theorem pl_fit {h : Nat} {p q : Int × Int} (hh : h + 1 ≤ 4194304) (fp : Fit h p) (fq : Fit h q) : Fit (h + 1) (pl p q) ∧ vl (pl p q) = vl p + vl q := by
  unfold pl
  by_cases h1 : p.1 = 0
  · rw [if_pos h1, fp.1.zero h1, vl_zero, Int.zero_add]; exact ⟨fq.mono (by omega), rfl⟩
  · rw [if_neg h1]
    by_cases h2 : q.1 = 0
    · rw [if_pos h2, fq.1.zero h2, vl_zero, Int.add_zero]; exact ⟨fp.mono (by omega), rfl⟩
    · rw [if_neg h2]; have lp := fp.lo; have lq := fq.lo; obtain ⟨l, hl⟩ : ∃ l, min p.2 q.2 = l := ⟨_, rfl⟩; rw [hl]
      have l1 : l ≤ p.2 := by omega
      have l2 : l ≤ q.2 := by omega
      have l3 : -(h : Int) ≤ l := by omega
      obtain ⟨a1, a2⟩ := mk_fit (z := p.1 * 2 ^ (p.2 - l).toNat + q.1 * 2 ^ (q.2 - l).toNat) (e := l) (h := h + 1) hh (by omega) (by
        have t := Int.natAbs_add_le (p.1 * 2 ^ (p.2 - l).toNat) (q.1 * 2 ^ (q.2 - l).toNat); rw [natAbs_mul_pow, natAbs_mul_pow] at t; refine Nat.lt_of_le_of_lt (Nat.mul_le_mul_right _ t) ?_; have x1 := fp.2.2; have x2 := fq.2.2
        rw [Nat.add_mul, Nat.mul_assoc, Nat.mul_assoc, ← Nat.pow_add, ← Nat.pow_add,
          show (p.2 - l).toNat + (l + (h + 1 : Nat)).toNat = (p.2 + h).toNat + 1 by omega, show (q.2 - l).toNat + (l + (h + 1 : Nat)).toNat = (q.2 + h).toNat + 1 by omega,
          show 2 * (h + 1) = 2 * h + 1 + 1 by omega, Nat.pow_succ, Nat.pow_succ, Nat.pow_succ, Nat.pow_succ, ← Nat.mul_assoc, ← Nat.mul_assoc]
        omega)
      refine ⟨a1, ?_⟩; rw [a2, Int.add_mul, Int.mul_assoc, Int.mul_assoc, ← Int.pow_add, ← Int.pow_add]
      unfold vl
      have k1 : (p.2 - l).toNat + (l + KK).toNat = (p.2 + KK).toNat := by rw [KK_eq]; omega
      have k2 : (q.2 - l).toNat + (l + KK).toNat = (q.2 + KK).toNat := by rw [KK_eq]; omega
      rw [k1, k2]
def ml (p q : Int × Int) : Int × Int := mk (p.1 * q.1) (p.2 + q.2)
theorem ml_fit {h k : Nat} {p q : Int × Int} (hh : h + k ≤ 4194304) (fp : Fit h p) (fq : Fit k q) : Fit (h + k) (ml p q) ∧ vl (ml p q) * 2 ^ KK = vl p * vl q := by
  unfold ml
  have lp := fp.lo; have lq := fq.lo
  obtain ⟨a1, a2⟩ := mk_fit (z := p.1 * q.1) (e := p.2 + q.2) (h := h + k) hh (by omega) (by
    rw [Int.natAbs_mul, show (p.2 + q.2 + (h + k : Nat)).toNat = (p.2 + h).toNat + (q.2 + k).toNat by omega, Nat.pow_add,
      Nat.mul_mul_mul_comm, show 2 * (h + k) = 2 * h + 2 * k by omega, Nat.pow_add]
    exact Nat.mul_lt_mul'' fp.2.2 fq.2.2)
  refine ⟨a1, ?_⟩; rw [a2]
  unfold vl
  have k0 : (p.2 + q.2 + KK).toNat + KK = (p.2 + KK).toNat + (q.2 + KK).toNat := by rw [KK_eq]; omega
  rw [Int.mul_assoc, ← Int.pow_add, k0, Int.pow_add, Int.mul_assoc, Int.mul_assoc]
  congr 1
  rw [← Int.mul_assoc, ← Int.mul_assoc, Int.mul_comm q.1]
theorem ml_comm (p q : Int × Int) : ml p q = ml q p := by unfold ml; rw [Int.mul_comm, Int.add_comm]
def ng (p : Int × Int) : Int × Int := (-p.1, p.2)
end Go.Proofs.YtpnmphofengoeaaGreatDoor

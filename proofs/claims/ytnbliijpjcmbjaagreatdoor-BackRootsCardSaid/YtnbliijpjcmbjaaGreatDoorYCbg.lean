/-
 Contracts that the proof rests on.
-/
import Derived.Test.YtnbliijpjcmbjaaGreatDoorYCbf
namespace Go.Proofs.YtnbliijpjcmbjaaGreatDoor
set_option maxHeartbeats 8000000
open Go.RowKit
set_option linter.unusedVariables false
def Qt (up : Bool) (x y r : Int) : Prop :=
 if y = 0 then r = sgi (!up) TP else if x = 0 ∨ infp y = true then r = 0 else if infp x = true then r = sgi (decide (x < 0) != decide (y < 0)) TP else Sid up (sgi (decide (y < 0)) (vr x) * 2 ^ KK) (sgi (decide (y < 0)) (vr y)) r
theorem qt_none {up : Bool} {x r : Int} (h : r = sgi (!up) TP) : Qt up x 0 r := by
 unfold Qt
 rw [if_pos rfl]; exact h
theorem qt_zero {up : Bool} {x y r : Int} (hy : y ≠ 0) (h : x = 0 ∨ infp y = true) : Qt up x y r ↔ r = 0 := by
 unfold Qt
 rw [if_neg hy, if_pos h]
theorem qt_none' {up : Bool} {x r : Int} : Qt up x 0 r ↔ r = sgi (!up) TP := by
 unfold Qt
 rw [if_pos rfl]
theorem qt_inf {up : Bool} {x y r : Int} (hy : y ≠ 0) (h : ¬ (x = 0 ∨ infp y = true)) (hx : infp x = true) : Qt up x y r ↔ r = sgi (decide (x < 0) != decide (y < 0)) TP := by
 unfold Qt
 rw [if_neg hy, if_neg h, if_pos hx]
theorem qt_fin {up : Bool} {x y r : Int} (hy : y ≠ 0) (h : ¬ (x = 0 ∨ infp y = true)) (hx : infp x = false) : Qt up x y r ↔ Sid up (sgi (decide (y < 0)) (vr x) * 2 ^ KK) (sgi (decide (y < 0)) (vr y)) r := by
 unfold Qt
 rw [if_neg hy, if_neg h, if_neg (by rw [hx]; exact ff)]
theorem sg_vr_pos {y : Int} (hy : y ≠ 0) : 0 < sgi (decide (y < 0)) (vr y) := by
 by_cases c : y < 0
 · rw [decide_eq_true c, wsg_t]
   have := vr_pos (x := -y) (by omega)
   rw [vr_neg] at this; exact this
 · rw [decide_eq_false c, wsg_f]; exact vr_pos (by omega)
theorem qt_ex (up : Bool) (x y : Int) : ∃ r, Qt up x y r := by
 by_cases hy : y = 0
 · subst hy; exact ⟨_, qt_none rfl⟩
 · by_cases h : x = 0 ∨ infp y = true
   · exact ⟨0, (qt_zero hy h).2 rfl⟩
   · cases hx : infp x
     · obtain ⟨r, hr⟩ := sid_ex up (sgi (decide (y < 0)) (vr x) * 2 ^ KK) (sg_vr_pos hy); exact ⟨r, (qt_fin hy h hx).2 hr⟩
     · exact ⟨_, (qt_inf hy h hx).2 rfl⟩
theorem Qt.bd {up : Bool} {x y r : Int} (h : Qt up x y r) : -19342822337206103650074625 ≤ r ∧ r ≤ 19342822337206103650074625 := by
 have htp := TP_eq
 have sg : ∀ s, -19342822337206103650074625 ≤ sgi s TP ∧ sgi s TP ≤ 19342822337206103650074625 := fun s => by
   rcases sgT s with e | e <;> rw [e] <;> omega
 by_cases hy : y = 0
 · subst hy; rw [qt_none'.1 h]; exact sg _
 · by_cases h0 : x = 0 ∨ infp y = true
   · rw [(qt_zero hy h0).1 h]
     decide
   · cases hx : infp x
     · exact ((qt_fin hy h0 hx).1 h).bd
     · rw [(qt_inf hy h0 hx).1 h]; exact sg _
def Rt (up : Bool) (X r : Int) : Prop :=
 if up = true then 0 < r ∧ r ≤ 19342822337206103650074625 ∧ (r < 19342822337206103650074625 → X ≤ vr r * vr r) ∧ vr (r - 1) * vr (r - 1) < X
 else 0 ≤ r ∧ r ≤ 19342822337206103650074624 ∧ vr r * vr r ≤ X ∧ (r < 19342822337206103650074624 → X < vr (r + 1) * vr (r + 1))
theorem rt_f {X r : Int} : Rt false X r ↔ (0 ≤ r ∧ r ≤ 19342822337206103650074624 ∧ vr r * vr r ≤ X ∧ (r < 19342822337206103650074624 → X < vr (r + 1) * vr (r + 1))) := by
 unfold Rt
 rw [if_neg ff]
theorem rt_t {X r : Int} : Rt true X r ↔ (0 < r ∧ r ≤ 19342822337206103650074625 ∧ (r < 19342822337206103650074625 → X ≤ vr r * vr r) ∧ vr (r - 1) * vr (r - 1) < X) := by
 unfold Rt
 rw [if_pos rfl]
theorem sq_le {a b : Int} (h0 : 0 ≤ a) (h : a ≤ b) : a * a ≤ b * b := Int.mul_le_mul h h h0 (by omega)
theorem sq_lt {a b : Int} (h0 : 0 ≤ a) (h : a < b) : a * a < b * b := by
 have h1 : a * a ≤ a * b := Int.mul_le_mul_of_nonneg_left (by omega) h0
 have h2 : a * b < b * b := Int.mul_lt_mul_of_pos_right h (by omega)
 omega
theorem vr_sq {r t : Int} (h0 : 0 ≤ r) (h : r ≤ t) : vr r * vr r ≤ vr t * vr t := sq_le (vr_nn h0) (vr_le h)
theorem Rt.uniq {up : Bool} {X r t : Int} (h : Rt up X r) (k : Rt up X t) : r = t := by
 have key : ∀ {r t}, Rt up X r → Rt up X t → ¬ r < t := by
   intro r t h k c
   cases up
   · obtain ⟨h1, h2, h3, h4⟩ := rt_f.1 h; obtain ⟨k1, k2, k3, k4⟩ := rt_f.1 k; have a := h4 (by omega); have b := vr_sq (r := r + 1) (t := t) (by omega) (by omega)
     omega
   · obtain ⟨h1, h2, h3, h4⟩ := rt_t.1 h; obtain ⟨k1, k2, k3, k4⟩ := rt_t.1 k; have a := h3 (by omega); have b := vr_sq (r := r) (t := t - 1) (by omega) (by omega)
     omega
 have a := key h k; have b := key k h
 omega
theorem rt_core {P : Int × Int} {Y V W : Int} (up : Bool) (nf : Nf P) (V0 : 0 < V) (h : (vl P = V ∧ Y = V * V) ∨ (V < vl P ∧ vl P < W ∧ V * V < Y ∧ Y < W * W ∧ ∀ s, ¬ (V < vr s ∧ vr s < W))) : Rt up Y (rnd up P.1 P.2) := by
 have hz := dn_self (r := 0) (by decide) (by decide)
 rw [show vr 0 = 0 from rfl] at hz
 have hP : 0 < vl P := by rcases h with ⟨a, _⟩ | ⟨a, _⟩ <;> omega
 cases up
 · have r1 := (rnd_spec nf).1; rw [rt_f]; generalize vl P = X at h hP r1; generalize rnd false P.1 P.2 = r at r1 ⊢; have r0 := hz.mono r1 (Int.le_of_lt hP); obtain ⟨d1, d2, d3, d4⟩ := r1; have e3 := d3 (by omega); have n0 := vr_nn r0
   refine ⟨r0, d2, ?_, fun c => ?_⟩
   · rcases h with ⟨a, b⟩ | ⟨a, b, c, d, e⟩
     · rw [b]; exact sq_le n0 (by omega)
     · have := e r
       have := sq_le (a := vr r) (b := V) n0 (by omega)
       omega
   · have e4 := d4 c
     rcases h with ⟨a, b⟩ | ⟨a, b, c, d, e⟩
     · rw [b]; exact sq_lt (Int.le_of_lt V0) (by omega)
     · have := e (r + 1)
       have := sq_le (a := W) (b := vr (r + 1)) (by omega) (by omega)
       omega
 · have r2 := (rnd_spec nf).2; rw [rt_t]; generalize vl P = X at h hP r2; generalize rnd true P.1 P.2 = r at r2 ⊢; obtain ⟨d1, d2, d3, d4⟩ := r2
   have r0 : 0 < r := by
     rcases Int.lt_or_le 0 r with q | q
     · exact q
     · exfalso
       have b := d3 (by omega); rw [vr_neg] at b
       have := vr_le q
       rw [show vr 0 = 0 from rfl] at this
       omega
   have n0 := vr_nn (x := r - 1) (by omega)
   refine ⟨r0, by omega, fun c => ?_, ?_⟩
   · have b := d3 (by omega); rw [vr_neg] at b
     rcases h with ⟨a, b2⟩ | ⟨a, b2, c, d, e⟩
     · rw [b2]; exact sq_le (Int.le_of_lt V0) (by omega)
     · have := e r
       have := sq_le (a := W) (b := vr r) (by omega) (by omega)
       omega
   · have b := d4 (by omega)
     rw [show -r + 1 = -(r - 1) by omega, vr_neg] at b
     rcases h with ⟨a, b2⟩ | ⟨a, b2, c, d, e⟩
     · rw [b2]; exact sq_lt n0 (by omega)
     · have := e (r - 1)
       have := sq_le (a := vr (r - 1)) (b := V) n0 (by omega)
       omega
theorem root_side {N s d : Nat} {e f : Int} {n κ : Nat} (up : Bool) (hs : s * s + d = N * 2 ^ n) (hs2 : N * 2 ^ n < (s + 1) * (s + 1)) (hb : 9223372036854775808 ≤ s) (hf : 2 * f = e - n) (hκ : κ = 500000) (hm : stk s d < 2 ^ κ) (h1 : -2900000 ≤ f) (h2 : f ≤ 2900000) (h3 : -4000000 ≤ e) (h4 : e ≤ 4000000) :
   Rt up ((N : Int) * 2 ^ (e + 2 * KK).toNat) (rnd up (mk ((stk s d : Nat) : Int) (f - 1)).1 (mk ((stk s d : Nat) : Int) (f - 1)).2) := by
 have hk := KK_eq; have nf := mk_nf ((stk s d : Nat) : Int) (f - 1); have ev := mk_vlB (z := ((stk s d : Nat) : Int)) (e := f - 1) (by rw [Int.natAbs_natCast, ← hκ]; exact hm) (by omega) (by omega); obtain ⟨u, hu⟩ : ∃ u : Nat, (f - 1 + (KK : Int)).toNat = u := ⟨_, rfl⟩
 have e1 : (e + 2 * (KK : Int)).toNat = n + (1 + u + (1 + u)) := by omega
 rw [hu] at ev; have hpu := p2pos u
 have eU : (2 : Int) ^ (1 + u) = 2 * 2 ^ u := by rw [Int.pow_add]; rfl
 rw [e1, Int.pow_add, Int.pow_add, eU, ← Int.mul_assoc]
 have hcast : ((N * 2 ^ n : Nat) : Int) = (N : Int) * 2 ^ n := by push_cast; rfl
 rw [← hcast]; clear hcast e1 hu eU hm; generalize N * 2 ^ n = X at hs hs2 ⊢; obtain ⟨S, hS⟩ : ∃ S : Int, (s : Int) = S := ⟨_, rfl⟩
 have c1 : S * S + (d : Int) = (X : Int) := by rw [← hS]; exact_mod_cast hs
 have c2 : (X : Int) < (S + 1) * (S + 1) := by rw [← hS]; exact_mod_cast hs2
 have sq : ∀ a : Int, (a * (2 * 2 ^ u)) * (a * (2 * 2 ^ u)) = a * a * (2 * 2 ^ u * (2 * 2 ^ u)) := fun a => by
   generalize (2 : Int) ^ u = U; rw [Int.mul_assoc a (2 * U), ← Int.mul_assoc (2 * U) a, Int.mul_comm (2 * U) a, Int.mul_assoc a (2 * U) (2 * U), ← Int.mul_assoc a a]
 have hW : 0 < 2 * (2 : Int) ^ u * (2 * 2 ^ u) := Int.mul_pos (by omega) (by omega)
 have p0 : 0 < S * (2 * 2 ^ u) := Int.mul_pos (by omega) (by omega)
 have g1 : 2 * S * 2 ^ u = S * (2 * 2 ^ u) := by rw [Int.mul_comm 2 S, Int.mul_assoc]
 have g2 : (2 * S + 2) * 2 ^ u = (S + 1) * (2 * 2 ^ u) := by rw [show 2 * S + 2 = (S + 1) * 2 by omega, Int.mul_assoc]
 by_cases hd : d = 0
 · have e3 : stk s d = 2 * s := by
     unfold stk
     rw [if_pos hd]
     omega
   rw [e3] at ev nf ⊢; refine rt_core (W := 0) up nf p0 (.inl ⟨?_, ?_⟩)
   · rw [ev, ← g1, ← hS]
     push_cast
     rfl
   · rw [sq]
     congr 1
     omega
 · have e3 : stk s d = 2 * s + 1 := by
     unfold stk
     rw [if_neg hd]
   rw [e3] at ev nf ⊢
   have ev2 : vl (mk ((2 * s + 1 : Nat) : Int) (f - 1)) = (2 * S + 1) * 2 ^ u := by
     rw [ev, ← hS]
     push_cast
     rfl
   refine rt_core (W := (2 * S + 2) * 2 ^ u) up nf p0 (.inr ⟨?_, ?_, ?_, ?_, ?_⟩)
   · rw [ev2, ← g1]; exact Int.mul_lt_mul_of_pos_right (by omega) hpu
   · rw [ev2]; exact Int.mul_lt_mul_of_pos_right (by omega) hpu
   · rw [sq]; exact Int.mul_lt_mul_of_pos_right (by omega) hW
   · rw [g2, sq]; exact Int.mul_lt_mul_of_pos_right c2 hW
   · intro t
     rw [← g1]; exact no_placeQ (by omega) t
def Rq (up : Bool) (z y r : Int) : Prop := if y = 0 then r = sgi (!up) TP else Sid up (sgi (decide (y < 0)) z * 2 ^ KK) (sgi (decide (y < 0)) y) r
theorem rq_some {up : Bool} {z y r : Int} (hy : y ≠ 0) : Rq up z y r ↔ Sid up (sgi (decide (y < 0)) z * 2 ^ KK) (sgi (decide (y < 0)) y) r := by
 unfold Rq
 rw [if_neg hy]
theorem Rq.mono {up : Bool} {z y z' y' r t : Int} (hy : 0 < y) (hy' : 0 < y') (h : Rq up z y r) (k : Rq up z' y' t) (hle : z * y' ≤ z' * y) : r ≤ t := by
 have a := (rq_some (by omega)).1 h; have b := (rq_some (by omega)).1 k; rw [decide_eq_false (by omega), wsg_f, wsg_f] at a b; refine a.mono hy hy' b ?_
 have := Int.mul_le_mul_of_nonneg_right hle (Int.le_of_lt (p2pos KK))
 rw [Int.mul_right_comm z, Int.mul_right_comm z']; exact this
theorem odd_part {M : Int} (h1 : 9223372036854775808 ≤ M) (h2 : LQ M) : ∃ (α : Nat) (v : Nat), (mk M 0).1 = (α : Int) ∧ (mk M 0).2 = (v : Int) ∧ M = (α : Int) * 2 ^ v ∧ 0 < α ∧ α % 2 = 1 ∧ α < 18446744073709551616 ∧ v < 64 := by
 obtain ⟨m, rfl⟩ := Int.eq_ofNat_of_zero_le (show 0 ≤ M by omega)
 have h0 : m ≠ 0 := by omega
 have hv : v2 m < 64 := by
   have h3 := v2_pow_le h0
   have h4 : 2 ^ v2 m < 2 ^ 64 := by omega
   exact (Nat.pow_lt_pow_iff_right (by decide)).1 h4
 obtain ⟨m1, m2, m3, m4, m5⟩ := mk_in (z := (m : Int)) (e := 0) (by omega) (by decide) (by rw [Int.natAbs_natCast]; omega); rw [Int.natAbs_natCast] at m1 m2 m5; obtain ⟨s1, s2⟩ := v2_spec m h0
 have hp : 0 ≤ (mk (m : Int) 0).1 := by
   rcases Int.lt_or_le (mk (m : Int) 0).1 0 with q | q
   · have := m3.1 q; omega
   · exact q
 have e1 : (mk (m : Int) 0).1 = ((m / 2 ^ v2 m : Nat) : Int) := by omega
 refine ⟨m / 2 ^ v2 m, v2 m, e1, by rw [m1]; omega, ?_, by omega, s2, ?_, hv⟩
 · rw [← e1]; exact m5
 · have := Nat.div_le_self m (2 ^ v2 m)
   omega
theorem root_fin {up : Bool} {M E x : Int} {α v : Nat} {r : Int} (q : Fq 1 false M E x) (hM : M = (α : Int) * 2 ^ v) (hv : v < 64) (h : Rt up ((α : Int) * 2 ^ (E + v + 2 * (KK : Int)).toNat) r) : Rt up (vr x * 2 ^ KK) r := by
 obtain ⟨a1, a2, a3, a4, a5, a6, a7, a8, a9⟩ := fq_vr q; have hk := KK_eq
 have e : vr x * 2 ^ KK = (α : Int) * 2 ^ (E + v + 2 * (KK : Int)).toNat := by
   have ex : v + ((E + (KK : Int)).toNat + KK) = (E + v + 2 * (KK : Int)).toNat := by omega
   rw [a8, wsg_f, hM, Int.mul_assoc, Int.mul_assoc, ← Int.pow_add, ← Int.pow_add, ex]
 rw [e]; exact h
theorem rt_exact {up : Bool} {X r : Int} (h0 : 0 < r) (h1 : r < 19342822337206103650074625) (e : vr r * vr r = X) : Rt up X r := by
 have hr := vr_pos h0
 cases up
 · rw [rt_f]
   exact ⟨by omega, by omega, by omega, fun c => by rw [← e]; exact sq_lt (by omega) (vr_succ r)⟩
 · rw [rt_t]
   refine ⟨h0, by omega, fun _ => by omega, ?_⟩
   rw [← e]
   have := vr_succ (r - 1)
   rw [show r - 1 + 1 = r by omega] at this
   exact sq_lt (vr_nn (by omega)) this
def QF (q : Bool → Int → Int → Int) : Prop := ∀ up x y, Qt up x y (q up x y)
theorem qf_ex : ∃ q, QF q := by
 have h : ∀ p : Bool × Int × Int, ∃ r, Qt p.1 p.2.1 p.2.2 r := fun p => qt_ex p.1 p.2.1 p.2.2
 exact ⟨fun up x y => Classical.choose (h (up, x, y)), fun up x y => Classical.choose_spec (h (up, x, y))⟩
theorem QF.in {q : Bool → Int → Int → Int} (hq : QF q) (up : Bool) (x y : Int) : In (q up x y) := (hq up x y).bd
section
variable {q : Bool → Int → Int → Int}
end
set_option linter.unusedSimpArgs false
set_option maxRecDepth 100000
theorem lit_one (W : World) : Rd (W.alloc (.cells #[.int .u32 1] 104)) (some ⟨W.heap.size, 0, none⟩) 1 1 1 :=
 ⟨_, [1], (Own.new W [1]).all (Lim.cons (by decide) Lim.nil) (by simp) (Nat.le_refl _), by decide⟩
theorem stk_zero (q : Nat) : stk q 0 = q * 2 ^ (1 : Int).toNat := by
 unfold stk
 rw [if_pos rfl]
 show 2 * q + 0 = q * 2
 omega
theorem stk_one {q r : Nat} (h : r ≠ 0) : stk q r = q * 2 ^ (1 : Int).toNat + 1 := by
 unfold stk
 rw [if_neg h]
 show 2 * q + 1 = q * 2 + 1
 omega
theorem jsticky_n {w : World} {A : Option Addr} {n c a r : Nat} (h : Rd w A n c a) (hn : n ≤ 100000) (hr : a * 2 ^ (1 : Int).toNat = r) : Calls Tryz.prog 116 #[.slice A n c, .bool false] w (P1 w (n + 5) r) := by
 have HR := Lib.hid hr; obtain ⟨d, hd⟩ : ∃ d, a * 2 ^ (1 : Int).toNat = d := ⟨_, rfl⟩; have HD := Lib.hid hd; rw [hd] at HR; clear hr hd
 go_enter Tryz.func116, Tryz.ntmps116
 go_wp2_with fail
 refine (rShlN (z := 1) h (by omega) (by decide) (by decide) HD.out).mono ?_; rintro ee w2 ⟨A1, n1, c1, rfl, p1, k1, B1⟩
 have hk1 : n1 ≤ n + 2 := by
   have : (1 : Int).toNat / 32 = 0 := rfl
   omega
 clear h k1
 obtain rfl : d = r := HR.out
 go_wp2
 go_ret
 exact ⟨A1, n1, c1, rfl, p1, by omega, B1⟩
theorem jsticky_y {w : World} {A : Option Addr} {n c a r : Nat} (h : Rd w A n c a) (hn : n ≤ 100000) (hr : a * 2 ^ (1 : Int).toNat + 1 = r) : Calls Tryz.prog 116 #[.slice A n c, .bool true] w (P1 w (n + 5) r) := by
 have HR := Lib.hid hr; obtain ⟨d, hd⟩ : ∃ d, a * 2 ^ (1 : Int).toNat = d := ⟨_, rfl⟩; have HD := Lib.hid hd; rw [hd] at HR; clear hr hd
 go_enter Tryz.func116, Tryz.ntmps116
 go_wp2_with fail
 refine (rShlN (z := 1) h (by omega) (by decide) (by decide) HD.out).mono ?_; rintro ee w2 ⟨A1, n1, c1, rfl, p1, k1, B1⟩
 have hk1 : n1 ≤ n + 2 := by
   have : (1 : Int).toNat / 32 = 0 := rfl
   omega
 clear h k1
 go_wp2_with fail
 refine (rAddE (p1.below (bel1 _ _)).rd (lit_one w2) (by omega) (by decide) HR.out).mono ?_; rintro ee w3 ⟨A2, n2, c2, rfl, p2, k2, B2⟩; go_wp2
 go_ret
 exact ⟨A2, n2, c2, rfl, p2, by omega, bt B1 (bt (bel1 _ _) B2)⟩
theorem jSticky {w : World} {A : Option Addr} {n c a d r : Nat} {cut : Bool} (h : Rd w A n c a) (hn : n ≤ 100000) (hc : decide (d ≠ 0) = cut) (hr : stk a d = r) : Calls Tryz.prog 116 #[.slice A n c, .bool cut] w (P1 w (n + 5) r) := by
 by_cases h0 : d = 0
 · subst h0
   obtain rfl : false = cut := hc
   exact jsticky_n h hn (by rw [← stk_zero]; exact hr)
 · obtain rfl : true = cut := by rw [← hc]; exact (decide_eq_true h0).symm
   exact jsticky_y h hn (by rw [← stk_one h0]; exact hr)
theorem exb_one {s : Bool} {M : Int} (h1 : 9223372036854775808 ≤ M) : exb 1 s M 0 = true := by
 have : MayQ 1 s M 0 := Or.inr (Or.inl ⟨rfl, h1, by decide, by decide⟩)
 unfold exb
 rw [decide_eq_true this]
 rfl
theorem exq_one {s : Bool} {M : Int} (h1 : 9223372036854775808 ≤ M) (h2 : LQ M) : ∃ (α : Nat) (v : Nat), (exq 1 s M 0).1 = sgi s (α : Int) ∧ (exq 1 s M 0).2 = (v : Int) ∧ M = (α : Int) * 2 ^ v ∧ 0 < α ∧ α < 18446744073709551616 ∧ v < 64 := by
 obtain ⟨α, v, a, b, c, d, _, e, f⟩ := odd_part h1 h2
 have hx : exq 1 s M 0 = mk (sgi s M) 0 := by
   unfold exq
   rw [if_pos (exb_one h1)]
 refine ⟨α, v, ?_, ?_, c, d, e, f⟩
 · rw [hx]
   cases s
   · rw [wsg_f, wsg_f, a]
   · rw [wsg_t, wsg_t, mk_neg, a]
 · rw [hx]
   cases s
   · rw [wsg_f, b]
   · rw [wsg_t, mk_neg, b]
theorem wn_rd {w : World} {s t : Bool} {A : Option Addr} {n c α : Nat} (h : Wn w t A n c (sgi s (α : Int))) (h0 : 0 < α) : Rd w A n c α ∧ t = s := by
 have e : (sgi s (α : Int)).natAbs = α := by rw [sgi_abs s (by omega)]; omega
 have h1 := h.1.rd; rw [e] at h1; refine ⟨h1, ?_⟩; rw [h.2]
 cases s
 · rw [wsg_f]; exact decide_eq_false (by omega)
 · rw [wsg_t]; exact decide_eq_true (by omega)
theorem stk_two (q d : Nat) : stk q d ≤ 2 * q + 1 := by
 unfold stk
 split <;> omega
theorem part_root {N n S : Nat} {e f : Int} (h0 : 9223372036854775808 ≤ N) (h1 : N < 18446744073709551616) (hn : n = 64 ∨ n = 65) (hf : 2 * f = e - n) (hS : rt (N * 2 ^ n) = S) (e1 : -2200000 ≤ e) (e2 : e ≤ 2200000) (up : Bool) :
   Rt up ((N : Int) * 2 ^ (e + 2 * KK).toNat) (rnd up (mk ((stk S (N * 2 ^ n - S * S) : Nat) : Int) (f - 1)).1 (mk ((stk S (N * 2 ^ n - S * S) : Nat) : Int) (f - 1)).2) := by
 obtain ⟨κ, hκ⟩ : ∃ κ : Nat, κ = 500000 := ⟨_, rfl⟩; have hsp := rt_spec (N * 2 ^ n); rw [hS] at hsp
 have lo_ : 2 ^ 126 ≤ N * 2 ^ n := by
   have : 2 ^ 63 * 2 ^ 64 ≤ N * 2 ^ n := Nat.mul_le_mul h0 (Nat.pow_le_pow_right (by decide) (by omega))
   omega
 have hi_ : N * 2 ^ n < 2 ^ 129 := by
   have : N * 2 ^ n < 2 ^ 64 * 2 ^ n := Nat.mul_lt_mul_of_pos_right h1 (Nat.pow_pos (by decide))
   rw [← Nat.pow_add] at this; exact Nat.lt_of_lt_of_le this (Nat.pow_le_pow_right (by decide) (by omega))
 have hb : 9223372036854775808 ≤ S := by
   rcases Nat.lt_or_ge S 9223372036854775808 with c | c
   · exfalso
     have h2 : (S + 1) * (S + 1) ≤ 2 ^ 63 * 2 ^ 63 := Nat.mul_le_mul (by omega) (by omega)
     omega
   · exact c
 have hSX : S ≤ S * S := Nat.le_mul_of_pos_right S (by omega)
 have hst : stk S (N * 2 ^ n - S * S) < 2 ^ κ := by
   have q3 := stk_two S (N * 2 ^ n - S * S)
   have q4 : 2 ^ 131 ≤ 2 ^ κ := Nat.pow_le_pow_right (by decide) (by omega)
   omega
 exact root_side (N := N) (e := e) up (by omega) hsp.2 hb hf hκ hst (by omega) (by omega) (by omega) (by omega)
def Pk (w : World) (A : Option Addr) (n c : Nat) (t : Bool) (x : Int) (P : Bool → Bool → Int → Prop) : Prop :=
 ∃ q d : Nat, Nm w A n c q ∧ n ≤ 20000 ∧ decide (d = 0) = t ∧ -3000000 ≤ x ∧ x ≤ 3000000 ∧ ∀ σ up, P σ up (rnd up (mk (sgi σ ((stk q d : Nat) : Int)) (x - 1)).1 (mk (sgi σ ((stk q d : Nat) : Int)) (x - 1)).2)
theorem Pk.below {w w' : World} {A : Option Addr} {n c : Nat} {t : Bool} {x : Int} {P : Bool → Bool → Int → Prop} (h : Pk w A n c t x P) (b : Below w.heap.size w w') : Pk w' A n c t x P := by
 obtain ⟨q, d, h1, h2⟩ := h; exact ⟨q, d, h1.below b, h2⟩
def PP7 (w : World) (P : Bool → Bool → Int → Prop) (e : Ending) (w' : World) : Prop := ∃ A n c t x, e = .returned (.agg #[.slice A n c, .bool t, .int .i64 x]) ∧ Pk w' A n c t x P ∧ Below w.heap.size w w'
def Jo.Fact.pk (P : Bool → Bool → Int → Prop) : Jo.Fact := ⟨fun v w => ∃ A n c t x, v = .agg #[.slice A n c, .bool t, .int .i64 x] ∧ Pk w A n c t x P, fun v w w' h b => by
 obtain ⟨A, n, c, t, x, e, p⟩ := h; exact ⟨A, n, c, t, x, e, p.below b⟩⟩
def PQ7 (w : World) (Q : Nat) (t : Bool) (x : Int) (e : Ending) (w' : World) : Prop := ∃ A n c, e = .returned (.agg #[.slice A n c, .bool t, .int .i64 x]) ∧ Nm w' A n c Q ∧ n ≤ 20000 ∧ Below w.heap.size w w'
theorem and_one (e : Int) : bits .and .i64 e 1 = e % 2 := by
 have h1 : (BitVec.ofInt IntKind.i64.bits e &&& BitVec.ofInt IntKind.i64.bits 1).toNat = (e % 18446744073709551616).toNat % 2 := by
   rw [BitVec.toNat_and, BitVec.toNat_ofInt, BitVec.toNat_ofInt, show (1 % ((2 ^ IntKind.i64.bits : Nat) : Int)).toNat = 1 by decide, Nat.and_one_is_mod]
   rfl
 show IntKind.i64.wrap ((BitVec.ofInt IntKind.i64.bits e &&& BitVec.ofInt IntKind.i64.bits 1).toNat : Int) = e % 2
 rw [h1, IntWalk.i64_in _ (by omega)]
 omega
theorem qroot_w {w : World} {A : Option Addr} {n c N k X S : Nat} {e b f : Int} {t : Bool} (ha : Rd w A n c N) (hn : n ≤ 8000) (hb : e % 2 = b) (hk : 64 + b = (k : Int)) (hX : N * 2 ^ k = X) (hS : rt X = S) (ht : decide (S * S = X) = t) (hf : 2 * f = e - k) (e1 : -2200000 ≤ e) (e2 : e ≤ 2200000) : Calls Tryz.prog 111 #[.slice A n c, .int .i64 e] w (PQ7 w S t f) := by
 have HX := Lib.hid hX; have HS := Lib.hid hS; have HT := Lib.hid ht
 have hb2 : 0 ≤ b ∧ b ≤ 1 := by omega
 have HW0 : Hid (bits .and .i64 e 1 = b) := Lib.hid (by rw [and_one]; exact hb)
 have HW1 : Hid (wrap64 (64 + b) = (k : Int)) := Lib.hid (by rw [hk]; exact IntWalk.wrap64_in _ (by omega))
 have HW2 : Hid (IntKind.i64.wrap (e - (k : Int)) = 2 * f) := Lib.hid (by rw [← hf]; exact IntWalk.i64_in _ (by omega))
 have HW5 : Hid (wrap64 f = f) := Lib.hid (IntWalk.wrap64_in _ (by omega))
 have HW3 : Hid (Int.tdiv (2 * f) 2 = f) := Lib.hid (by rw [Int.mul_comm]; exact Int.mul_tdiv_cancel _ (by decide))
 have HW4 : Hid (IntKind.i64.wrap f = f) := Lib.hid (IntWalk.i64_in _ (by omega))
 have hk2 : k ≤ 65 := by omega
 clear hX hS ht hb hk hf e1 e2 hb2
 go_enter Tryz.func111, Tryz.ntmps111
 go_upto_region 1 with (fail)
 generalize hW1 : w.alloc _ = w1 at *; obtain ⟨XR, HB⟩ := Bo.en1 hW1; replace ha := ha.below HB.out; clear hW1; have hw0 := HW0.out; have hw1 := HW1.out
 go_wp2_with fail
 refine (vShlE ha (by omega) (by omega) HX.out).mono ?_; rintro ee w4 ⟨A4, n4, c4, rfl, p4, k4, B⟩; replace XR := XR.below B; replace ha := ha.below B; replace HB := Hqb HB B; clear B
 go_wp2_with fail
 refine (vRootE p4.rd (by omega) HS.out HT.out).mono ?_; rintro ee w5 ⟨A5, n5, c5, rfl, p5, k5, B⟩; replace XR := XR.below B; replace p4 := p4.below B; replace HB := Hqb HB B; clear B; clear p4; have hw2 := HW2.out; have hw3 := HW3.out; have hw4 := HW4.out; have hw5 := HW5.out; have xXR := XR.cell; have zXR0 := XR.frozen; go_wp2; clear xXR zXR0; have SX := StN.mk3 XR (.slice A5 n5 c5) (.bool t) (.int .i64 f)
 replace p5 := p5.stn SX (by simp [no32]); exact bodyPost_ret (v := .agg #[.slice A5 n5 c5, .bool t, .int .i64 f]) (by simp [results, Tryz.results111, go_sem, SX.box.cell]) rfl ⟨A5, n5, c5, rfl, p5, by omega, (SX.below HB.out (by omega))⟩
theorem qRoot0 {w : World} {A : Option Addr} {n c N : Nat} {e : Int} {P : Bool → Bool → Int → Prop} (ha : Rd w A n c N) (hn : n ≤ 8000) (h0 : 9223372036854775808 ≤ N) (h1 : N < 18446744073709551616) (e1 : -2200000 ≤ e) (e2 : e ≤ 2200000)
   (hP : ∀ up r, Rt up ((N : Int) * 2 ^ (e + 2 * (KK : Int)).toNat) r → P false up r) (hQ : ∀ up r, P true up r) : Calls Tryz.prog 111 #[.slice A n c, .int .i64 e] w (PP7 w P) := by
 obtain ⟨k, hk⟩ : ∃ k : Nat, 64 + e % 2 = (k : Int) := ⟨(64 + e % 2).toNat, by omega⟩
 obtain ⟨f, hf⟩ : ∃ f : Int, 2 * f = e - k := ⟨(e - k) / 2, by omega⟩
 refine (qroot_w ha hn rfl hk rfl rfl rfl hf e1 e2).mono ?_; rintro ee w' ⟨A', n', c', he, hnm, hk', hb'⟩; have hsp := rt_spec (N * 2 ^ k)
 have hd : decide (N * 2 ^ k - rt (N * 2 ^ k) * rt (N * 2 ^ k) = 0) = decide (rt (N * 2 ^ k) * rt (N * 2 ^ k) = N * 2 ^ k) := by
   have := hsp.1
   by_cases c : rt (N * 2 ^ k) * rt (N * 2 ^ k) = N * 2 ^ k
   · rw [decide_eq_true c, c, Nat.sub_self]
     rfl
   · rw [decide_eq_false c]; exact decide_eq_false (by omega)
 refine ⟨A', n', c', _, f, he, ⟨_, _, hnm, hk', hd, by omega, by omega, fun σ up => ?_⟩, hb'⟩
 cases σ
 · rw [wsg_f]; exact hP up _ (part_root h0 h1 (by omega) hf rfl e1 e2 up)
 · exact hQ up _
theorem stk_zero7 (q : Nat) : stk q 0 = q * 2 ^ 1 := by
 unfold stk
 rw [if_pos rfl]
 omega
theorem stk_one7 {q r : Nat} (h : r ≠ 0) : stk q r = q * 2 ^ 1 + 1 := by
 unfold stk
 rw [if_neg h]
 omega
theorem sg_sgi7 (s : Bool) (a : Nat) : sg s a = sgi s (a : Int) := by
 cases s
 · rw [sg_false, wsg_f]
 · rw [sg_true, wsg_t]
theorem lit_one7 (W : World) : Rd (W.alloc (.cells #[.int .u32 1] 104)) (some ⟨W.heap.size, 0, none⟩) 1 1 1 :=
 ⟨_, [1], (Own.new W [1]).all (Lim.cons (by decide) Lim.nil) (by simp) (Nat.le_refl _), by decide⟩
theorem qround_e {w : World} {A : Option Addr} {n c q a0 a : Nat} {x r : Int} {σ up : Bool} (hT : Tab w) (h : Nm w A n c q) (hn : n ≤ 20000) (h0 : q * 2 ^ 1 = a0) (h1 : a0 = a) (x1 : -3000000 ≤ x) (x2 : x ≤ 3000000) (hr : rnd up (mk (sg σ a) (x - 1)).1 (mk (sg σ a) (x - 1)).2 = r) : Calls Tryz.prog 113 #[.agg #[.slice A n c, .bool true, .int .i64 x], .bool σ, .bool up] w (PN w r) := by
 have HA := Lib.hid h0; have H1 := Lib.hid h1; have HR := Lib.hid hr
 have HW : Hid (IntKind.i64.wrap (x - 1) = x - 1) := Lib.hid (IntWalk.i64_in _ (by omega))
 clear h0 h1 hr x1 x2
 go_enter Tryz.func113, Tryz.ntmps113
 go_upto_region 1 with (fail)
 generalize hW1 : (w.alloc _).alloc _ = w1 at *; obtain ⟨X3, XR, HB⟩ := Bo.en2 hW1; replace hT := hT.below HB.out; replace h := h.below HB.out; clear hW1; have xX3 := X3.cell
 go_wp2_with fail
 refine (vShlE (s := 1) h.rd (by omega) (by decide) HA.out).mono ?_; rintro ee w2 ⟨A2, n2, c2, rfl, p2, k2, B⟩; clear xX3; replace X3 := X3.below B; replace XR := XR.below B; replace hT := hT.below B; replace h := h.below B; replace HB := Hqb HB B; clear B; clear h
 obtain rfl := H1.out
 have xX3 := X3.cell
 go_upto_region 4 with (fail)
 clear xX3; refine Jo.rk [0, 1, 2, 3, 4, 5, 6, 7, 8] [some 17, some 18, some 19, some 20, some 21, some 22, some 23, some 24, some 25, none] [[], [], [0, 1], [], [3], [4], [2, 5], [], [6, 7], []] 10 1 [Jo.qb σ, Jo.Fact.eq (.slice A2 n2 c2), Jo.Fact.wn (sg σ a0) 30000, Jo.qp w.heap.size 2, Jo.qi x, Jo.Fact.eq (.int .i64 (x - 1)), Jo.Fact.dy (sg σ a0) (x - 1) 30000, Jo.qb up, Jo.Fact.num r, Jo.Fact.any] (by kernel_rfl) (by kernel_rfl) (by decide) rfl ?_ ?_
 · iterate 2 (refine Jo.jm rfl ?_ ?_; rotate_left)
   refine Jo.jm rfl ?_ ?_
   · rintro wj hJ _ rfl _ rfl K hK; simp only [Jo.z] at hK ⊢; go_simp; refine (wMake σ (p2.below hJ).rd).mono ?_; rintro ee wk ⟨s7, A7, n7, c7, rfl, p7, k7, B⟩; exact hK.out _ _ ⟨s7, A7, n7, c7, rfl, p7, by omega⟩ B
   refine Jo.jm rfl ?_ ?_; rotate_left
   refine Jo.jm rfl ?_ ?_
   · rintro wj hJ _ rfl K hK; simp only [Jo.z] at hK ⊢; have xX32 := (X3.below hJ).a 2 (.int .i64 x) rfl; go_simp; exact hK.out _ _ rfl (br _ _)
   refine Jo.jm rfl ?_ ?_
   · rintro wj hJ _ rfl K hK; simp only [Jo.z] at hK ⊢; have hw := HW.out; go_simp
     exact hK.out _ _ (by first | rfl | (show Value.int _ _ = Value.int _ _; rw [hw])) (br _ _)
   refine Jo.jm rfl ?_ ?_
   · rintro wj hJ _ ⟨s7, A7, n7, c7, rfl, p7, k7⟩ _ rfl K hK; simp only [Jo.z] at hK ⊢; go_simp; exact hK.out _ _ ⟨s7, A7, n7, c7, rfl, p7, k7⟩ (br _ _)
   refine Jo.jm rfl ?_ ?_; rotate_left
   refine Jo.jm rfl ?_ ?_
   · rintro wj hJ _ ⟨s8, A8, n8, c8, rfl, p8, k8⟩ _ rfl K hK; simp only [Jo.z] at hK ⊢; go_simp; refine (nRound (hT.below hJ) p8.wr (by omega) rfl rfl HR.out).mono ?_; rintro ee wk ⟨K9, s9, M9, E9, rfl, q9, B⟩; exact hK.out _ _ ⟨K9, s9, M9, E9, rfl, q9⟩ B
   exact Jo.Steps.nil
   all_goals (rintro wj hJ; (repeat rintro _ rfl); intro K hK; simp only [Jo.z] at hK ⊢; go_simp; exact hK.out _ _ rfl (br _ _))
 rintro w8 hJ _ rfl _ rfl _ ⟨_, _, _, _, rfl, _⟩ _ _ _ rfl _ rfl _ ⟨_, _, _, _, rfl, _⟩ _ rfl _ ⟨K9, s9, M9, E9, rfl, q9⟩ -; simp only [Jo.z]; replace X3 := X3.below hJ; replace XR := XR.below hJ; replace hT := hT.below hJ; replace p2 := p2.below hJ; replace HB := Hqb HB hJ; have xXR := XR.cell; have zXR0 := XR.frozen
 refine Jo.jnext (i := 9) (o := ⟨none, _, _, _, _, _⟩) (by kernel_rfl) rfl (fun K hK => ?_)
 go_simp; refine hK.out _ _ ?_; clear hK K xXR zXR0; have SX := StN.mk4 XR (.int .i64 K9) (.bool s9) (.int .u64 M9) (.int .i64 E9); refine Jo.jdone (by kernel_rfl) ?_; go_wp2; exact bodyPost_ret (by simp [results, Tryz.results113, go_sem, SX.box.cell]) rfl ⟨_, _, _, _, rfl, q9, (SX.below HB.out (by omega))⟩
theorem qround_l {w : World} {A : Option Addr} {n c q a0 a : Nat} {x r : Int} {σ up : Bool} (hT : Tab w) (h : Nm w A n c q) (hn : n ≤ 20000) (h0 : q * 2 ^ 1 = a0) (h1 : a0 + 1 = a) (x1 : -3000000 ≤ x) (x2 : x ≤ 3000000) (hr : rnd up (mk (sg σ a) (x - 1)).1 (mk (sg σ a) (x - 1)).2 = r) : Calls Tryz.prog 113 #[.agg #[.slice A n c, .bool false, .int .i64 x], .bool σ, .bool up] w (PN w r) := by
 have HA := Lib.hid h0; have H1 := Lib.hid h1; have HR := Lib.hid hr
 have HW : Hid (IntKind.i64.wrap (x - 1) = x - 1) := Lib.hid (IntWalk.i64_in _ (by omega))
 clear h0 h1 hr x1 x2
 go_enter Tryz.func113, Tryz.ntmps113
 go_upto_region 1 with (fail)
 generalize hW1 : (w.alloc _).alloc _ = w1 at *; obtain ⟨X3, XR, HB⟩ := Bo.en2 hW1; replace hT := hT.below HB.out; replace h := h.below HB.out; clear hW1; have xX3 := X3.cell
 go_wp2_with fail
 refine (vShlE (s := 1) h.rd (by omega) (by decide) HA.out).mono ?_; rintro ee w2 ⟨A2, n2, c2, rfl, p2, k2, B⟩; clear xX3; replace X3 := X3.below B; replace XR := XR.below B; replace hT := hT.below B; replace h := h.below B; replace HB := Hqb HB B; clear B; clear h; have xX3 := X3.cell
 go_wp2_with fail
 refine (vAddE (p2.below (bel1 _ _)).rd (lit_one7 w2) (by omega) (by decide) H1.out).mono ?_; rintro ee w4 ⟨A4, n4, c4, rfl, p4, k4, B⟩; clear xX3; replace B := bt (bel1 _ _) B; replace X3 := X3.below B; replace XR := XR.below B; replace hT := hT.below B; replace p2 := p2.below B; replace HB := Hqb HB B; clear B; clear p2; have xX3 := X3.cell
 go_upto_region 4 with (fail)
 clear xX3; refine Jo.rk [0, 1, 2, 3, 4, 5, 6, 7, 8] [some 17, some 18, some 19, some 20, some 21, some 22, some 23, some 24, some 25, none] [[], [], [0, 1], [], [3], [4], [2, 5], [], [6, 7], []] 10 1 [Jo.qb σ, Jo.Fact.eq (.slice A4 n4 c4), Jo.Fact.wn (sg σ a) 30000, Jo.qp w.heap.size 2, Jo.qi x, Jo.Fact.eq (.int .i64 (x - 1)), Jo.Fact.dy (sg σ a) (x - 1) 30000, Jo.qb up, Jo.Fact.num r, Jo.Fact.any] (by kernel_rfl) (by kernel_rfl) (by decide) rfl ?_ ?_
 · iterate 2 (refine Jo.jm rfl ?_ ?_; rotate_left)
   refine Jo.jm rfl ?_ ?_
   · rintro wj hJ _ rfl _ rfl K hK; simp only [Jo.z] at hK ⊢; go_simp; refine (wMake σ (p4.below hJ).rd).mono ?_; rintro ee wk ⟨s7, A7, n7, c7, rfl, p7, k7, B⟩; exact hK.out _ _ ⟨s7, A7, n7, c7, rfl, p7, by omega⟩ B
   refine Jo.jm rfl ?_ ?_; rotate_left
   refine Jo.jm rfl ?_ ?_
   · rintro wj hJ _ rfl K hK; simp only [Jo.z] at hK ⊢; have xX32 := (X3.below hJ).a 2 (.int .i64 x) rfl; go_simp; exact hK.out _ _ rfl (br _ _)
   refine Jo.jm rfl ?_ ?_
   · rintro wj hJ _ rfl K hK; simp only [Jo.z] at hK ⊢; have hw := HW.out; go_simp
     exact hK.out _ _ (by first | rfl | (show Value.int _ _ = Value.int _ _; rw [hw])) (br _ _)
   refine Jo.jm rfl ?_ ?_
   · rintro wj hJ _ ⟨s7, A7, n7, c7, rfl, p7, k7⟩ _ rfl K hK; simp only [Jo.z] at hK ⊢; go_simp; exact hK.out _ _ ⟨s7, A7, n7, c7, rfl, p7, k7⟩ (br _ _)
   refine Jo.jm rfl ?_ ?_; rotate_left
   refine Jo.jm rfl ?_ ?_
   · rintro wj hJ _ ⟨s8, A8, n8, c8, rfl, p8, k8⟩ _ rfl K hK; simp only [Jo.z] at hK ⊢; go_simp; refine (nRound (hT.below hJ) p8.wr (by omega) rfl rfl HR.out).mono ?_; rintro ee wk ⟨K9, s9, M9, E9, rfl, q9, B⟩; exact hK.out _ _ ⟨K9, s9, M9, E9, rfl, q9⟩ B
   exact Jo.Steps.nil
   all_goals (rintro wj hJ; (repeat rintro _ rfl); intro K hK; simp only [Jo.z] at hK ⊢; go_simp; exact hK.out _ _ rfl (br _ _))
 rintro w8 hJ _ rfl _ rfl _ ⟨_, _, _, _, rfl, _⟩ _ _ _ rfl _ rfl _ ⟨_, _, _, _, rfl, _⟩ _ rfl _ ⟨K9, s9, M9, E9, rfl, q9⟩ -; simp only [Jo.z]; replace X3 := X3.below hJ; replace XR := XR.below hJ; replace hT := hT.below hJ; replace p4 := p4.below hJ; replace HB := Hqb HB hJ; have xXR := XR.cell; have zXR0 := XR.frozen
 refine Jo.jnext (i := 9) (o := ⟨none, _, _, _, _, _⟩) (by kernel_rfl) rfl (fun K hK => ?_)
 go_simp; refine hK.out _ _ ?_; clear hK K xXR zXR0; have SX := StN.mk4 XR (.int .i64 K9) (.bool s9) (.int .u64 M9) (.int .i64 E9); refine Jo.jdone (by kernel_rfl) ?_; go_wp2; exact bodyPost_ret (by simp [results, Tryz.results113, go_sem, SX.box.cell]) rfl ⟨_, _, _, _, rfl, q9, (SX.below HB.out (by omega))⟩
theorem qRound {w : World} {A : Option Addr} {n c : Nat} {t σ up : Bool} {x r : Int} {P : Bool → Bool → Int → Prop} (hT : Tab w) (h : Pk w A n c t x P) (hr : ∀ r', P σ up r' → r' = r) : Calls Tryz.prog 113 #[.agg #[.slice A n c, .bool t, .int .i64 x], .bool σ, .bool up] w (PN w r) := by
 obtain ⟨q, d, hnm, hk, ht, x1, x2, hp⟩ := h; have e := hr _ (hp σ up); rw [← sg_sgi7] at e
 by_cases h0 : d = 0
 · subst h0
   obtain rfl : true = t := ht
   rw [stk_zero7] at e; exact qround_e hT hnm hk rfl rfl x1 x2 e
 · obtain rfl : false = t := by rw [← ht]; exact (decide_eq_false h0).symm
   rw [stk_one7 h0] at e; exact qround_l hT hnm hk rfl rfl x1 x2 e
theorem fkAdd {w : World} {A : Option Addr} {n c : Nat} {l : List Sp} {z : Sp} (hT : Tb w) (h : Il8 w A n c l) (hr : addL l = z) : Calls Tryz.prog 29 #[.slice A n c] w (PV w z) := by
 obtain ⟨p, hp⟩ : ∃ p, gone l = p := ⟨_, rfl⟩; have HP := Lib.hid hp; have HLn := Lib.hid h.1; have hcap := h.2.1; have hbig := h.2.2.1; clear hp
 go_enter Tryz.func29, Tryz.ntmps29
 go_upto_region 1 with (fail)
 generalize hW1 : w.alloc _ = w1 at *; obtain ⟨XR, HB⟩ := Bo.en1 hW1; replace hT := hT.below HB.out; replace h := h.below HB.out; clear hW1
 go_wp2_with fail
 refine (fkEmpty h HP.out).mono ?_; rintro ee w2 ⟨rfl, B⟩; replace XR := XR.below B; replace hT := hT.below B; replace h := h.below B; replace HB := Hqb HB B; clear B
 cases p
 · have hok := h.ok; have hae := (add_ends HP.out hok).trans hr; obtain ⟨u, hu⟩ : ∃ u, smA false (lowL l) = u := ⟨_, rfl⟩; obtain ⟨v, hv⟩ : ∃ v, smA true (highL l) = v := ⟨_, rfl⟩
   have hz : mkI u v = z := by rw [← hu, ← hv]; exact hae
   have HU := Lib.hid hu; have HV := Lib.hid hv; have HZ := Lib.hid hz; clear hok hae hu hv hz hr; go_wp2
   go_loopw [3, 4, 12] (fun va vb i wr => ∃ k A1 B1 c1 d1, k ≤ n ∧ va = .slice A1 k c1 ∧ vb = .slice B1 k d1 ∧ i = .int .i64 ((k : Nat) : Int) ∧ EInv w2 A1 B1 k c1 d1 (lowL (l.take k)) (highL (l.take k)) wr) (fun _ _ i _ => n - (intOf i).toNat)
   case atStart => exact ⟨0, _, _, _, _, Nat.zero_le _, rfl, rfl, rfl, Na.nil _ _, Na.nil _ _, (fun k h => by cases h), Below.refl _ _⟩
   case round =>
     obtain ⟨k, A1, B1, c1, d1, hk, rfl, rfl, rfl, N1, N2, hne, hB⟩ := hrel; have HB0 := HB; replace HB := Lib.hid hB; clear hB
     by_cases hlt : k < n
     · have tlt : decide ((k : Int) < (n : Int)) = true := by simp; omega
       have h' := h.below HB.out
       obtain ⟨a0, b0, hg⟩ := gone_get HP.out (k := k) (by rw [HLn.out]; exact hlt); have hsl := lowL_take (l := l) (k := k) (by rw [HLn.out]; exact hlt); have hsh := highL_take (l := l) (k := k) (by rw [HLn.out]; exact hlt); rw [hg] at hsl hsh; obtain ⟨b, o, rfl, hcell⟩ := h'.2.2.2 (by omega); obtain ⟨e, D, s, M, E, D', s', M', E', x0, x1, x2, x3, x4, x5, x6, x7, x8, hM, hM', hx⟩ := hcell k hlt; rw [hg] at hx
       obtain ⟨rfl, a1, b1, _, _, _⟩ := ci_some hM hM' hx; clear hcell h' h hx hM hM'
       have i1 : (k : Int) < n := by omega
       have i2 : (0 : Int) ≤ k := by omega
       generalize lowL (l.take k) = la at *; generalize highL (l.take k) = lb at *
       have HSL : Hid (lowL (l.take (k + 1)) = la ++ [a0]) := Lib.hid hsl
       have HSH : Hid (highL (l.take (k + 1)) = lb ++ [b0]) := Lib.hid hsh
       have HNE := Lib.hid hne; clear hsl hsh hne hg HU HV HZ HP XR hT HB0
       go_upto_region 7 with (fail)
       clear x0 x1 x2 x3 x4 x5 x6 x7 x8; have lX6 := Nat.le_refl (World.heap wr).size; generalize hWn : wr.alloc _ = w6 at *; obtain ⟨X6, BW⟩ := Bo.nw hWn; clear hWn; replace N1 := N1.below BW; replace N2 := N2.below BW; replace HB := Hqb HB BW; clear BW; clear lX6; have xX6 := X6.cell
       go_wp2_with (at_builtin; refine wpList_na rfl _ _ rfl rfl rfl (N1.below (bel1 _ _)) a1 (Bo.new _ _ _) (by omega) (Nat.le_trans HB.out.size (bel1 _ _).size) ?_)
       intro A2 d2 w7 N1' G1 at1
       clear xX6; have hB2 := bt HB.out (bel1 _ (.cells #[.int .i64 D, .bool s, .int .u64 M, .int .i64 E] 24)); have N1b := N1.below (bel1 _ (.cells #[.int .i64 D, .bool s, .int .u64 M, .int .i64 E] 24)); have N2b := N2.below (bel1 _ (.cells #[.int .i64 D, .bool s, .int .u64 M, .int .i64 E] 24)); replace X6 := (X6.below (bel1 _ (.cells #[.int .i64 D, .bool s, .int .u64 M, .int .i64 E] 24))).grownN N1b (by decide) G1
       replace HB := Lib.hid (hB2.grown G1 hB2.size (fun k hk => (N1b.own_lt k hk).1))
       have l1 : ∀ k, ownA B1 = some k → k < w6.heap.size + 1 := fun k hk => by
         have := (N2b.own_lt k hk).2
         simpa using this
       replace N2 := N2b.kept G1 (own_ne HNE.out); clear N1 N1b N2b G1 hB2; have xX6 := X6.cell
       go_wp2_with (at_builtin; refine wpList_na rfl _ _ rfl rfl rfl (N2.below (bel1 _ _)) b1 (Bo.new _ _ _) (by omega) (Nat.le_trans HB.out.size (bel1 _ _).size) ?_)
       intro B2 d3 w8 N2' G2 at2
       clear xX6; have hB2 := bt HB.out (bel1 _ (.cells #[.int .i64 D', .bool s', .int .u64 M', .int .i64 E'] 24)); have N2b := N2.below (bel1 _ (.cells #[.int .i64 D', .bool s', .int .u64 M', .int .i64 E'] 24)); have N1b := N1'.below (bel1 _ (.cells #[.int .i64 D', .bool s', .int .u64 M', .int .i64 E'] 24))
       have lA : ∀ k, ownA A2 = some k → k < w7.heap.size + 1 := fun k hk => by
         have := (N1b.own_lt k hk).2
         simpa using this
       have hne2 : ∀ k, ownA A2 = some k → ownA B2 ≠ some k := ne_row HNE.out at1 at2 l1 lA
       have hne1 : ∀ k, ownA A2 = some k → ownA B1 ≠ some k := ne_row HNE.out at1 (.inl rfl) l1 lA
       replace HB := Lib.hid (hB2.grown G2 hB2.size (fun k hk => (N2b.own_lt k hk).1))
       replace N1' := N1b.kept G2 (own_ne' hne1)
       have t1 := HSL.out; have t2 := HSH.out; clear N1b N2b G2 hB2 hne1 X6 N2 l1 lA at1 at2 HSL HSH HNE; go_wp2
       go_roundw
       case rel => exact ⟨k + 1, _, _, _, _, by omega, rfl, rfl, by go_num, by rw [t1]; exact N1', by rw [t2]; exact N2', hne2, HB.out⟩
       case measure => simp [intOf]; omega
     · obtain rfl : k = n := by omega
       have tlt : decide ((k : Int) < (k : Int)) = false := by simp
       have e1 : l.take k = l := List.take_of_length_le (by rw [HLn.out]; omega)
       rw [e1] at N1 N2; have L1 := N1.nl (by omega); have L2 := N2.nl (by omega); replace XR := XR.below HB.out; replace hT := hT.below HB.out; replace HB := Lib.hid (bt HB0.out HB.out); clear N1 N2 e1 hne HB0 h HP
       go_wp2_with fail
       refine (aSum hT L1 HU.out).mono ?_; rintro ee w9 ⟨K21, s21, M21, E21, rfl, q21, B⟩; replace XR := XR.below B; replace hT := hT.below B; replace L1 := L1.below B; replace L2 := L2.below B; replace HB := Hqb HB B; clear B
       go_wp2_with fail
       refine (aSum hT L2 HV.out).mono ?_; rintro ee wA ⟨K22, s22, M22, E22, rfl, q22, B⟩; replace XR := XR.below B; replace hT := hT.below B; replace L1 := L1.below B; replace L2 := L2.below B; replace HB := Hqb HB B; clear B
       go_wp2_with fail
       refine (kvMake q21.top q22.top q21.rk q22.rk HZ.out).mono ?_; rintro ee wB ⟨e23, K23, s23, M23, E23, K23b, s23b, M23b, E23b, rfl, v23, B⟩; replace XR := XR.below B; replace hT := hT.below B; replace L1 := L1.below B; replace L2 := L2.below B; replace HB := Hqb HB B; clear B; clear L1 L2 hT; have xXR := XR.cell; have zXR0 := XR.frozen
       go_wp2; clear xXR zXR0; have SX := StN.mk9 XR (.bool e23) (.int .i64 K23) (.bool s23) (.int .u64 M23) (.int .i64 E23) (.int .i64 K23b) (.bool s23b) (.int .u64 M23b) (.int .i64 E23b); exact bodyPost_ret (by simp [results, Tryz.results29, go_sem, SX.box.cell]) rfl ⟨_, _, _, _, _, _, _, _, _, rfl, v23, (SX.below HB.out (by omega))⟩
 · obtain rfl : none = z := (add_gone HP.out).symm.trans hr
   clear HP hT h hr
   go_wp2_with fail
   refine (kvNoneE).mono ?_; rintro ee w3 ⟨rfl, B⟩; replace XR := XR.below B; replace HB := Hqb HB B; clear B; have xXR := XR.cell; have zXR0 := XR.frozen; go_wp2; clear xXR zXR0; have SX := StN.mk9 XR (.bool true) (.int .i64 0) (.bool false) (.int .u64 0) (.int .i64 0) (.int .i64 0) (.bool false) (.int .u64 0) (.int .i64 0)
   exact bodyPost_ret (by simp [results, Tryz.results29, go_sem, SX.box.cell]) rfl ⟨_, _, _, _, _, _, _, _, _, rfl, Ci.none, (SX.below HB.out (by omega))⟩
theorem fkSub {w : World} {e : Bool} {D M E D' M' E' : Int} {s s' : Bool} {e2 : Bool} {G P Q G' P' Q' : Int} {g g' : Bool} {x y z : Sp} (hT : Tb w) (hM : LQ M) (hM' : LQ M') (hP : LQ P) (hP' : LQ P') (hx : rkI e D s M E D' s' M' E' = x) (hy : rkI e2 G g P Q G' g' P' Q' = y) (hr : subI x y = z) : Calls Tryz.prog 30 #[VI e D s M E D' s' M' E', VI e2 G g P Q G' g' P' Q'] w (PV w z) := by
 delta VI
 obtain ⟨m, hm⟩ : ∃ m, negI y = m := ⟨_, rfl⟩
 have hr2 : addL [x, m] = z := by rw [← hm]; exact hr
 have HX := Lib.hid hx; have HY := Lib.hid hy; have HM := Lib.hid hm; have HR := Lib.hid hr2; clear hx hy hm hr hr2
 go_enter Tryz.func30, Tryz.ntmps30
 go_upto_region 1 with (fail)
 generalize hW1 : ((w.alloc _).alloc _).alloc _ = w1 at *; obtain ⟨X2, X3, XR, HB⟩ := Bo.en3 hW1; replace hT := hT.below HB.out; clear hW1; refine Jo.rk [0, 1, 2, 3, 4] [some 5, some 6, some 7, some 8, some 9, none] [[], [], [1], [0, 2], [3], []] 6 1 [Jo.q9 e D s M E D' s' M' E', Jo.q9 e2 G g P Q G' g' P' Q', Jo.Fact.iv m, Jo.Fact.il8 2 [x, m], Jo.Fact.iv z, Jo.Fact.any] (by kernel_rfl) (by kernel_rfl) (by decide) rfl ?_ ?_
 · iterate 2 (refine Jo.jm rfl ?_ ?_; rotate_left)
   refine Jo.jm rfl ?_ ?_
   · rintro wj hJ _ rfl K hK; simp only [Jo.z] at hK ⊢; go_simp; refine (fkNeg hP hP' HY.out HM.out).mono ?_; rintro ee wk ⟨e1, K1, s1, M1, E1, K1b, s1b, M1b, E1b, rfl, v1, B⟩; exact hK.out _ _ ⟨e1, K1, s1, M1, E1, K1b, s1b, M1b, E1b, rfl, v1⟩ B
   refine Jo.jm rfl ?_ ?_
   · rintro wj hJ _ rfl _ ⟨e1, K1, s1, M1, E1, K1b, s1b, M1b, E1b, rfl, v1⟩ K hK; simp only [Jo.z] at hK ⊢; go_simp; exact hK.out _ _ ⟨_, 2, rfl, Il8.lit2 rfl ⟨hM, hM', HX.out⟩ v1.rw⟩ (bel1 _ _)
   refine Jo.jm rfl ?_ ?_
   · rintro wj hJ _ ⟨A3, c3, rfl, h3⟩ K hK; simp only [Jo.z] at hK ⊢; go_simp; refine (fkAdd (hT.below hJ) h3 HR.out).mono ?_; rintro ee wk ⟨e2, K2, s2, M2, E2, K2b, s2b, M2b, E2b, rfl, v2, B⟩; exact hK.out _ _ ⟨e2, K2, s2, M2, E2, K2b, s2b, M2b, E2b, rfl, v2⟩ B
   exact Jo.Steps.nil
   all_goals (rintro wj hJ; (repeat rintro _ rfl); intro K hK; simp only [Jo.z] at hK ⊢; have xX2 := (X2.below hJ).cell; have xX3 := (X3.below hJ).cell; go_simp; exact hK.out _ _ rfl (br _ _))
 rintro w8 hJ _ rfl _ rfl _ ⟨e1, K1, s1, M1, E1, K1b, s1b, M1b, E1b, rfl, v1⟩ _ ⟨_, _, rfl, _⟩ _ ⟨e2, K2, s2, M2, E2, K2b, s2b, M2b, E2b, rfl, v2⟩ -; simp only [Jo.z]; replace X2 := X2.below hJ; replace X3 := X3.below hJ; replace XR := XR.below hJ; replace hT := hT.below hJ; replace HB := Hqb HB hJ; have xXR := XR.cell; have zXR0 := XR.frozen
 refine Jo.jnext (i := 5) (o := ⟨none, _, _, _, _, _⟩) (by kernel_rfl) rfl (fun K hK => ?_)
 go_simp; refine hK.out _ _ ?_; clear hK K xXR zXR0; have SX := StN.mk9 XR (.bool e2) (.int .i64 K2) (.bool s2) (.int .u64 M2) (.int .i64 E2) (.int .i64 K2b) (.bool s2b) (.int .u64 M2b) (.int .i64 E2b); refine Jo.jdone (by kernel_rfl) ?_; go_wp2; exact bodyPost_ret (by simp [results, Tryz.results30, go_sem, SX.box.cell]) rfl ⟨_, _, _, _, _, _, _, _, _, rfl, v2, (SX.below HB.out (by omega))⟩
end Go.Proofs.YtnbliijpjcmbjaaGreatDoor

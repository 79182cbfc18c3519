/-
 Contracts that the proof rests on.
-/
import Derived.Test.YtnbliijpjcmbjaaGreatDoorYPbg
namespace Go.Proofs.YtnbliijpjcmbjaaGreatDoor
set_option maxHeartbeats 8000000
open Go.RowKit
set_option linter.unusedVariables false
def Qt (up : Bool) (x y r : Int) : Prop :=
 if y = 0 then r = sgi (!up) TP else if x = 0 ∨ infp y = true then r = 0 else if infp x = true then r = sgi (decide (x < 0) != decide (y < 0)) TP else Sid up (sgi (decide (y < 0)) (vr x) * 2 ^ KK) (sgi (decide (y < 0)) (vr y)) r
theorem qt_none {up : Bool} {x r : Int} (h : r = sgi (!up) TP) : Qt up x 0 r := by
 unfold Qt
 rw [if_pos rfl]; exact h
theorem qt_zero {up : Bool} {x y r : Int} (hy : y ≠ 0) (h : x = 0 ∨ infp y = true) : Qt up x y r ↔ r = 0 := by
 unfold Qt
 rw [if_neg hy, if_pos h]
theorem qt_none' {up : Bool} {x r : Int} : Qt up x 0 r ↔ r = sgi (!up) TP := by
 unfold Qt
 rw [if_pos rfl]
theorem qt_inf {up : Bool} {x y r : Int} (hy : y ≠ 0) (h : ¬ (x = 0 ∨ infp y = true)) (hx : infp x = true) : Qt up x y r ↔ r = sgi (decide (x < 0) != decide (y < 0)) TP := by
 unfold Qt
 rw [if_neg hy, if_neg h, if_pos hx]
theorem qt_fin {up : Bool} {x y r : Int} (hy : y ≠ 0) (h : ¬ (x = 0 ∨ infp y = true)) (hx : infp x = false) : Qt up x y r ↔ Sid up (sgi (decide (y < 0)) (vr x) * 2 ^ KK) (sgi (decide (y < 0)) (vr y)) r := by
 unfold Qt
 rw [if_neg hy, if_neg h, if_neg (by rw [hx]; exact ff)]
theorem sg_vr_pos {y : Int} (hy : y ≠ 0) : 0 < sgi (decide (y < 0)) (vr y) := by
 by_cases c : y < 0
 · rw [decide_eq_true c, wsg_t]
   have := vr_pos (x := -y) (by omega)
   rw [vr_neg] at this; exact this
 · rw [decide_eq_false c, wsg_f]; exact vr_pos (by omega)
theorem qt_ex (up : Bool) (x y : Int) : ∃ r, Qt up x y r := by
 by_cases hy : y = 0
 · subst hy; exact ⟨_, qt_none rfl⟩
 · by_cases h : x = 0 ∨ infp y = true
   · exact ⟨0, (qt_zero hy h).2 rfl⟩
   · cases hx : infp x
     · obtain ⟨r, hr⟩ := sid_ex up (sgi (decide (y < 0)) (vr x) * 2 ^ KK) (sg_vr_pos hy); exact ⟨r, (qt_fin hy h hx).2 hr⟩
     · exact ⟨_, (qt_inf hy h hx).2 rfl⟩
theorem Qt.uniq {up : Bool} {x y r t : Int} (h : Qt up x y r) (k : Qt up x y t) : r = t := by
 by_cases hy : y = 0
 · subst hy; rw [qt_none'.1 h, qt_none'.1 k]
 · by_cases h0 : x = 0 ∨ infp y = true
   · rw [(qt_zero hy h0).1 h, (qt_zero hy h0).1 k]
   · cases hx : infp x
     · exact ((qt_fin hy h0 hx).1 h).uniq (sg_vr_pos hy) ((qt_fin hy h0 hx).1 k)
     · rw [(qt_inf hy h0 hx).1 h, (qt_inf hy h0 hx).1 k]
theorem Qt.bd {up : Bool} {x y r : Int} (h : Qt up x y r) : -19342822337206103650074625 ≤ r ∧ r ≤ 19342822337206103650074625 := by
 have htp := TP_eq
 have sg : ∀ s, -19342822337206103650074625 ≤ sgi s TP ∧ sgi s TP ≤ 19342822337206103650074625 := fun s => by
   rcases sgT s with e | e <;> rw [e] <;> omega
 by_cases hy : y = 0
 · subst hy; rw [qt_none'.1 h]; exact sg _
 · by_cases h0 : x = 0 ∨ infp y = true
   · rw [(qt_zero hy h0).1 h]
     decide
   · cases hx : infp x
     · exact ((qt_fin hy h0 hx).1 h).bd
     · rw [(qt_inf hy h0 hx).1 h]; exact sg _
theorem sgi_sgi (s : Bool) (x : Int) : sgi s (sgi s x) = x := by
 cases s
 · rw [wsg_f, wsg_f]
 · rw [wsg_t, wsg_t, Int.neg_neg]
def Rt (up : Bool) (X r : Int) : Prop :=
 if up = true then 0 < r ∧ r ≤ 19342822337206103650074625 ∧ (r < 19342822337206103650074625 → X ≤ vr r * vr r) ∧ vr (r - 1) * vr (r - 1) < X
 else 0 ≤ r ∧ r ≤ 19342822337206103650074624 ∧ vr r * vr r ≤ X ∧ (r < 19342822337206103650074624 → X < vr (r + 1) * vr (r + 1))
theorem rt_f {X r : Int} : Rt false X r ↔ (0 ≤ r ∧ r ≤ 19342822337206103650074624 ∧ vr r * vr r ≤ X ∧ (r < 19342822337206103650074624 → X < vr (r + 1) * vr (r + 1))) := by
 unfold Rt
 rw [if_neg ff]
theorem rt_t {X r : Int} : Rt true X r ↔ (0 < r ∧ r ≤ 19342822337206103650074625 ∧ (r < 19342822337206103650074625 → X ≤ vr r * vr r) ∧ vr (r - 1) * vr (r - 1) < X) := by
 unfold Rt
 rw [if_pos rfl]
theorem sq_le {a b : Int} (h0 : 0 ≤ a) (h : a ≤ b) : a * a ≤ b * b := Int.mul_le_mul h h h0 (by omega)
theorem sq_lt {a b : Int} (h0 : 0 ≤ a) (h : a < b) : a * a < b * b := by
 have h1 : a * a ≤ a * b := Int.mul_le_mul_of_nonneg_left (by omega) h0
 have h2 : a * b < b * b := Int.mul_lt_mul_of_pos_right h (by omega)
 omega
theorem vr_sq {r t : Int} (h0 : 0 ≤ r) (h : r ≤ t) : vr r * vr r ≤ vr t * vr t := sq_le (vr_nn h0) (vr_le h)
theorem Rt.uniq {up : Bool} {X r t : Int} (h : Rt up X r) (k : Rt up X t) : r = t := by
 have key : ∀ {r t}, Rt up X r → Rt up X t → ¬ r < t := by
   intro r t h k c
   cases up
   · obtain ⟨h1, h2, h3, h4⟩ := rt_f.1 h; obtain ⟨k1, k2, k3, k4⟩ := rt_f.1 k; have a := h4 (by omega); have b := vr_sq (r := r + 1) (t := t) (by omega) (by omega)
     omega
   · obtain ⟨h1, h2, h3, h4⟩ := rt_t.1 h; obtain ⟨k1, k2, k3, k4⟩ := rt_t.1 k; have a := h3 (by omega); have b := vr_sq (r := r) (t := t - 1) (by omega) (by omega)
     omega
 have a := key h k; have b := key k h
 omega
theorem rt_core {P : Int × Int} {Y V W : Int} (up : Bool) (nf : Nf P) (V0 : 0 < V) (h : (vl P = V ∧ Y = V * V) ∨ (V < vl P ∧ vl P < W ∧ V * V < Y ∧ Y < W * W ∧ ∀ s, ¬ (V < vr s ∧ vr s < W))) : Rt up Y (rnd up P.1 P.2) := by
 have hz := dn_self (r := 0) (by decide) (by decide)
 rw [show vr 0 = 0 from rfl] at hz
 have hP : 0 < vl P := by rcases h with ⟨a, _⟩ | ⟨a, _⟩ <;> omega
 cases up
 · have r1 := (rnd_spec nf).1; rw [rt_f]; generalize vl P = X at h hP r1; generalize rnd false P.1 P.2 = r at r1 ⊢; have r0 := hz.mono r1 (Int.le_of_lt hP); obtain ⟨d1, d2, d3, d4⟩ := r1; have e3 := d3 (by omega); have n0 := vr_nn r0
   refine ⟨r0, d2, ?_, fun c => ?_⟩
   · rcases h with ⟨a, b⟩ | ⟨a, b, c, d, e⟩
     · rw [b]; exact sq_le n0 (by omega)
     · have := e r
       have := sq_le (a := vr r) (b := V) n0 (by omega)
       omega
   · have e4 := d4 c
     rcases h with ⟨a, b⟩ | ⟨a, b, c, d, e⟩
     · rw [b]; exact sq_lt (Int.le_of_lt V0) (by omega)
     · have := e (r + 1)
       have := sq_le (a := W) (b := vr (r + 1)) (by omega) (by omega)
       omega
 · have r2 := (rnd_spec nf).2; rw [rt_t]; generalize vl P = X at h hP r2; generalize rnd true P.1 P.2 = r at r2 ⊢; obtain ⟨d1, d2, d3, d4⟩ := r2
   have r0 : 0 < r := by
     rcases Int.lt_or_le 0 r with q | q
     · exact q
     · exfalso
       have b := d3 (by omega); rw [vr_neg] at b
       have := vr_le q
       rw [show vr 0 = 0 from rfl] at this
       omega
   have n0 := vr_nn (x := r - 1) (by omega)
   refine ⟨r0, by omega, fun c => ?_, ?_⟩
   · have b := d3 (by omega); rw [vr_neg] at b
     rcases h with ⟨a, b2⟩ | ⟨a, b2, c, d, e⟩
     · rw [b2]; exact sq_le (Int.le_of_lt V0) (by omega)
     · have := e r
       have := sq_le (a := W) (b := vr r) (by omega) (by omega)
       omega
   · have b := d4 (by omega)
     rw [show -r + 1 = -(r - 1) by omega, vr_neg] at b
     rcases h with ⟨a, b2⟩ | ⟨a, b2, c, d, e⟩
     · rw [b2]; exact sq_lt n0 (by omega)
     · have := e (r - 1)
       have := sq_le (a := vr (r - 1)) (b := V) n0 (by omega)
       omega
theorem root_side {N s d : Nat} {e f : Int} {n κ : Nat} (up : Bool) (hs : s * s + d = N * 2 ^ n) (hs2 : N * 2 ^ n < (s + 1) * (s + 1)) (hb : 9223372036854775808 ≤ s) (hf : 2 * f = e - n) (hκ : κ = 500000) (hm : stk s d < 2 ^ κ) (h1 : -2900000 ≤ f) (h2 : f ≤ 2900000) (h3 : -4000000 ≤ e) (h4 : e ≤ 4000000) :
   Rt up ((N : Int) * 2 ^ (e + 2 * KK).toNat) (rnd up (mk ((stk s d : Nat) : Int) (f - 1)).1 (mk ((stk s d : Nat) : Int) (f - 1)).2) := by
 have hk := KK_eq; have nf := mk_nf ((stk s d : Nat) : Int) (f - 1); have ev := mk_vlB (z := ((stk s d : Nat) : Int)) (e := f - 1) (by rw [Int.natAbs_natCast, ← hκ]; exact hm) (by omega) (by omega); obtain ⟨u, hu⟩ : ∃ u : Nat, (f - 1 + (KK : Int)).toNat = u := ⟨_, rfl⟩
 have e1 : (e + 2 * (KK : Int)).toNat = n + (1 + u + (1 + u)) := by omega
 rw [hu] at ev; have hpu := p2pos u
 have eU : (2 : Int) ^ (1 + u) = 2 * 2 ^ u := by rw [Int.pow_add]; rfl
 rw [e1, Int.pow_add, Int.pow_add, eU, ← Int.mul_assoc]
 have hcast : ((N * 2 ^ n : Nat) : Int) = (N : Int) * 2 ^ n := by push_cast; rfl
 rw [← hcast]; clear hcast e1 hu eU hm; generalize N * 2 ^ n = X at hs hs2 ⊢; obtain ⟨S, hS⟩ : ∃ S : Int, (s : Int) = S := ⟨_, rfl⟩
 have c1 : S * S + (d : Int) = (X : Int) := by rw [← hS]; exact_mod_cast hs
 have c2 : (X : Int) < (S + 1) * (S + 1) := by rw [← hS]; exact_mod_cast hs2
 have sq : ∀ a : Int, (a * (2 * 2 ^ u)) * (a * (2 * 2 ^ u)) = a * a * (2 * 2 ^ u * (2 * 2 ^ u)) := fun a => by
   generalize (2 : Int) ^ u = U; rw [Int.mul_assoc a (2 * U), ← Int.mul_assoc (2 * U) a, Int.mul_comm (2 * U) a, Int.mul_assoc a (2 * U) (2 * U), ← Int.mul_assoc a a]
 have hW : 0 < 2 * (2 : Int) ^ u * (2 * 2 ^ u) := Int.mul_pos (by omega) (by omega)
 have p0 : 0 < S * (2 * 2 ^ u) := Int.mul_pos (by omega) (by omega)
 have g1 : 2 * S * 2 ^ u = S * (2 * 2 ^ u) := by rw [Int.mul_comm 2 S, Int.mul_assoc]
 have g2 : (2 * S + 2) * 2 ^ u = (S + 1) * (2 * 2 ^ u) := by rw [show 2 * S + 2 = (S + 1) * 2 by omega, Int.mul_assoc]
 by_cases hd : d = 0
 · have e3 : stk s d = 2 * s := by
     unfold stk
     rw [if_pos hd]
     omega
   rw [e3] at ev nf ⊢; refine rt_core (W := 0) up nf p0 (.inl ⟨?_, ?_⟩)
   · rw [ev, ← g1, ← hS]
     push_cast
     rfl
   · rw [sq]
     congr 1
     omega
 · have e3 : stk s d = 2 * s + 1 := by
     unfold stk
     rw [if_neg hd]
   rw [e3] at ev nf ⊢
   have ev2 : vl (mk ((2 * s + 1 : Nat) : Int) (f - 1)) = (2 * S + 1) * 2 ^ u := by
     rw [ev, ← hS]
     push_cast
     rfl
   refine rt_core (W := (2 * S + 2) * 2 ^ u) up nf p0 (.inr ⟨?_, ?_, ?_, ?_, ?_⟩)
   · rw [ev2, ← g1]; exact Int.mul_lt_mul_of_pos_right (by omega) hpu
   · rw [ev2]; exact Int.mul_lt_mul_of_pos_right (by omega) hpu
   · rw [sq]; exact Int.mul_lt_mul_of_pos_right (by omega) hW
   · rw [g2, sq]; exact Int.mul_lt_mul_of_pos_right c2 hW
   · intro t
     rw [← g1]; exact no_placeQ (by omega) t
theorem rnd_sgi {σ up : Bool} {z e : Int} : rnd up (mk (sgi σ z) e).1 (mk (sgi σ z) e).2 = sgi σ (rnd (up != σ) (mk z e).1 (mk z e).2) := by
 cases σ
 · rw [wsg_f, wsg_f]
   cases up <;> rfl
 · rw [wsg_t, wsg_t, mk_neg]; have h := rnd_turn (mk_nf z e) (!up); rw [Bool.not_not] at h; rw [h]
   cases up <;> rfl
theorem Sid.cross {up : Bool} {A B C D r : Int} (hB : 0 < B) (hD : 0 < D) (h : Sid up A B r) (e : A * D = C * B) : Sid up C D r := by
 obtain ⟨t, ht⟩ := sid_ex up C hD; have a := h.mono hB hD ht (Int.le_of_eq e); have b := ht.mono hD hB h (Int.le_of_eq e.symm)
 have c : r = t := by omega
 rw [c]; exact ht
theorem ratio_side {σ up : Bool} {α β : Nat} {e : Int} {n κ : Nat} (hβ : 0 < β) (hn : n = 70 + blen β) (hκ : κ = 500000) (hs : stk (α * 2 ^ n / β) (α * 2 ^ n % β) < 2 ^ κ) (h1 : -2900000 ≤ e - n) (h2 : e ≤ 2900000) :
   Sid up (sgi σ ((α : Int) * 2 ^ (e + KK).toNat)) (β : Int) (rnd up (mk (sgi σ ((stk (α * 2 ^ n / β) (α * 2 ^ n % β) : Nat) : Int)) (e - n - 1)).1 (mk (sgi σ ((stk (α * 2 ^ n / β) (α * 2 ^ n % β) : Nat) : Int)) (e - n - 1)).2) := by
 rw [rnd_sgi]
 exact sid_sgi (quo_side (up != σ) hβ (fun ha => quo_big hβ (by omega) ha) hκ hs h1 h2)
def Rq (up : Bool) (z y r : Int) : Prop := if y = 0 then r = sgi (!up) TP else Sid up (sgi (decide (y < 0)) z * 2 ^ KK) (sgi (decide (y < 0)) y) r
theorem rq_some {up : Bool} {z y r : Int} (hy : y ≠ 0) : Rq up z y r ↔ Sid up (sgi (decide (y < 0)) z * 2 ^ KK) (sgi (decide (y < 0)) y) r := by
 unfold Rq
 rw [if_neg hy]
theorem Rq.mono {up : Bool} {z y z' y' r t : Int} (hy : 0 < y) (hy' : 0 < y') (h : Rq up z y r) (k : Rq up z' y' t) (hle : z * y' ≤ z' * y) : r ≤ t := by
 have a := (rq_some (by omega)).1 h; have b := (rq_some (by omega)).1 k; rw [decide_eq_false (by omega), wsg_f, wsg_f] at a b; refine a.mono hy hy' b ?_
 have := Int.mul_le_mul_of_nonneg_right hle (Int.le_of_lt (p2pos KK))
 rw [Int.mul_right_comm z, Int.mul_right_comm z']; exact this
theorem odd_part {M : Int} (h1 : 9223372036854775808 ≤ M) (h2 : LQ M) : ∃ (α : Nat) (v : Nat), (mk M 0).1 = (α : Int) ∧ (mk M 0).2 = (v : Int) ∧ M = (α : Int) * 2 ^ v ∧ 0 < α ∧ α % 2 = 1 ∧ α < 18446744073709551616 ∧ v < 64 := by
 obtain ⟨m, rfl⟩ := Int.eq_ofNat_of_zero_le (show 0 ≤ M by omega)
 have h0 : m ≠ 0 := by omega
 have hv : v2 m < 64 := by
   have h3 := v2_pow_le h0
   have h4 : 2 ^ v2 m < 2 ^ 64 := by omega
   exact (Nat.pow_lt_pow_iff_right (by decide)).1 h4
 obtain ⟨m1, m2, m3, m4, m5⟩ := mk_in (z := (m : Int)) (e := 0) (by omega) (by decide) (by rw [Int.natAbs_natCast]; omega); rw [Int.natAbs_natCast] at m1 m2 m5; obtain ⟨s1, s2⟩ := v2_spec m h0
 have hp : 0 ≤ (mk (m : Int) 0).1 := by
   rcases Int.lt_or_le (mk (m : Int) 0).1 0 with q | q
   · have := m3.1 q; omega
   · exact q
 have e1 : (mk (m : Int) 0).1 = ((m / 2 ^ v2 m : Nat) : Int) := by omega
 refine ⟨m / 2 ^ v2 m, v2 m, e1, by rw [m1]; omega, ?_, by omega, s2, ?_, hv⟩
 · rw [← e1]; exact m5
 · have := Nat.div_le_self m (2 ^ v2 m)
   omega
theorem div_side {up s t : Bool} {M1 E1 M2 E2 x y : Int} {α β v w : Nat} {r : Int} (q1 : Fq 1 s M1 E1 x) (q2 : Fq 1 t M2 E2 y) (hM1 : M1 = (α : Int) * 2 ^ v) (hM2 : M2 = (β : Int) * 2 ^ w) (hβ : 0 < β) (hv : v < 64) (hw : w < 64)
   (h : Sid up (sgi (s != t) ((α : Int) * 2 ^ (E1 - E2 + v - w + (KK : Int)).toNat)) (β : Int) r) : Qt up x y r := by
 obtain ⟨a1, a2, a3, a4, a5, a6, a7, a8, a9⟩ := fq_vr q1; obtain ⟨b1, b2, b3, b4, b5, b6, b7, b8, b9⟩ := fq_vr q2; have hk := KK_eq; have ix := infp_fin a5 a6; have iy := infp_fin b5 b6
 refine (qt_fin b7 (by rw [iy]; rintro (c | c); exact a7 c; cases c) ix).2 ?_
 rw [b9, a8, b8, sgi_sgi]
 have hB : (0 : Int) < M2 * 2 ^ (E2 + KK).toNat := Int.mul_pos (by omega) (p2pos _)
 refine h.cross (by omega) hB ?_
 have e1 : sgi t (sgi s (M1 * 2 ^ (E1 + (KK : Int)).toNat)) = sgi (s != t) (M1 * 2 ^ (E1 + (KK : Int)).toNat) := by
   cases s <;> cases t
   · rfl
   · rfl
   · rfl
   · rw [show (true != true) = false from rfl, wsg_f, wsg_t, wsg_t, Int.neg_neg]
 rw [e1, sgi_mul, sgi_mul, sgi_mul]
 congr 1
 rw [hM1, hM2]
 have p1 : (2 : Int) ^ (E1 - E2 + v - w + (KK : Int)).toNat * (2 ^ w * 2 ^ (E2 + (KK : Int)).toNat) = 2 ^ v * 2 ^ (E1 + (KK : Int)).toNat * 2 ^ KK := by
   rw [← Int.pow_add, ← Int.pow_add, ← Int.pow_add, ← Int.pow_add]
   congr 1
   omega
 have four : ∀ α β a b c d e f : Int, a * (b * c) = d * e * f → α * a * (β * b * c) = α * d * e * f * β := fun α β a b c d e f h => by
   have h1 : α * a * (β * b * c) = α * β * (a * (b * c)) := by
     rw [Int.mul_assoc β b c, Int.mul_assoc α a, ← Int.mul_assoc a β, Int.mul_comm a β, Int.mul_assoc β a, ← Int.mul_assoc α β]
   have h2 : α * d * e * f * β = α * β * (d * e * f) := by
     rw [Int.mul_assoc α d e, Int.mul_assoc α (d * e) f, Int.mul_right_comm α]
   rw [h1, h2, h]
 exact four _ _ _ _ _ _ _ _ p1
theorem root_fin {up : Bool} {M E x : Int} {α v : Nat} {r : Int} (q : Fq 1 false M E x) (hM : M = (α : Int) * 2 ^ v) (hv : v < 64) (h : Rt up ((α : Int) * 2 ^ (E + v + 2 * (KK : Int)).toNat) r) : Rt up (vr x * 2 ^ KK) r := by
 obtain ⟨a1, a2, a3, a4, a5, a6, a7, a8, a9⟩ := fq_vr q; have hk := KK_eq
 have e : vr x * 2 ^ KK = (α : Int) * 2 ^ (E + v + 2 * (KK : Int)).toNat := by
   have ex : v + ((E + (KK : Int)).toNat + KK) = (E + v + 2 * (KK : Int)).toNat := by omega
   rw [a8, wsg_f, hM, Int.mul_assoc, Int.mul_assoc, ← Int.pow_add, ← Int.pow_add, ex]
 rw [e]; exact h
theorem rt_exact {up : Bool} {X r : Int} (h0 : 0 < r) (h1 : r < 19342822337206103650074625) (e : vr r * vr r = X) : Rt up X r := by
 have hr := vr_pos h0
 cases up
 · rw [rt_f]
   exact ⟨by omega, by omega, by omega, fun c => by rw [← e]; exact sq_lt (by omega) (vr_succ r)⟩
 · rw [rt_t]
   refine ⟨h0, by omega, fun _ => by omega, ?_⟩
   rw [← e]
   have := vr_succ (r - 1)
   rw [show r - 1 + 1 = r by omega] at this
   exact sq_lt (vr_nn (by omega)) this
def QF (q : Bool → Int → Int → Int) : Prop := ∀ up x y, Qt up x y (q up x y)
theorem qf_ex : ∃ q, QF q := by
 have h : ∀ p : Bool × Int × Int, ∃ r, Qt p.1 p.2.1 p.2.2 r := fun p => qt_ex p.1 p.2.1 p.2.2
 exact ⟨fun up x y => Classical.choose (h (up, x, y)), fun up x y => Classical.choose_spec (h (up, x, y))⟩
theorem QF.in {q : Bool → Int → Int → Int} (hq : QF q) (up : Bool) (x y : Int) : In (q up x y) := (hq up x y).bd
def divI (q : Bool → Int → Int → Int) (x y : Sp) : Sp := match x, y with
 | some (a, b), some (c, d) =>
   if c = 0 ∧ d = 0 then none
   else if ¬ (c ≤ 0 ∧ 0 ≤ d) then cor q a b c d
   else if (a ≤ 0 ∧ 0 ≤ b) ∨ (c < 0 ∧ 0 < d) then allI
   else if (0 < (if a < 0 then b else a)) ↔ (0 < (if d = 0 then c else d)) then mkI (q false (if a < 0 then b else a) (if d = 0 then c else d)) 19342822337206103650074625
   else mkI (-19342822337206103650074625) (q true (if a < 0 then b else a) (if d = 0 then c else d))
 | _, _ => none
section
variable {q : Bool → Int → Int → Int}
theorem dvI_zero {a b c d : Int} (h : c = 0 ∧ d = 0) : divI q (some (a, b)) (some (c, d)) = none := if_pos h
theorem dvI_cor {a b c d : Int} (h : ¬ (c ≤ 0 ∧ 0 ≤ d)) : divI q (some (a, b)) (some (c, d)) = cor q a b c d := by
 show (if _ then _ else _) = _
 rw [if_neg (by omega), if_pos h]
theorem dvI_all {a b c d : Int} (h0 : ¬ (c = 0 ∧ d = 0)) (h : c ≤ 0 ∧ 0 ≤ d) (k : (a ≤ 0 ∧ 0 ≤ b) ∨ (c < 0 ∧ 0 < d)) : divI q (some (a, b)) (some (c, d)) = allI := by
 show (if _ then _ else _) = _
 rw [if_neg h0, if_neg (fun e => e h), if_pos k]
theorem dvI_up {a b d : Int} (hd : 0 < d) (hab : a ≤ b) : (0 < a → divI q (some (a, b)) (some (0, d)) = mkI (q false a d) 19342822337206103650074625) ∧ (b < 0 → divI q (some (a, b)) (some (0, d)) = mkI (-19342822337206103650074625) (q true b d)) := by
 constructor
 · intro h
   show (if _ then _ else _) = _
   rw [if_neg (by omega), if_neg (by omega), if_neg (by omega), if_neg (show ¬ a < 0 by omega), if_neg (show ¬ d = 0 by omega), if_pos ⟨fun _ => hd, fun _ => h⟩]
 · intro h
   show (if _ then _ else _) = _
   rw [if_neg (by omega), if_neg (by omega), if_neg (by omega), if_pos (show a < 0 by omega), if_neg (show ¬ d = 0 by omega), if_neg (fun e => by have := e.2 hd; omega)]
theorem dvI_dn {a b c : Int} (hc : c < 0) (hab : a ≤ b) : (0 < a → divI q (some (a, b)) (some (c, 0)) = mkI (-19342822337206103650074625) (q true a c)) ∧ (b < 0 → divI q (some (a, b)) (some (c, 0)) = mkI (q false b c) 19342822337206103650074625) := by
 constructor
 · intro h
   show (if _ then _ else _) = _
   rw [if_neg (by omega), if_neg (by omega), if_neg (by omega), if_neg (show ¬ a < 0 by omega), if_pos (rfl : (0 : Int) = 0), if_neg (fun e => by have := e.1 h; omega)]
 · intro h
   show (if _ then _ else _) = _
   rw [if_neg (by omega), if_neg (by omega), if_neg (by omega), if_pos (show a < 0 by omega), if_pos (rfl : (0 : Int) = 0), if_pos ⟨fun e => by omega, fun e => by omega⟩]
end
set_option linter.unusedSimpArgs false
set_option maxRecDepth 100000
theorem lit_one (W : World) : Rd (W.alloc (.cells #[.int .u32 1] 104)) (some ⟨W.heap.size, 0, none⟩) 1 1 1 :=
 ⟨_, [1], (Own.new W [1]).all (Lim.cons (by decide) Lim.nil) (by simp) (Nat.le_refl _), by decide⟩
theorem stk_zero (q : Nat) : stk q 0 = q * 2 ^ (1 : Int).toNat := by
 unfold stk
 rw [if_pos rfl]
 show 2 * q + 0 = q * 2
 omega
theorem stk_one {q r : Nat} (h : r ≠ 0) : stk q r = q * 2 ^ (1 : Int).toNat + 1 := by
 unfold stk
 rw [if_neg h]
 show 2 * q + 1 = q * 2 + 1
 omega
theorem sg_sgi (s : Bool) (a : Nat) : sg s a = sgi s (a : Int) := by
 cases s
 · rw [sg_false, wsg_f]
 · rw [sg_true, wsg_t]
theorem jsticky_n {w : World} {A : Option Addr} {n c a r : Nat} (h : Rd w A n c a) (hn : n ≤ 100000) (hr : a * 2 ^ (1 : Int).toNat = r) : Calls Tryz.prog 116 #[.slice A n c, .bool false] w (P1 w (n + 5) r) := by
 have HR := Lib.hid hr; obtain ⟨d, hd⟩ : ∃ d, a * 2 ^ (1 : Int).toNat = d := ⟨_, rfl⟩; have HD := Lib.hid hd; rw [hd] at HR; clear hr hd
 go_enter Tryz.func116, Tryz.ntmps116
 go_wp2_with fail
 refine (rShlN (z := 1) h (by omega) (by decide) (by decide) HD.out).mono ?_; rintro ee w2 ⟨A1, n1, c1, rfl, p1, k1, B1⟩
 have hk1 : n1 ≤ n + 2 := by
   have : (1 : Int).toNat / 32 = 0 := rfl
   omega
 clear h k1
 obtain rfl : d = r := HR.out
 go_wp2
 go_ret
 exact ⟨A1, n1, c1, rfl, p1, by omega, B1⟩
theorem jsticky_y {w : World} {A : Option Addr} {n c a r : Nat} (h : Rd w A n c a) (hn : n ≤ 100000) (hr : a * 2 ^ (1 : Int).toNat + 1 = r) : Calls Tryz.prog 116 #[.slice A n c, .bool true] w (P1 w (n + 5) r) := by
 have HR := Lib.hid hr; obtain ⟨d, hd⟩ : ∃ d, a * 2 ^ (1 : Int).toNat = d := ⟨_, rfl⟩; have HD := Lib.hid hd; rw [hd] at HR; clear hr hd
 go_enter Tryz.func116, Tryz.ntmps116
 go_wp2_with fail
 refine (rShlN (z := 1) h (by omega) (by decide) (by decide) HD.out).mono ?_; rintro ee w2 ⟨A1, n1, c1, rfl, p1, k1, B1⟩
 have hk1 : n1 ≤ n + 2 := by
   have : (1 : Int).toNat / 32 = 0 := rfl
   omega
 clear h k1
 go_wp2_with fail
 refine (rAddE (p1.below (bel1 _ _)).rd (lit_one w2) (by omega) (by decide) HR.out).mono ?_; rintro ee w3 ⟨A2, n2, c2, rfl, p2, k2, B2⟩; go_wp2
 go_ret
 exact ⟨A2, n2, c2, rfl, p2, by omega, bt B1 (bt (bel1 _ _) B2)⟩
theorem jSticky {w : World} {A : Option Addr} {n c a d r : Nat} {cut : Bool} (h : Rd w A n c a) (hn : n ≤ 100000) (hc : decide (d ≠ 0) = cut) (hr : stk a d = r) : Calls Tryz.prog 116 #[.slice A n c, .bool cut] w (P1 w (n + 5) r) := by
 by_cases h0 : d = 0
 · subst h0
   obtain rfl : false = cut := hc
   exact jsticky_n h hn (by rw [← stk_zero]; exact hr)
 · obtain rfl : true = cut := by rw [← hc]; exact (decide_eq_true h0).symm
   exact jsticky_y h hn (by rw [← stk_one h0]; exact hr)
theorem jDivE {w : World} {A1 A2 : Option Addr} {n m c1 c2 a d q r : Nat} (h1 : Rd w A1 n c1 a) (h2 : Rd w A2 m c2 d) (hn : n ≤ 268435456) (hm : m ≤ 268435456) (hd : d ≠ 0) (hq : a / d = q) (hr : a % d = r) :
   Calls Tryz.prog 156 #[.slice A1 n c1, .slice A2 m c2] w (P3 w n q r) := hq ▸ hr ▸ rDiv h1 h2 hn hm hd
def Jo.Fact.dv (q r K : Nat) : Jo.Fact := ⟨fun v w => ∃ A n c B m d, v = .tuple #[.slice A n c, .slice B m d, .bool true] ∧ Nm w A n c q ∧ Nm w B m d r ∧ n ≤ K, fun v w w' h b => by
 obtain ⟨A, n, c, B, m, d, e, p, k, l⟩ := h; exact ⟨A, n, c, B, m, d, e, p.below b, k.below b, l⟩⟩
def Jo.Fact.nmA (a : Nat) : Jo.Fact := ⟨fun v w => ∃ A n c, v = .slice A n c ∧ Nm w A n c a, fun v w w' h b => by
 obtain ⟨A, n, c, e, p⟩ := h; exact ⟨A, n, c, e, p.below b⟩⟩
theorem stk_small {α β κ n : Nat} {N M : Nat} (hβ : 0 < β) (hn : n = 70 + blen β) (hα : α < 4294967296 ^ N) (hβ2 : β < 4294967296 ^ M) (hN : N ≤ 3500) (hM : M ≤ 3500) (hκ : κ = 500000) : stk (α * 2 ^ n / β) (α * 2 ^ n % β) < 2 ^ κ := by
 have e32 : ∀ k : Nat, (4294967296 : Nat) ^ k = 2 ^ (32 * k) := fun k => by rw [show (4294967296 : Nat) = 2 ^ 32 by decide, ← Nat.pow_mul]
 rw [e32] at hα hβ2
 have b1 : blen β ≤ 32 * M := blen_mono_le hβ2
 have q1 : α * 2 ^ n / β ≤ α * 2 ^ n := Nat.div_le_self _ _
 have q2 : α * 2 ^ n < 2 ^ (32 * N) * 2 ^ n := Nat.mul_lt_mul_of_pos_right hα (Nat.pow_pos (by decide))
 rw [← Nat.pow_add] at q2
 have q3 : stk (α * 2 ^ n / β) (α * 2 ^ n % β) ≤ 2 * (α * 2 ^ n / β) + 1 := by
   unfold stk
   split <;> omega
 have q4 : 2 ^ (32 * N + n + 1) ≤ 2 ^ κ := Nat.pow_le_pow_right (by decide) (by omega)
 rw [Nat.pow_succ] at q4
 omega
theorem jratio_l {w : World} {A B : Option Addr} {n c m d α β : Nat} {s t up : Bool} {e r : Int} (ha : Rd w A n c α) (hb : Rd w B m d β) (hn : n ≤ 3500) (hm : m ≤ 3500) (e1 : -2200000 ≤ e) (e2 : e ≤ 2200000) {Q R : Nat} (h0 : 0 < β) (hQ : α * 2 ^ (70 + blen β) / β = Q) (hR : α * 2 ^ (70 + blen β) % β = R) (hz : R ≠ 0) (hr : Sid up (sgi (s != t) ((α : Int) * 2 ^ (e + (KK : Int)).toNat)) (β : Int) r) : Calls Tryz.prog 135 #[.agg #[.bool s, .slice A n c], .agg #[.bool t, .slice B m d], .int .i64 e, .bool up] w (PN w r) := by
 have hbl := hb.blen_le; obtain ⟨by_, hby⟩ : ∃ k : Nat, 70 + blen β = k := ⟨_, rfl⟩; obtain ⟨κ, hκ⟩ : ∃ κ : Nat, κ = 500000 := ⟨_, rfl⟩; have hsmall := stk_small h0 hby.symm ha.bound hb.bound hn hm hκ; have hside := ratio_side (σ := (s != t)) (up := up) (e := e) h0 hby.symm hκ hsmall (by omega) (by omega); have hru := hside.uniq (by omega) hr; rw [hby] at hQ hR; rw [hQ, hR] at hru; obtain ⟨S, hS⟩ : ∃ S, stk Q R = S := ⟨_, rfl⟩
 rw [hS, ← sg_sgi] at hru; obtain ⟨X, hX⟩ : ∃ X, α * 2 ^ by_ = X := ⟨_, rfl⟩; rw [hX] at hQ hR; obtain ⟨b, hb2⟩ : ∃ b : Int, (by_ : Int) = b := ⟨_, rfl⟩; rw [hb2] at hru; obtain ⟨L, hL⟩ : ∃ L : Int, ((blen β : Nat) : Int) = L := ⟨_, rfl⟩
 have hLb : 70 + L = b := by omega
 have hb3 : 70 ≤ b ∧ b ≤ 200000 := by omega
 obtain ⟨P, hP⟩ : ∃ P, mk (sg (s != t) S) (e - b - 1) = P := ⟨_, rfl⟩; rw [hP] at hru
 have hPn : mk P.1 P.2 = P := by rw [← hP]; exact mk_nf _ _
 have HRR := Lib.hid (show rnd up (mk P.1 P.2).1 (mk P.1 P.2).2 = r by rw [hPn]; exact hru)
 have HP1 : Hid ((mk (sg (!(s == t)) S) (e - b - 1)).1 = P.1) := Lib.hid (by rw [← hP]; rfl)
 have HP2 : Hid ((mk (sg (!(s == t)) S) (e - b - 1)).2 = P.2) := Lib.hid (by rw [← hP]; rfl)
 have HL := Lib.hid hL
 have HW1 : Hid (IntKind.i64.wrap (70 + L) = b) := Lib.hid (by rw [hLb]; exact IntWalk.i64_in _ (by omega))
 have HW2 : Hid (IntKind.i64.wrap (e - b) = e - b) := Lib.hid (IntWalk.i64_in _ (by omega))
 have HW3 : Hid (IntKind.i64.wrap (e - b - 1) = e - b - 1) := Lib.hid (IntWalk.i64_in _ (by omega))
 have hbt : b.toNat = by_ := by omega
 have HX : Hid (α * 2 ^ b.toNat = X) := Lib.hid (by rw [hbt]; exact hX)
 have HQ := Lib.hid hQ; have HRM := Lib.hid hR; have HST := Lib.hid hS
 have hn0 : β ≠ 0 := by omega
 obtain ⟨σ, hσ⟩ : ∃ σ, cmpI (sg t β) 0 = σ := ⟨_, rfl⟩
 have hs0 : (σ == 0) = false := by
   have : σ ≠ 0 := by
     rw [← hσ]
     rcases sg_cases t β with ⟨a, _⟩ | ⟨_, _, a⟩ | ⟨_, _, a⟩
     · omega
     · rw [a]; decide
     · rw [a]; decide
   simpa using this
 have HS := Lib.hid hσ
 have hXn : n + b.toNat / 32 + 1 ≤ 20000 := by omega
 clear hside hr hru hsmall hbl hL hLb hX hb2 hP hPn hQ hR hS hby hκ hbt hσ
 go_enter Tryz.func135, Tryz.ntmps135
 go_upto_region 1 with (fail)
 generalize hW1 : ((w.alloc _).alloc _).alloc _ = w1 at *; obtain ⟨X4, X5, XR, HB⟩ := Bo.en3 hW1; replace ha := ha.below HB.out; replace hb := hb.below HB.out; clear hW1; have xX5 := X5.cell
 go_wp2_with fail
 refine (qSign (hb.wr t) HS.out).mono ?_; rintro ee w2 ⟨rfl, B⟩; clear xX5; replace X4 := X4.below B; replace X5 := X5.below B; replace XR := XR.below B; replace ha := ha.below B; replace hb := hb.below B; replace HB := Hqb HB B; clear B; have xX5 := X5.cell
 go_wp2_with fail
 refine (rLen hb HL.out).mono ?_; rintro ee w3 ⟨rfl, B⟩; clear xX5; replace X4 := X4.below B; replace X5 := X5.below B; replace XR := XR.below B; replace ha := ha.below B; replace hb := hb.below B; replace HB := Hqb HB B; clear B; have hw1 := HW1.out
 go_upto_region 4 with (fail)
 clear hw1; refine Jo.rk [0, 1, 2, 3, 4, 5, 6, 7, 8, 9, 10, 11, 12, 13] [some 25, some 26, some 27, some 28, some 29, some 30, some 31, some 24, some 32, some 33, some 34, some 10, some 11, some 12] [[], [0], [], [1, 2], [], [4], [3, 5], [6], [7], [7], [7], [8], [9], [10]] 14 0 [Jo.qp w.heap.size 1, Jo.Fact.eq (.slice A n c), Jo.qi b, Jo.Fact.nm X 20000, Jo.qp (w.heap.size + 1) 1, Jo.Fact.eq (.slice B m d), Jo.Fact.dv Q R 20000, Jo.Fact.dv Q R 20000, Jo.Fact.nm Q 20000, Jo.Fact.nmA R, Jo.qb true, Jo.Fact.nm Q 20000, Jo.Fact.nmA R, Jo.qb true] (by kernel_rfl) (by kernel_rfl) (by decide) rfl ?_ ?_
 · refine Jo.jm rfl ?_ ?_; rotate_left
   refine Jo.jm rfl ?_ ?_
   · rintro wj hJ _ rfl K hK; simp only [Jo.z] at hK ⊢; have xX41 := (X4.below hJ).a 1 (.slice A n c) rfl; go_simp; exact hK.out _ _ rfl (br _ _)
   refine Jo.jm rfl ?_ ?_; rotate_left
   refine Jo.jm rfl ?_ ?_
   · rintro wj hJ _ rfl _ rfl K hK; simp only [Jo.z] at hK ⊢; go_simp; refine (rShlN (z := b) (ha.below hJ) (by omega) (by omega) (by omega) HX.out).mono ?_; rintro ee wk ⟨A3, n3, c3, rfl, p3, k3, B⟩; exact hK.out _ _ ⟨A3, n3, c3, rfl, p3, Nat.le_trans k3 hXn⟩ B
   refine Jo.jm rfl ?_ ?_; rotate_left
   refine Jo.jm rfl ?_ ?_
   · rintro wj hJ _ rfl K hK; simp only [Jo.z] at hK ⊢; have xX51 := (X5.below hJ).a 1 (.slice B m d) rfl; go_simp; exact hK.out _ _ rfl (br _ _)
   refine Jo.jm rfl ?_ ?_
   · rintro wj hJ _ ⟨A3, n3, c3, rfl, p3, k3⟩ _ rfl K hK; simp only [Jo.z] at hK ⊢; go_simp; refine (jDivE p3.rd (hb.below hJ) (by omega) (by omega) hn0 HQ.out HRM.out).mono ?_; rintro ee wk ⟨A6, n6, c6, B6, m6, d6_, rfl, p6, r6, k6, l6, B⟩; exact hK.out _ _ ⟨A6, n6, c6, B6, m6, d6_, rfl, p6, r6, Nat.le_trans k6 k3⟩ B
   refine Jo.jm rfl ?_ ?_
   · rintro wj hJ _ ⟨A6, n6, c6, B6, m6, d6_, rfl, p6, r6, k6⟩ K hK; simp only [Jo.z] at hK ⊢; go_simp; exact hK.out _ _ ⟨A6, n6, c6, B6, m6, d6_, rfl, p6, r6, k6⟩ (br _ _)
   refine Jo.jm rfl ?_ ?_
   · rintro wj hJ _ ⟨A6, n6, c6, B6, m6, d6_, rfl, p6, r6, k6⟩ K hK; simp only [Jo.z] at hK ⊢; go_simp; exact hK.out _ _ ⟨A6, n6, c6, rfl, p6, k6⟩ (br _ _)
   refine Jo.jm rfl ?_ ?_
   · rintro wj hJ _ ⟨A6, n6, c6, B6, m6, d6_, rfl, p6, r6, k6⟩ K hK; simp only [Jo.z] at hK ⊢; go_simp; exact hK.out _ _ ⟨B6, m6, d6_, rfl, r6⟩ (br _ _)
   refine Jo.jm rfl ?_ ?_
   · rintro wj hJ _ ⟨A6, n6, c6, B6, m6, d6_, rfl, p6, r6, k6⟩ K hK; simp only [Jo.z] at hK ⊢; go_simp; exact hK.out _ _ rfl (br _ _)
   refine Jo.jm rfl ?_ ?_
   · rintro wj hJ _ ⟨A8, n8, c8, rfl, p8, k8⟩ K hK; simp only [Jo.z] at hK ⊢; go_simp; exact hK.out _ _ ⟨A8, n8, c8, rfl, p8, k8⟩ (br _ _)
   refine Jo.jm rfl ?_ ?_
   · rintro wj hJ _ ⟨A9, n9, c9, rfl, p9⟩ K hK; simp only [Jo.z] at hK ⊢; go_simp; exact hK.out _ _ ⟨A9, n9, c9, rfl, p9⟩ (br _ _)
   refine Jo.jm rfl ?_ ?_; rotate_left
   exact Jo.Steps.nil
   all_goals (rintro wj hJ; (repeat rintro _ rfl); intro K hK; simp only [Jo.z] at hK ⊢; go_simp; exact hK.out _ _ rfl (br _ _))
 rintro w4 hJ _ _ _ rfl _ rfl _ ⟨_, _, _, rfl, _⟩ _ _ _ rfl _ ⟨_, _, _, _, _, _, rfl, _⟩ _ ⟨_, _, _, _, _, _, rfl, _⟩ _ ⟨_, _, _, rfl, _⟩ _ ⟨_, _, _, rfl, _⟩ _ rfl _ ⟨A11, n11, c11, rfl, p11, k11⟩ _ ⟨A12, n12, c12, rfl, p12⟩ _ rfl -; simp only [Jo.z]; replace X4 := X4.below hJ; replace X5 := X5.below hJ; replace XR := XR.below hJ; replace ha := ha.below hJ; replace hb := hb.below hJ; replace HB := Hqb HB hJ
 refine Jo.jdone (by kernel_rfl) ?_; clear ha hb
 have hpos : 0 < n12 := by have := p12.pos; omega
 have hgt : (0 : Int) < n12 := by omega
 have hlen : n12 ≤ 1099511627776 := p12.rd.big
 clear p12
 go_wp2_with fail
 refine (jSticky (d := R) (cut := true) p11.rd (by omega) (decide_eq_true hz) HST.out).mono ?_; rintro ee w5 ⟨A5, n5, c5, rfl, p5, k5, B⟩; replace X4 := X4.below B; replace X5 := X5.below B; replace XR := XR.below B; replace p11 := p11.below B; replace HB := Hqb HB B; clear B; clear p11; have xX4 := X4.cell; have xX5 := X5.cell
 go_wp2_with fail
 refine (qMake (!(s == t)) p5.rd).mono ?_; rintro ee w6 ⟨s7, A7, n7, c7, rfl, p7, k7, B⟩; clear xX4 xX5; replace X4 := X4.below B; replace X5 := X5.below B; replace XR := XR.below B; replace p5 := p5.below B; replace HB := Hqb HB B; clear B; clear p5; have hw2 := HW2.out; have hw3 := HW3.out
 go_wp2_with fail
 refine (q3Make p7.wr (by omega) HP1.out HP2.out).mono ?_; rintro ee w7 ⟨s8, A8, n8, c8, rfl, p8, k8, B⟩; replace X4 := X4.below B; replace X5 := X5.below B; replace XR := XR.below B; replace p7 := p7.below B; replace HB := Hqb HB B; clear B; clear p7 hw2 hw3
 go_wp2_with fail
 refine (yRound p8.wr (by omega) rfl rfl HRR.out).mono ?_; rintro ee w8 ⟨K9, s9, M9, E9, rfl, q9, B⟩; replace X4 := X4.below B; replace X5 := X5.below B; replace XR := XR.below B; replace p8 := p8.below B; replace HB := Hqb HB B; clear B; have xXR := XR.cell; have zXR0 := XR.frozen; go_wp2; clear xXR zXR0; have SX := StN.mk4 XR (.int .i64 K9) (.bool s9) (.int .u64 M9) (.int .i64 E9)
 exact bodyPost_ret (by simp [results, Tryz.results135, go_sem, SX.box.cell]) rfl ⟨_, _, _, _, rfl, q9, (SX.below HB.out (by omega))⟩
theorem jratio_e {w : World} {A B : Option Addr} {n c m d α β : Nat} {s t up : Bool} {e r : Int} (ha : Rd w A n c α) (hb : Rd w B m d β) (hn : n ≤ 3500) (hm : m ≤ 3500) (e1 : -2200000 ≤ e) (e2 : e ≤ 2200000) {Q R : Nat} (h0 : 0 < β) (hQ : α * 2 ^ (70 + blen β) / β = Q) (hR : α * 2 ^ (70 + blen β) % β = R) (hz : R = 0) (hr : Sid up (sgi (s != t) ((α : Int) * 2 ^ (e + (KK : Int)).toNat)) (β : Int) r) : Calls Tryz.prog 135 #[.agg #[.bool s, .slice A n c], .agg #[.bool t, .slice B m d], .int .i64 e, .bool up] w (PN w r) := by
 have hbl := hb.blen_le; obtain ⟨by_, hby⟩ : ∃ k : Nat, 70 + blen β = k := ⟨_, rfl⟩; obtain ⟨κ, hκ⟩ : ∃ κ : Nat, κ = 500000 := ⟨_, rfl⟩; have hsmall := stk_small h0 hby.symm ha.bound hb.bound hn hm hκ; have hside := ratio_side (σ := (s != t)) (up := up) (e := e) h0 hby.symm hκ hsmall (by omega) (by omega); have hru := hside.uniq (by omega) hr; rw [hby] at hQ hR; rw [hQ, hR] at hru; obtain ⟨S, hS⟩ : ∃ S, stk Q R = S := ⟨_, rfl⟩
 rw [hS, ← sg_sgi] at hru; obtain ⟨X, hX⟩ : ∃ X, α * 2 ^ by_ = X := ⟨_, rfl⟩; rw [hX] at hQ hR; obtain ⟨b, hb2⟩ : ∃ b : Int, (by_ : Int) = b := ⟨_, rfl⟩; rw [hb2] at hru; obtain ⟨L, hL⟩ : ∃ L : Int, ((blen β : Nat) : Int) = L := ⟨_, rfl⟩
 have hLb : 70 + L = b := by omega
 have hb3 : 70 ≤ b ∧ b ≤ 200000 := by omega
 obtain ⟨P, hP⟩ : ∃ P, mk (sg (s != t) S) (e - b - 1) = P := ⟨_, rfl⟩; rw [hP] at hru
 have hPn : mk P.1 P.2 = P := by rw [← hP]; exact mk_nf _ _
 have HRR := Lib.hid (show rnd up (mk P.1 P.2).1 (mk P.1 P.2).2 = r by rw [hPn]; exact hru)
 have HP1 : Hid ((mk (sg (!(s == t)) S) (e - b - 1)).1 = P.1) := Lib.hid (by rw [← hP]; rfl)
 have HP2 : Hid ((mk (sg (!(s == t)) S) (e - b - 1)).2 = P.2) := Lib.hid (by rw [← hP]; rfl)
 have HL := Lib.hid hL
 have HW1 : Hid (IntKind.i64.wrap (70 + L) = b) := Lib.hid (by rw [hLb]; exact IntWalk.i64_in _ (by omega))
 have HW2 : Hid (IntKind.i64.wrap (e - b) = e - b) := Lib.hid (IntWalk.i64_in _ (by omega))
 have HW3 : Hid (IntKind.i64.wrap (e - b - 1) = e - b - 1) := Lib.hid (IntWalk.i64_in _ (by omega))
 have hbt : b.toNat = by_ := by omega
 have HX : Hid (α * 2 ^ b.toNat = X) := Lib.hid (by rw [hbt]; exact hX)
 have HQ := Lib.hid hQ; have HRM := Lib.hid hR; have HST := Lib.hid hS
 have hn0 : β ≠ 0 := by omega
 obtain ⟨σ, hσ⟩ : ∃ σ, cmpI (sg t β) 0 = σ := ⟨_, rfl⟩
 have hs0 : (σ == 0) = false := by
   have : σ ≠ 0 := by
     rw [← hσ]
     rcases sg_cases t β with ⟨a, _⟩ | ⟨_, _, a⟩ | ⟨_, _, a⟩
     · omega
     · rw [a]; decide
     · rw [a]; decide
   simpa using this
 have HS := Lib.hid hσ
 have hXn : n + b.toNat / 32 + 1 ≤ 20000 := by omega
 clear hside hr hru hsmall hbl hL hLb hX hb2 hP hPn hQ hR hS hby hκ hbt hσ
 go_enter Tryz.func135, Tryz.ntmps135
 go_upto_region 1 with (fail)
 generalize hW1 : ((w.alloc _).alloc _).alloc _ = w1 at *; obtain ⟨X4, X5, XR, HB⟩ := Bo.en3 hW1; replace ha := ha.below HB.out; replace hb := hb.below HB.out; clear hW1; have xX5 := X5.cell
 go_wp2_with fail
 refine (qSign (hb.wr t) HS.out).mono ?_; rintro ee w2 ⟨rfl, B⟩; clear xX5; replace X4 := X4.below B; replace X5 := X5.below B; replace XR := XR.below B; replace ha := ha.below B; replace hb := hb.below B; replace HB := Hqb HB B; clear B; have xX5 := X5.cell
 go_wp2_with fail
 refine (rLen hb HL.out).mono ?_; rintro ee w3 ⟨rfl, B⟩; clear xX5; replace X4 := X4.below B; replace X5 := X5.below B; replace XR := XR.below B; replace ha := ha.below B; replace hb := hb.below B; replace HB := Hqb HB B; clear B; have hw1 := HW1.out
 go_upto_region 4 with (fail)
 clear hw1; refine Jo.rk [0, 1, 2, 3, 4, 5, 6, 7, 8, 9, 10, 11, 12, 13] [some 25, some 26, some 27, some 28, some 29, some 30, some 31, some 24, some 32, some 33, some 34, some 10, some 11, some 12] [[], [0], [], [1, 2], [], [4], [3, 5], [6], [7], [7], [7], [8], [9], [10]] 14 0 [Jo.qp w.heap.size 1, Jo.Fact.eq (.slice A n c), Jo.qi b, Jo.Fact.nm X 20000, Jo.qp (w.heap.size + 1) 1, Jo.Fact.eq (.slice B m d), Jo.Fact.dv Q R 20000, Jo.Fact.dv Q R 20000, Jo.Fact.nm Q 20000, Jo.Fact.nmA R, Jo.qb true, Jo.Fact.nm Q 20000, Jo.Fact.nmA R, Jo.qb true] (by kernel_rfl) (by kernel_rfl) (by decide) rfl ?_ ?_
 · refine Jo.jm rfl ?_ ?_; rotate_left
   refine Jo.jm rfl ?_ ?_
   · rintro wj hJ _ rfl K hK; simp only [Jo.z] at hK ⊢; have xX41 := (X4.below hJ).a 1 (.slice A n c) rfl; go_simp; exact hK.out _ _ rfl (br _ _)
   refine Jo.jm rfl ?_ ?_; rotate_left
   refine Jo.jm rfl ?_ ?_
   · rintro wj hJ _ rfl _ rfl K hK; simp only [Jo.z] at hK ⊢; go_simp; refine (rShlN (z := b) (ha.below hJ) (by omega) (by omega) (by omega) HX.out).mono ?_; rintro ee wk ⟨A3, n3, c3, rfl, p3, k3, B⟩; exact hK.out _ _ ⟨A3, n3, c3, rfl, p3, Nat.le_trans k3 hXn⟩ B
   refine Jo.jm rfl ?_ ?_; rotate_left
   refine Jo.jm rfl ?_ ?_
   · rintro wj hJ _ rfl K hK; simp only [Jo.z] at hK ⊢; have xX51 := (X5.below hJ).a 1 (.slice B m d) rfl; go_simp; exact hK.out _ _ rfl (br _ _)
   refine Jo.jm rfl ?_ ?_
   · rintro wj hJ _ ⟨A3, n3, c3, rfl, p3, k3⟩ _ rfl K hK; simp only [Jo.z] at hK ⊢; go_simp; refine (jDivE p3.rd (hb.below hJ) (by omega) (by omega) hn0 HQ.out HRM.out).mono ?_; rintro ee wk ⟨A6, n6, c6, B6, m6, d6_, rfl, p6, r6, k6, l6, B⟩; exact hK.out _ _ ⟨A6, n6, c6, B6, m6, d6_, rfl, p6, r6, Nat.le_trans k6 k3⟩ B
   refine Jo.jm rfl ?_ ?_
   · rintro wj hJ _ ⟨A6, n6, c6, B6, m6, d6_, rfl, p6, r6, k6⟩ K hK; simp only [Jo.z] at hK ⊢; go_simp; exact hK.out _ _ ⟨A6, n6, c6, B6, m6, d6_, rfl, p6, r6, k6⟩ (br _ _)
   refine Jo.jm rfl ?_ ?_
   · rintro wj hJ _ ⟨A6, n6, c6, B6, m6, d6_, rfl, p6, r6, k6⟩ K hK; simp only [Jo.z] at hK ⊢; go_simp; exact hK.out _ _ ⟨A6, n6, c6, rfl, p6, k6⟩ (br _ _)
   refine Jo.jm rfl ?_ ?_
   · rintro wj hJ _ ⟨A6, n6, c6, B6, m6, d6_, rfl, p6, r6, k6⟩ K hK; simp only [Jo.z] at hK ⊢; go_simp; exact hK.out _ _ ⟨B6, m6, d6_, rfl, r6⟩ (br _ _)
   refine Jo.jm rfl ?_ ?_
   · rintro wj hJ _ ⟨A6, n6, c6, B6, m6, d6_, rfl, p6, r6, k6⟩ K hK; simp only [Jo.z] at hK ⊢; go_simp; exact hK.out _ _ rfl (br _ _)
   refine Jo.jm rfl ?_ ?_
   · rintro wj hJ _ ⟨A8, n8, c8, rfl, p8, k8⟩ K hK; simp only [Jo.z] at hK ⊢; go_simp; exact hK.out _ _ ⟨A8, n8, c8, rfl, p8, k8⟩ (br _ _)
   refine Jo.jm rfl ?_ ?_
   · rintro wj hJ _ ⟨A9, n9, c9, rfl, p9⟩ K hK; simp only [Jo.z] at hK ⊢; go_simp; exact hK.out _ _ ⟨A9, n9, c9, rfl, p9⟩ (br _ _)
   refine Jo.jm rfl ?_ ?_; rotate_left
   exact Jo.Steps.nil
   all_goals (rintro wj hJ; (repeat rintro _ rfl); intro K hK; simp only [Jo.z] at hK ⊢; go_simp; exact hK.out _ _ rfl (br _ _))
 rintro w4 hJ _ _ _ rfl _ rfl _ ⟨_, _, _, rfl, _⟩ _ _ _ rfl _ ⟨_, _, _, _, _, _, rfl, _⟩ _ ⟨_, _, _, _, _, _, rfl, _⟩ _ ⟨_, _, _, rfl, _⟩ _ ⟨_, _, _, rfl, _⟩ _ rfl _ ⟨A11, n11, c11, rfl, p11, k11⟩ _ ⟨A12, n12, c12, rfl, p12⟩ _ rfl -; simp only [Jo.z]; replace X4 := X4.below hJ; replace X5 := X5.below hJ; replace XR := XR.below hJ; replace ha := ha.below hJ; replace hb := hb.below hJ; replace HB := Hqb HB hJ
 refine Jo.jdone (by kernel_rfl) ?_; clear ha hb; subst hz
 obtain rfl : n12 = 0 := by have := p12.pos; omega
 clear p12
 go_wp2_with fail
 refine (jSticky (d := 0) (cut := false) p11.rd (by omega) (by decide) HST.out).mono ?_; rintro ee w5 ⟨A5, n5, c5, rfl, p5, k5, B⟩; replace X4 := X4.below B; replace X5 := X5.below B; replace XR := XR.below B; replace p11 := p11.below B; replace HB := Hqb HB B; clear B; clear p11; have xX4 := X4.cell; have xX5 := X5.cell
 go_wp2_with fail
 refine (qMake (!(s == t)) p5.rd).mono ?_; rintro ee w6 ⟨s7, A7, n7, c7, rfl, p7, k7, B⟩; clear xX4 xX5; replace X4 := X4.below B; replace X5 := X5.below B; replace XR := XR.below B; replace p5 := p5.below B; replace HB := Hqb HB B; clear B; clear p5; have hw2 := HW2.out; have hw3 := HW3.out
 go_wp2_with fail
 refine (q3Make p7.wr (by omega) HP1.out HP2.out).mono ?_; rintro ee w7 ⟨s8, A8, n8, c8, rfl, p8, k8, B⟩; replace X4 := X4.below B; replace X5 := X5.below B; replace XR := XR.below B; replace p7 := p7.below B; replace HB := Hqb HB B; clear B; clear p7 hw2 hw3
 go_wp2_with fail
 refine (yRound p8.wr (by omega) rfl rfl HRR.out).mono ?_; rintro ee w8 ⟨K9, s9, M9, E9, rfl, q9, B⟩; replace X4 := X4.below B; replace X5 := X5.below B; replace XR := XR.below B; replace p8 := p8.below B; replace HB := Hqb HB B; clear B; have xXR := XR.cell; have zXR0 := XR.frozen; go_wp2; clear xXR zXR0; have SX := StN.mk4 XR (.int .i64 K9) (.bool s9) (.int .u64 M9) (.int .i64 E9)
 exact bodyPost_ret (by simp [results, Tryz.results135, go_sem, SX.box.cell]) rfl ⟨_, _, _, _, rfl, q9, (SX.below HB.out (by omega))⟩
theorem jRatio0 {w : World} {A B : Option Addr} {n c m d α β : Nat} {s t up : Bool} {e r : Int} (ha : Rd w A n c α) (hb : Rd w B m d β) (hn : n ≤ 3500) (hm : m ≤ 3500) (e1 : -2200000 ≤ e) (e2 : e ≤ 2200000) (h0 : 0 < β) (hr : Sid up (sgi (s != t) ((α : Int) * 2 ^ (e + (KK : Int)).toNat)) (β : Int) r) : Calls Tryz.prog 135 #[.agg #[.bool s, .slice A n c], .agg #[.bool t, .slice B m d], .int .i64 e, .bool up] w (PN w r) := by
 by_cases hz : α * 2 ^ (70 + blen β) % β = 0
 · exact jratio_e ha hb hn hm e1 e2 h0 rfl rfl hz hr
 · exact jratio_l ha hb hn hm e1 e2 h0 rfl rfl hz hr
end Go.Proofs.YtnbliijpjcmbjaaGreatDoor

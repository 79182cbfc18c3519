/-
 Contracts that the proof rests on.
-/
import Derived.Test.YtnbliijpjcmbjaaGreatDoorYAbb
namespace Go.Proofs.YtnbliijpjcmbjaaGreatDoor
open Go.RowKit
set_option linter.unusedVariables false
theorem sid_exact {up : Bool} {A B r : Int} (hB : 0 < B) (h1 : -19342822337206103650074625 < r) (h2 : r < 19342822337206103650074625) (e : vr r * B = A) : Sid up A B r := by
 cases up
 · rw [sid_f]; exact DnQ.of_eq hB (dn_self h1 h2) e
 · rw [sid_t]; refine DnQ.of_eq hB (dn_self (r := -r) (by omega) (by omega)) ?_; rw [vr_neg, Int.neg_mul, e]
theorem sid_two {A B r t : Int} (hB : 0 < B) (h : Sid false A B r) (k : Sid true A B t) : (t = r ∧ vr r * B = A ∧ -19342822337206103650074625 < r ∧ r < 19342822337206103650074625) ∨ (t = r + 1 ∧ (-19342822337206103650074625 < r → vr r * B < A) ∧ (t < 19342822337206103650074625 → A < vr t * B)) := by
 rw [sid_f] at h; rw [sid_t] at k; obtain ⟨h1, h2, h3, h4⟩ := h; obtain ⟨k1, k2, k3, k4⟩ := k
 have k3' : t < 19342822337206103650074625 → A ≤ vr t * B := fun c => by
   have := k3 (by omega)
   rw [vr_neg, Int.neg_mul] at this
   omega
 have k4' : -19342822337206103650074624 < t → vr (t - 1) * B < A := fun c => by
   have := k4 (by omega)
   rw [show -t + 1 = -(t - 1) by omega, vr_neg, Int.neg_mul] at this
   omega
 have mul_le : ∀ a b : Int, a ≤ b → vr a * B ≤ vr b * B := fun a b c => Int.mul_le_mul_of_nonneg_right (vr_le c) (Int.le_of_lt hB)
 have hrt : r ≤ t := by
   rcases Int.lt_or_le t r with q | q
   · exfalso
     have a := h3 (by omega); have b := k3' (by omega)
     have c : vr t * B < vr r * B := Int.mul_lt_mul_of_pos_right (vr_lt q) hB
     omega
   · exact q
 have htr : t ≤ r + 1 := by
   rcases Int.lt_or_le (r + 1) t with q | q
   · exfalso
     have a := h4 (by omega); have b := k4' (by omega); have c := mul_le (r + 1) (t - 1) (by omega)
     omega
   · exact q
 by_cases e : t = r
 · subst e
   left
   have a := h3 (by omega); have b := k3' (by omega); exact ⟨rfl, by omega, by omega, by omega⟩
 · right
   have e2 : t = r + 1 := by omega
   refine ⟨e2, fun c => ?_, fun c => ?_⟩
   · have := k4' (by omega)
     rw [e2, show r + 1 - 1 = r by omega] at this
     exact this
   · have := h4 (by omega)
     rw [← e2] at this; exact this
def Qt (up : Bool) (x y r : Int) : Prop :=
 if y = 0 then r = sgi (!up) TP else if x = 0 ∨ infp y = true then r = 0 else if infp x = true then r = sgi (decide (x < 0) != decide (y < 0)) TP else Sid up (sgi (decide (y < 0)) (vr x) * 2 ^ KK) (sgi (decide (y < 0)) (vr y)) r
theorem qt_none {up : Bool} {x r : Int} (h : r = sgi (!up) TP) : Qt up x 0 r := by
 unfold Qt
 rw [if_pos rfl]; exact h
theorem qt_zero {up : Bool} {x y r : Int} (hy : y ≠ 0) (h : x = 0 ∨ infp y = true) : Qt up x y r ↔ r = 0 := by
 unfold Qt
 rw [if_neg hy, if_pos h]
theorem qt_none' {up : Bool} {x r : Int} : Qt up x 0 r ↔ r = sgi (!up) TP := by
 unfold Qt
 rw [if_pos rfl]
theorem qt_inf {up : Bool} {x y r : Int} (hy : y ≠ 0) (h : ¬ (x = 0 ∨ infp y = true)) (hx : infp x = true) : Qt up x y r ↔ r = sgi (decide (x < 0) != decide (y < 0)) TP := by
 unfold Qt
 rw [if_neg hy, if_neg h, if_pos hx]
theorem qt_fin {up : Bool} {x y r : Int} (hy : y ≠ 0) (h : ¬ (x = 0 ∨ infp y = true)) (hx : infp x = false) : Qt up x y r ↔ Sid up (sgi (decide (y < 0)) (vr x) * 2 ^ KK) (sgi (decide (y < 0)) (vr y)) r := by
 unfold Qt
 rw [if_neg hy, if_neg h, if_neg (by rw [hx]; exact ff)]
theorem sg_vr_pos {y : Int} (hy : y ≠ 0) : 0 < sgi (decide (y < 0)) (vr y) := by
 by_cases c : y < 0
 · rw [decide_eq_true c, wsg_t]
   have := vr_pos (x := -y) (by omega)
   rw [vr_neg] at this; exact this
 · rw [decide_eq_false c, wsg_f]; exact vr_pos (by omega)
theorem qt_ex (up : Bool) (x y : Int) : ∃ r, Qt up x y r := by
 by_cases hy : y = 0
 · subst hy; exact ⟨_, qt_none rfl⟩
 · by_cases h : x = 0 ∨ infp y = true
   · exact ⟨0, (qt_zero hy h).2 rfl⟩
   · cases hx : infp x
     · obtain ⟨r, hr⟩ := sid_ex up (sgi (decide (y < 0)) (vr x) * 2 ^ KK) (sg_vr_pos hy); exact ⟨r, (qt_fin hy h hx).2 hr⟩
     · exact ⟨_, (qt_inf hy h hx).2 rfl⟩
theorem Qt.uniq {up : Bool} {x y r t : Int} (h : Qt up x y r) (k : Qt up x y t) : r = t := by
 by_cases hy : y = 0
 · subst hy; rw [qt_none'.1 h, qt_none'.1 k]
 · by_cases h0 : x = 0 ∨ infp y = true
   · rw [(qt_zero hy h0).1 h, (qt_zero hy h0).1 k]
   · cases hx : infp x
     · exact ((qt_fin hy h0 hx).1 h).uniq (sg_vr_pos hy) ((qt_fin hy h0 hx).1 k)
     · rw [(qt_inf hy h0 hx).1 h, (qt_inf hy h0 hx).1 k]
theorem Qt.bd {up : Bool} {x y r : Int} (h : Qt up x y r) : -19342822337206103650074625 ≤ r ∧ r ≤ 19342822337206103650074625 := by
 have htp := TP_eq
 have sg : ∀ s, -19342822337206103650074625 ≤ sgi s TP ∧ sgi s TP ≤ 19342822337206103650074625 := fun s => by
   rcases sgT s with e | e <;> rw [e] <;> omega
 by_cases hy : y = 0
 · subst hy; rw [qt_none'.1 h]; exact sg _
 · by_cases h0 : x = 0 ∨ infp y = true
   · rw [(qt_zero hy h0).1 h]
     decide
   · cases hx : infp x
     · exact ((qt_fin hy h0 hx).1 h).bd
     · rw [(qt_inf hy h0 hx).1 h]; exact sg _
theorem sgi_sgi (s : Bool) (x : Int) : sgi s (sgi s x) = x := by
 cases s
 · rw [wsg_f, wsg_f]
 · rw [wsg_t, wsg_t, Int.neg_neg]
theorem qt_neg {up : Bool} {x y r : Int} (hy : y ≠ 0) (h : Qt up x y r) : Qt (!up) (-x) y (-r) := by
 by_cases h0 : x = 0 ∨ infp y = true
 · rw [(qt_zero hy h0).1 h]
   exact (qt_zero hy (h0.imp (fun e => by omega) id)).2 rfl
 · have h0' : ¬ (-x = 0 ∨ infp y = true) := fun c => h0 (c.imp (fun e => by omega) id)
   cases hx : infp x
   · refine (qt_fin hy h0' (by rw [infp_neg]; exact hx)).2 ?_
     have := ((qt_fin hy h0 hx).1 h).neg
     have e : sgi (decide (y < 0)) (vr (-x)) * 2 ^ KK = -(sgi (decide (y < 0)) (vr x) * 2 ^ KK) := by
       rw [vr_neg, ← Int.neg_mul]
       congr 1
       cases decide (y < 0)
       · rw [wsg_f, wsg_f]
       · rw [wsg_t, wsg_t]
     rw [e]; exact this
   · refine (qt_inf hy h0' (by rw [infp_neg]; exact hx)).2 ?_
     rw [(qt_inf hy h0 hx).1 h, neg_sign (fun e => h0 (.inl e)), ← sgi_neg]
     cases decide (x < 0) <;> cases decide (y < 0) <;> rfl
theorem qt_negs {up : Bool} {x y r : Int} (hy : y ≠ 0) (h : Qt up x y r) : Qt up (-x) (-y) r := by
 have hy' : -y ≠ 0 := by omega
 by_cases h0 : x = 0 ∨ infp y = true
 · rw [(qt_zero hy h0).1 h]
   exact (qt_zero hy' (h0.imp (fun e => by omega) (fun e => by rw [infp_neg]; exact e))).2 rfl
 · have h0' : ¬ (-x = 0 ∨ infp (-y) = true) := fun c => h0 (c.imp (fun e => by omega) (fun e => by rw [infp_neg] at e; exact e))
   cases hx : infp x
   · refine (qt_fin hy' h0' (by rw [infp_neg]; exact hx)).2 ?_
     have := (qt_fin hy h0 hx).1 h
     have e : ∀ z, sgi (decide (-y < 0)) (vr (-z)) = sgi (decide (y < 0)) (vr z) := fun z => by
       rw [neg_sign hy, vr_neg]
       cases decide (y < 0)
       · rw [show (!false) = true from rfl, wsg_t, wsg_f, Int.neg_neg]
       · rw [show (!true) = false from rfl, wsg_t, wsg_f]
     rw [e, e]; exact this
   · refine (qt_inf hy' h0' (by rw [infp_neg]; exact hx)).2 ?_
     rw [(qt_inf hy h0 hx).1 h, neg_sign (fun e => h0 (.inl e)), neg_sign hy]
     cases decide (x < 0) <;> cases decide (y < 0) <;> rfl
def Rt (up : Bool) (X r : Int) : Prop :=
 if up = true then 0 < r ∧ r ≤ 19342822337206103650074625 ∧ (r < 19342822337206103650074625 → X ≤ vr r * vr r) ∧ vr (r - 1) * vr (r - 1) < X
 else 0 ≤ r ∧ r ≤ 19342822337206103650074624 ∧ vr r * vr r ≤ X ∧ (r < 19342822337206103650074624 → X < vr (r + 1) * vr (r + 1))
theorem rt_f {X r : Int} : Rt false X r ↔ (0 ≤ r ∧ r ≤ 19342822337206103650074624 ∧ vr r * vr r ≤ X ∧ (r < 19342822337206103650074624 → X < vr (r + 1) * vr (r + 1))) := by
 unfold Rt
 rw [if_neg ff]
theorem rt_t {X r : Int} : Rt true X r ↔ (0 < r ∧ r ≤ 19342822337206103650074625 ∧ (r < 19342822337206103650074625 → X ≤ vr r * vr r) ∧ vr (r - 1) * vr (r - 1) < X) := by
 unfold Rt
 rw [if_pos rfl]
theorem sq_le {a b : Int} (h0 : 0 ≤ a) (h : a ≤ b) : a * a ≤ b * b := Int.mul_le_mul h h h0 (by omega)
theorem sq_lt {a b : Int} (h0 : 0 ≤ a) (h : a < b) : a * a < b * b := by
 have h1 : a * a ≤ a * b := Int.mul_le_mul_of_nonneg_left (by omega) h0
 have h2 : a * b < b * b := Int.mul_lt_mul_of_pos_right h (by omega)
 omega
theorem vr_sq {r t : Int} (h0 : 0 ≤ r) (h : r ≤ t) : vr r * vr r ≤ vr t * vr t := sq_le (vr_nn h0) (vr_le h)
theorem Rt.uniq {up : Bool} {X r t : Int} (h : Rt up X r) (k : Rt up X t) : r = t := by
 have key : ∀ {r t}, Rt up X r → Rt up X t → ¬ r < t := by
   intro r t h k c
   cases up
   · obtain ⟨h1, h2, h3, h4⟩ := rt_f.1 h; obtain ⟨k1, k2, k3, k4⟩ := rt_f.1 k; have a := h4 (by omega); have b := vr_sq (r := r + 1) (t := t) (by omega) (by omega)
     omega
   · obtain ⟨h1, h2, h3, h4⟩ := rt_t.1 h; obtain ⟨k1, k2, k3, k4⟩ := rt_t.1 k; have a := h3 (by omega); have b := vr_sq (r := r) (t := t - 1) (by omega) (by omega)
     omega
 have a := key h k; have b := key k h
 omega
theorem rt_core {P : Int × Int} {Y V W : Int} (up : Bool) (nf : Nf P) (V0 : 0 < V) (h : (vl P = V ∧ Y = V * V) ∨ (V < vl P ∧ vl P < W ∧ V * V < Y ∧ Y < W * W ∧ ∀ s, ¬ (V < vr s ∧ vr s < W))) : Rt up Y (rnd up P.1 P.2) := by
 have hz := dn_self (r := 0) (by decide) (by decide)
 rw [show vr 0 = 0 from rfl] at hz
 have hP : 0 < vl P := by rcases h with ⟨a, _⟩ | ⟨a, _⟩ <;> omega
 cases up
 · have r1 := (rnd_spec nf).1; rw [rt_f]; generalize vl P = X at h hP r1; generalize rnd false P.1 P.2 = r at r1 ⊢; have r0 := hz.mono r1 (Int.le_of_lt hP); obtain ⟨d1, d2, d3, d4⟩ := r1; have e3 := d3 (by omega); have n0 := vr_nn r0
   refine ⟨r0, d2, ?_, fun c => ?_⟩
   · rcases h with ⟨a, b⟩ | ⟨a, b, c, d, e⟩
     · rw [b]; exact sq_le n0 (by omega)
     · have := e r
       have := sq_le (a := vr r) (b := V) n0 (by omega)
       omega
   · have e4 := d4 c
     rcases h with ⟨a, b⟩ | ⟨a, b, c, d, e⟩
     · rw [b]; exact sq_lt (Int.le_of_lt V0) (by omega)
     · have := e (r + 1)
       have := sq_le (a := W) (b := vr (r + 1)) (by omega) (by omega)
       omega
 · have r2 := (rnd_spec nf).2; rw [rt_t]; generalize vl P = X at h hP r2; generalize rnd true P.1 P.2 = r at r2 ⊢; obtain ⟨d1, d2, d3, d4⟩ := r2
   have r0 : 0 < r := by
     rcases Int.lt_or_le 0 r with q | q
     · exact q
     · exfalso
       have b := d3 (by omega); rw [vr_neg] at b
       have := vr_le q
       rw [show vr 0 = 0 from rfl] at this
       omega
   have n0 := vr_nn (x := r - 1) (by omega)
   refine ⟨r0, by omega, fun c => ?_, ?_⟩
   · have b := d3 (by omega); rw [vr_neg] at b
     rcases h with ⟨a, b2⟩ | ⟨a, b2, c, d, e⟩
     · rw [b2]; exact sq_le (Int.le_of_lt V0) (by omega)
     · have := e r
       have := sq_le (a := W) (b := vr r) (by omega) (by omega)
       omega
   · have b := d4 (by omega)
     rw [show -r + 1 = -(r - 1) by omega, vr_neg] at b
     rcases h with ⟨a, b2⟩ | ⟨a, b2, c, d, e⟩
     · rw [b2]; exact sq_lt n0 (by omega)
     · have := e (r - 1)
       have := sq_le (a := vr (r - 1)) (b := V) n0 (by omega)
       omega
theorem root_side {N s d : Nat} {e f : Int} {n κ : Nat} (up : Bool) (hs : s * s + d = N * 2 ^ n) (hs2 : N * 2 ^ n < (s + 1) * (s + 1)) (hb : 9223372036854775808 ≤ s) (hf : 2 * f = e - n) (hκ : κ = 500000) (hm : stk s d < 2 ^ κ) (h1 : -2900000 ≤ f) (h2 : f ≤ 2900000) (h3 : -4000000 ≤ e) (h4 : e ≤ 4000000) :
   Rt up ((N : Int) * 2 ^ (e + 2 * KK).toNat) (rnd up (mk ((stk s d : Nat) : Int) (f - 1)).1 (mk ((stk s d : Nat) : Int) (f - 1)).2) := by
 have hk := KK_eq; have nf := mk_nf ((stk s d : Nat) : Int) (f - 1); have ev := mk_vlB (z := ((stk s d : Nat) : Int)) (e := f - 1) (by rw [Int.natAbs_natCast, ← hκ]; exact hm) (by omega) (by omega); obtain ⟨u, hu⟩ : ∃ u : Nat, (f - 1 + (KK : Int)).toNat = u := ⟨_, rfl⟩
 have e1 : (e + 2 * (KK : Int)).toNat = n + (1 + u + (1 + u)) := by omega
 rw [hu] at ev; have hpu := p2pos u
 have eU : (2 : Int) ^ (1 + u) = 2 * 2 ^ u := by rw [Int.pow_add]; rfl
 rw [e1, Int.pow_add, Int.pow_add, eU, ← Int.mul_assoc]
 have hcast : ((N * 2 ^ n : Nat) : Int) = (N : Int) * 2 ^ n := by push_cast; rfl
 rw [← hcast]; clear hcast e1 hu eU hm; generalize N * 2 ^ n = X at hs hs2 ⊢; obtain ⟨S, hS⟩ : ∃ S : Int, (s : Int) = S := ⟨_, rfl⟩
 have c1 : S * S + (d : Int) = (X : Int) := by rw [← hS]; exact_mod_cast hs
 have c2 : (X : Int) < (S + 1) * (S + 1) := by rw [← hS]; exact_mod_cast hs2
 have sq : ∀ a : Int, (a * (2 * 2 ^ u)) * (a * (2 * 2 ^ u)) = a * a * (2 * 2 ^ u * (2 * 2 ^ u)) := fun a => by
   generalize (2 : Int) ^ u = U; rw [Int.mul_assoc a (2 * U), ← Int.mul_assoc (2 * U) a, Int.mul_comm (2 * U) a, Int.mul_assoc a (2 * U) (2 * U), ← Int.mul_assoc a a]
 have hW : 0 < 2 * (2 : Int) ^ u * (2 * 2 ^ u) := Int.mul_pos (by omega) (by omega)
 have p0 : 0 < S * (2 * 2 ^ u) := Int.mul_pos (by omega) (by omega)
 have g1 : 2 * S * 2 ^ u = S * (2 * 2 ^ u) := by rw [Int.mul_comm 2 S, Int.mul_assoc]
 have g2 : (2 * S + 2) * 2 ^ u = (S + 1) * (2 * 2 ^ u) := by rw [show 2 * S + 2 = (S + 1) * 2 by omega, Int.mul_assoc]
 by_cases hd : d = 0
 · have e3 : stk s d = 2 * s := by
     unfold stk
     rw [if_pos hd]
     omega
   rw [e3] at ev nf ⊢; refine rt_core (W := 0) up nf p0 (.inl ⟨?_, ?_⟩)
   · rw [ev, ← g1, ← hS]
     push_cast
     rfl
   · rw [sq]
     congr 1
     omega
 · have e3 : stk s d = 2 * s + 1 := by
     unfold stk
     rw [if_neg hd]
   rw [e3] at ev nf ⊢
   have ev2 : vl (mk ((2 * s + 1 : Nat) : Int) (f - 1)) = (2 * S + 1) * 2 ^ u := by
     rw [ev, ← hS]
     push_cast
     rfl
   refine rt_core (W := (2 * S + 2) * 2 ^ u) up nf p0 (.inr ⟨?_, ?_, ?_, ?_, ?_⟩)
   · rw [ev2, ← g1]; exact Int.mul_lt_mul_of_pos_right (by omega) hpu
   · rw [ev2]; exact Int.mul_lt_mul_of_pos_right (by omega) hpu
   · rw [sq]; exact Int.mul_lt_mul_of_pos_right (by omega) hW
   · rw [g2, sq]; exact Int.mul_lt_mul_of_pos_right c2 hW
   · intro t
     rw [← g1]; exact no_placeQ (by omega) t
theorem rnd_sgi {σ up : Bool} {z e : Int} : rnd up (mk (sgi σ z) e).1 (mk (sgi σ z) e).2 = sgi σ (rnd (up != σ) (mk z e).1 (mk z e).2) := by
 cases σ
 · rw [wsg_f, wsg_f]
   cases up <;> rfl
 · rw [wsg_t, wsg_t, mk_neg]; have h := rnd_turn (mk_nf z e) (!up); rw [Bool.not_not] at h; rw [h]
   cases up <;> rfl
theorem Sid.cross {up : Bool} {A B C D r : Int} (hB : 0 < B) (hD : 0 < D) (h : Sid up A B r) (e : A * D = C * B) : Sid up C D r := by
 obtain ⟨t, ht⟩ := sid_ex up C hD; have a := h.mono hB hD ht (Int.le_of_eq e); have b := ht.mono hD hB h (Int.le_of_eq e.symm)
 have c : r = t := by omega
 rw [c]; exact ht
def Rq (up : Bool) (z y r : Int) : Prop := if y = 0 then r = sgi (!up) TP else Sid up (sgi (decide (y < 0)) z * 2 ^ KK) (sgi (decide (y < 0)) y) r
theorem rq_some {up : Bool} {z y r : Int} (hy : y ≠ 0) : Rq up z y r ↔ Sid up (sgi (decide (y < 0)) z * 2 ^ KK) (sgi (decide (y < 0)) y) r := by
 unfold Rq
 rw [if_neg hy]
theorem Rq.mono {up : Bool} {z y z' y' r t : Int} (hy : 0 < y) (hy' : 0 < y') (h : Rq up z y r) (k : Rq up z' y' t) (hle : z * y' ≤ z' * y) : r ≤ t := by
 have a := (rq_some (by omega)).1 h; have b := (rq_some (by omega)).1 k; rw [decide_eq_false (by omega), wsg_f, wsg_f] at a b; refine a.mono hy hy' b ?_
 have := Int.mul_le_mul_of_nonneg_right hle (Int.le_of_lt (p2pos KK))
 rw [Int.mul_right_comm z, Int.mul_right_comm z']; exact this
theorem div_side {up s t : Bool} {M1 E1 M2 E2 x y : Int} {α β v w : Nat} {r : Int} (q1 : Fq 1 s M1 E1 x) (q2 : Fq 1 t M2 E2 y) (hM1 : M1 = (α : Int) * 2 ^ v) (hM2 : M2 = (β : Int) * 2 ^ w) (hβ : 0 < β) (hv : v < 64) (hw : w < 64)
   (h : Sid up (sgi (s != t) ((α : Int) * 2 ^ (E1 - E2 + v - w + (KK : Int)).toNat)) (β : Int) r) : Qt up x y r := by
 obtain ⟨a1, a2, a3, a4, a5, a6, a7, a8, a9⟩ := fq_vr q1; obtain ⟨b1, b2, b3, b4, b5, b6, b7, b8, b9⟩ := fq_vr q2; have hk := KK_eq; have ix := infp_fin a5 a6; have iy := infp_fin b5 b6
 refine (qt_fin b7 (by rw [iy]; rintro (c | c); exact a7 c; cases c) ix).2 ?_
 rw [b9, a8, b8, sgi_sgi]
 have hB : (0 : Int) < M2 * 2 ^ (E2 + KK).toNat := Int.mul_pos (by omega) (p2pos _)
 refine h.cross (by omega) hB ?_
 have e1 : sgi t (sgi s (M1 * 2 ^ (E1 + (KK : Int)).toNat)) = sgi (s != t) (M1 * 2 ^ (E1 + (KK : Int)).toNat) := by
   cases s <;> cases t
   · rfl
   · rfl
   · rfl
   · rw [show (true != true) = false from rfl, wsg_f, wsg_t, wsg_t, Int.neg_neg]
 rw [e1, sgi_mul, sgi_mul, sgi_mul]
 congr 1
 rw [hM1, hM2]
 have p1 : (2 : Int) ^ (E1 - E2 + v - w + (KK : Int)).toNat * (2 ^ w * 2 ^ (E2 + (KK : Int)).toNat) = 2 ^ v * 2 ^ (E1 + (KK : Int)).toNat * 2 ^ KK := by
   rw [← Int.pow_add, ← Int.pow_add, ← Int.pow_add, ← Int.pow_add]
   congr 1
   omega
 have four : ∀ α β a b c d e f : Int, a * (b * c) = d * e * f → α * a * (β * b * c) = α * d * e * f * β := fun α β a b c d e f h => by
   have h1 : α * a * (β * b * c) = α * β * (a * (b * c)) := by
     rw [Int.mul_assoc β b c, Int.mul_assoc α a, ← Int.mul_assoc a β, Int.mul_comm a β, Int.mul_assoc β a, ← Int.mul_assoc α β]
   have h2 : α * d * e * f * β = α * β * (d * e * f) := by
     rw [Int.mul_assoc α d e, Int.mul_assoc α (d * e) f, Int.mul_right_comm α]
   rw [h1, h2, h]
 exact four _ _ _ _ _ _ _ _ p1
theorem root_fin {up : Bool} {M E x : Int} {α v : Nat} {r : Int} (q : Fq 1 false M E x) (hM : M = (α : Int) * 2 ^ v) (hv : v < 64) (h : Rt up ((α : Int) * 2 ^ (E + v + 2 * (KK : Int)).toNat) r) : Rt up (vr x * 2 ^ KK) r := by
 obtain ⟨a1, a2, a3, a4, a5, a6, a7, a8, a9⟩ := fq_vr q; have hk := KK_eq
 have e : vr x * 2 ^ KK = (α : Int) * 2 ^ (E + v + 2 * (KK : Int)).toNat := by
   have ex : v + ((E + (KK : Int)).toNat + KK) = (E + v + 2 * (KK : Int)).toNat := by omega
   rw [a8, wsg_f, hM, Int.mul_assoc, Int.mul_assoc, ← Int.pow_add, ← Int.pow_add, ex]
 rw [e]; exact h
theorem rt_exact {up : Bool} {X r : Int} (h0 : 0 < r) (h1 : r < 19342822337206103650074625) (e : vr r * vr r = X) : Rt up X r := by
 have hr := vr_pos h0
 cases up
 · rw [rt_f]
   exact ⟨by omega, by omega, by omega, fun c => by rw [← e]; exact sq_lt (by omega) (vr_succ r)⟩
 · rw [rt_t]
   refine ⟨h0, by omega, fun _ => by omega, ?_⟩
   rw [← e]
   have := vr_succ (r - 1)
   rw [show r - 1 + 1 = r by omega] at this
   exact sq_lt (vr_nn (by omega)) this
def QF (q : Bool → Int → Int → Int) : Prop := ∀ up x y, Qt up x y (q up x y)
theorem qf_ex : ∃ q, QF q := by
 have h : ∀ p : Bool × Int × Int, ∃ r, Qt p.1 p.2.1 p.2.2 r := fun p => qt_ex p.1 p.2.1 p.2.2
 exact ⟨fun up x y => Classical.choose (h (up, x, y)), fun up x y => Classical.choose_spec (h (up, x, y))⟩
theorem QF.in {q : Bool → Int → Int → Int} (hq : QF q) (up : Bool) (x y : Int) : In (q up x y) := (hq up x y).bd
theorem qt_sid {up : Bool} {x y r : Int} (h : Qt up x y r) (hy : 0 < y) (hx : infp x = false) (hi : infp y = false) : Sid up (vr x * 2 ^ KK) (vr y) r := by
 by_cases h0 : x = 0
 · have : r = 0 := (qt_zero (by omega) (.inl h0)).1 h
   subst this; subst h0; refine sid_exact (vr_pos hy) (by decide) (by decide) ?_
   rw [show vr 0 = 0 from rfl, Int.zero_mul, Int.zero_mul]
 · have := (qt_fin (by omega) (by simp [h0, hi]) hx).1 h
   rw [decide_eq_false (show ¬ y < 0 by omega), wsg_f, wsg_f] at this
   exact this
theorem qt_top {up : Bool} {x y r : Int} (h : Qt up x y r) (hy : 0 < y) (hi : infp y = false) (hx : infp x = true) : r = x := by
 have htp := TP_eq; have h2 := infp_true hx
 have := (qt_inf (by omega) (fun e => e.elim (fun e => by omega) (fun e => by rw [hi] at e; cases e)) hx).1 h
 rw [this, decide_eq_false (show ¬ y < 0 by omega)]
 rcases h2 with rfl | rfl
 · rw [decide_eq_false (by decide), show (false != false) = false from rfl, wsg_f, htp]
 · rw [decide_eq_true (by decide), show (true != false) = true from rfl, wsg_t, htp]
theorem qt_x {up : Bool} {x x2 y r r2 : Int} (hx : In x) (hx2 : In x2) (hy : 0 < y) (hyi : y ≤ 19342822337206103650074625) (h : x ≤ x2) (a : Qt up x y r) (b : Qt up x2 y r2) : r ≤ r2 := by
 have hab := a.bd; have hbb := b.bd
 cases hi : infp y
 · cases h1 : infp x
   · cases h2 : infp x2
     · refine (qt_sid a hy h1 hi).mono (vr_pos hy) (vr_pos hy) (qt_sid b hy h2 hi) ?_; exact Int.mul_le_mul_of_nonneg_right (Int.mul_le_mul_of_nonneg_right (vr_le h) (Int.le_of_lt (p2pos KK))) (vr_nn (Int.le_of_lt hy))
     · have := qt_top b hy hi h2
       rcases infp_true h2 with e | e
       · omega
       · have := infp_false hx.1 hx.2 h1
         omega
   · have := qt_top a hy hi h1
     rcases infp_true h1 with e | e
     · have e2 : x2 = x := by have := hx2.2; omega
       subst e2
       have := qt_top b hy hi h1
       omega
     · omega
 · have e1 := (qt_zero (by omega) (.inr hi)).1 a; have e2 := (qt_zero (by omega) (.inr hi)).1 b
   omega
theorem qt_nn {up : Bool} {x y r : Int} (hx : In x) (h0 : 0 ≤ x) (hy : 0 < y) (hyi : y ≤ 19342822337206103650074625) (h : Qt up x y r) : 0 ≤ r :=
 qt_x (x := 0) ⟨by decide, by decide⟩ hx hy hyi h0 ((qt_zero (by omega) (.inl rfl)).2 rfl) h
theorem qt_y {up : Bool} {x y y2 r r2 : Int} (hx : In x) (h0 : 0 ≤ x) (hy : 0 < y) (h : y ≤ y2) (hyi : y2 ≤ 19342822337206103650074625) (a : Qt up x y r) (b : Qt up x y2 r2) : r2 ≤ r := by
 have hbb := b.bd
 cases hi : infp y2
 · obtain ⟨_, k2⟩ := infp_false (by omega) hyi hi
   have hi1 : infp y = false := infp_fin (by omega) (by omega)
   cases h1 : infp x
   · refine (qt_sid b (by omega) h1 hi).mono (vr_pos (by omega)) (vr_pos hy) (qt_sid a hy h1 hi1) ?_; exact Int.mul_le_mul_of_nonneg_left (vr_le h) (Int.mul_nonneg (vr_nn h0) (Int.le_of_lt (p2pos KK)))
   · have := qt_top a hy hi1 h1
     rcases infp_true h1 with e | e
     · omega
     · omega
 · have e2 := (qt_zero (by omega) (.inr hi)).1 b
   have := qt_nn hx h0 hy (by omega) a
   omega
theorem In.neg {x : Int} (h : In x) : In (-x) := ⟨by have := h.2; omega, by have := h.1; omega⟩
theorem qt_y' {up : Bool} {x y y2 r r2 : Int} (hx : In x) (h0 : x ≤ 0) (hy : 0 < y) (h : y ≤ y2) (hyi : y2 ≤ 19342822337206103650074625) (a : Qt up x y r) (b : Qt up x y2 r2) : r ≤ r2 := by
 have := qt_y hx.neg (by omega) hy h hyi (qt_neg (by omega) a) (qt_neg (by omega) b)
 omega
theorem qt_flip {up : Bool} {x y r : Int} (hy : y ≠ 0) (h : Qt up x y r) : Qt up (-x) (-y) r := qt_negs hy h
theorem q_mn {q : Bool → Int → Int → Int} (hq : QF q) (up : Bool) {z a b : Int} (hz : In z) (h0 : z ≠ 0) (ha : In a) (hb : In b) : Mono (fun x => q up x z) a b := by
 rcases Int.lt_or_le z 0 with k | k
 · refine .inr fun x y h1 h2 h3 => ?_
   have X : In x := ⟨by have := ha.1; omega, by have := hb.2; omega⟩
   have Y : In y := ⟨by have := ha.1; omega, by have := hb.2; omega⟩
   exact qt_x Y.neg X.neg (by omega) hz.neg.2 (by omega) (qt_flip h0 (hq up y z)) (qt_flip h0 (hq up x z))
 · refine .inl fun x y h1 h2 h3 => ?_
   have X : In x := ⟨by have := ha.1; omega, by have := hb.2; omega⟩
   have Y : In y := ⟨by have := ha.1; omega, by have := hb.2; omega⟩
   exact qt_x X Y (by omega) hz.2 h2 (hq up x z) (hq up y z)
theorem q_mn2 {q : Bool → Int → Int → Int} (hq : QF q) (up : Bool) {z a b : Int} (hz : In z) (ha : In a) (hb : In b) (h0 : ¬ (a ≤ 0 ∧ 0 ≤ b)) : Mono (fun y => q up z y) a b := by
 have h1 := ha.1; have h2 := hb.2
 by_cases hab : a ≤ b
 case neg => exact .inl fun x y k1 k2 k3 => by omega
 rcases Int.lt_or_le b 0 with k | k
 · rcases Int.lt_or_le z 0 with s | s
   · exact .inl fun x y k1 k2 k3 => qt_y hz.neg (by omega) (by omega) (by omega) (by omega) (qt_flip (by omega) (hq up z y)) (qt_flip (by omega) (hq up z x))
   · exact .inr fun x y k1 k2 k3 => qt_y' hz.neg (by omega) (by omega) (by omega) (by omega) (qt_flip (by omega) (hq up z y)) (qt_flip (by omega) (hq up z x))
 · rcases Int.lt_or_le z 0 with s | s
   · exact .inl fun x y k1 k2 k3 => qt_y' hz (by omega) (by omega) (by omega) (by omega) (hq up z x) (hq up z y)
   · exact .inr fun x y k1 k2 k3 => qt_y hz (by omega) (by omega) (by omega) (by omega) (hq up z x) (hq up z y)
def divI (q : Bool → Int → Int → Int) (x y : Sp) : Sp := match x, y with
 | some (a, b), some (c, d) =>
   if c = 0 ∧ d = 0 then none
   else if ¬ (c ≤ 0 ∧ 0 ≤ d) then cor q a b c d
   else if (a ≤ 0 ∧ 0 ≤ b) ∨ (c < 0 ∧ 0 < d) then allI
   else if (0 < (if a < 0 then b else a)) ↔ (0 < (if d = 0 then c else d)) then mkI (q false (if a < 0 then b else a) (if d = 0 then c else d)) 19342822337206103650074625
   else mkI (-19342822337206103650074625) (q true (if a < 0 then b else a) (if d = 0 then c else d))
 | _, _ => none
section
variable {q : Bool → Int → Int → Int}
theorem dvI_zero {a b c d : Int} (h : c = 0 ∧ d = 0) : divI q (some (a, b)) (some (c, d)) = none := if_pos h
theorem dvI_cor {a b c d : Int} (h : ¬ (c ≤ 0 ∧ 0 ≤ d)) : divI q (some (a, b)) (some (c, d)) = cor q a b c d := by
 show (if _ then _ else _) = _
 rw [if_neg (by omega), if_pos h]
theorem dvI_all {a b c d : Int} (h0 : ¬ (c = 0 ∧ d = 0)) (h : c ≤ 0 ∧ 0 ≤ d) (k : (a ≤ 0 ∧ 0 ≤ b) ∨ (c < 0 ∧ 0 < d)) : divI q (some (a, b)) (some (c, d)) = allI := by
 show (if _ then _ else _) = _
 rw [if_neg h0, if_neg (fun e => e h), if_pos k]
theorem dvI_up {a b d : Int} (hd : 0 < d) (hab : a ≤ b) : (0 < a → divI q (some (a, b)) (some (0, d)) = mkI (q false a d) 19342822337206103650074625) ∧ (b < 0 → divI q (some (a, b)) (some (0, d)) = mkI (-19342822337206103650074625) (q true b d)) := by
 constructor
 · intro h
   show (if _ then _ else _) = _
   rw [if_neg (by omega), if_neg (by omega), if_neg (by omega), if_neg (show ¬ a < 0 by omega), if_neg (show ¬ d = 0 by omega), if_pos ⟨fun _ => hd, fun _ => h⟩]
 · intro h
   show (if _ then _ else _) = _
   rw [if_neg (by omega), if_neg (by omega), if_neg (by omega), if_pos (show a < 0 by omega), if_neg (show ¬ d = 0 by omega), if_neg (fun e => by have := e.2 hd; omega)]
theorem dvI_dn {a b c : Int} (hc : c < 0) (hab : a ≤ b) : (0 < a → divI q (some (a, b)) (some (c, 0)) = mkI (-19342822337206103650074625) (q true a c)) ∧ (b < 0 → divI q (some (a, b)) (some (c, 0)) = mkI (q false b c) 19342822337206103650074625) := by
 constructor
 · intro h
   show (if _ then _ else _) = _
   rw [if_neg (by omega), if_neg (by omega), if_neg (by omega), if_neg (show ¬ a < 0 by omega), if_pos (rfl : (0 : Int) = 0), if_neg (fun e => by have := e.1 h; omega)]
 · intro h
   show (if _ then _ else _) = _
   rw [if_neg (by omega), if_neg (by omega), if_neg (by omega), if_pos (show a < 0 by omega), if_pos (rfl : (0 : Int) = 0), if_pos ⟨fun e => by omega, fun e => by omega⟩]
theorem dvI_way {a b c d : Int} (hab : a ≤ b) (hcd : c ≤ d) : (c = 0 ∧ d = 0) ∨ ¬ (c ≤ 0 ∧ 0 ≤ d) ∨ (¬ (c = 0 ∧ d = 0) ∧ (c ≤ 0 ∧ 0 ≤ d) ∧ ((a ≤ 0 ∧ 0 ≤ b) ∨ (c < 0 ∧ 0 < d))) ∨ (c = 0 ∧ 0 < d ∧ 0 < a) ∨ (c = 0 ∧ 0 < d ∧ b < 0) ∨ (c < 0 ∧ d = 0 ∧ 0 < a) ∨ (c < 0 ∧ d = 0 ∧ b < 0) := by omega
theorem top_in : In 19342822337206103650074625 := ⟨by decide, by decide⟩
theorem bot_in : In (-19342822337206103650074625) := ⟨by decide, by decide⟩
theorem dvI_ok (hq : QF q) {x y : Sp} (hx : SpOk x) (hy : SpOk y) : SpOk (divI q x y) := by
 rcases x with _ | ⟨a, b⟩
 · exact trivial
 rcases y with _ | ⟨c, d⟩
 · exact trivial
 have hab := hx.2.1; have hcd := hy.2.1
 rcases dvI_way hab hcd with h | h | ⟨h0, h1, h2⟩ | ⟨rfl, h1, h2⟩ | ⟨rfl, h1, h2⟩ | ⟨h1, rfl, h2⟩ | ⟨h1, rfl, h2⟩
 · rw [dvI_zero h]; exact trivial
 · rw [dvI_cor h]; exact cor_ok (f := q) hq.in a b c d
 · rw [dvI_all h0 h1 h2]; exact all_ok
 · rw [(dvI_up h1 hab).1 h2]; exact mkI_in (hq.in _ _ _) top_in
 · rw [(dvI_up h1 hab).2 h2]; exact mkI_in bot_in (hq.in _ _ _)
 · rw [(dvI_dn h1 hab).1 h2]; exact mkI_in bot_in (hq.in _ _ _)
 · rw [(dvI_dn h1 hab).2 h2]; exact mkI_in (hq.in _ _ _) top_in
theorem q_far (hq : QF q) (up : Bool) {n p e r : Int} (hn : 0 < n) (hp : n ≤ p) (hr : 0 < r) (he : r ≤ e) (p2 : In p) (e2 : In e) : q up n e ≤ q up p r := by
 have N : In n := ⟨by omega, by have := p2.2; omega⟩
 have := qt_x N p2 (by omega) e2.2 hp (hq up n e) (hq up p e)
 have := qt_y p2 (by omega) hr he e2.2 (hq up p r) (hq up p e)
 omega
theorem q_side (hq : QF q) (x y : Int) (hy : y ≠ 0) : q false x y ≤ q true x y := by
 have A := hq false x y; have B := hq true x y
 by_cases h : x = 0 ∨ infp y = true
 · have e1 := (qt_zero hy h).1 A; have e2 := (qt_zero hy h).1 B
   omega
 · cases hx : infp x
   · have a := (qt_fin hy h hx).1 A; have b := (qt_fin hy h hx).1 B
     rcases sid_two (sg_vr_pos hy) a b with h | h <;> omega
   · have e1 := (qt_inf hy h hx).1 A; have e2 := (qt_inf hy h hx).1 B
     omega
theorem q_flip (hq : QF q) (up : Bool) (x y : Int) (hy : y ≠ 0) : q up (-x) (-y) = q up x y := (qt_negs hy (hq up x y)).uniq (hq up (-x) (-y)) |>.symm
theorem q_neg (hq : QF q) (up : Bool) (x y : Int) (hy : y ≠ 0) : q (!up) (-x) y = -q up x y := ((qt_neg hy (hq up x y)).uniq (hq (!up) (-x) y)).symm
theorem far_pp (hq : QF q) (up : Bool) {n p e r : Int} (hn : 0 < n) (hp : n ≤ p) (hr : 0 < r) (he : r ≤ e) (p2 : In p) (e2 : In e) : q false n e ≤ q up p r := by
 have := q_far hq false hn hp hr he p2 e2
 have := q_side hq p r (by omega)
 cases up <;> omega
theorem far_nn (hq : QF q) (up : Bool) {n p e r : Int} (hn : n < 0) (hp : p ≤ n) (hr : r < 0) (he : e ≤ r) (p2 : In p) (e2 : In e) : q false n e ≤ q up p r := by
 rw [← q_flip hq false n e (by omega), ← q_flip hq up p r (by omega)]; exact far_pp hq up (by omega) (by omega) (by omega) (by omega) p2.neg e2.neg
theorem far_np (hq : QF q) (up : Bool) {n p e r : Int} (hn : n < 0) (hp : p ≤ n) (hr : 0 < r) (he : r ≤ e) (p2 : In p) (e2 : In e) : q up p r ≤ q true n e := by
 have h := far_pp (n := -n) (p := -p) hq (!up) (by omega) (by omega) hr he p2.neg e2
 have e3 : q false (-n) e = -q true n e := q_neg hq true n e (by omega)
 have e4 := q_neg hq up p r (by omega)
 omega
theorem far_pn (hq : QF q) (up : Bool) {n p e r : Int} (hn : 0 < n) (hp : n ≤ p) (hr : r < 0) (he : e ≤ r) (p2 : In p) (e2 : In e) : q up p r ≤ q true n e := by
 rw [← q_flip hq true n e (by omega), ← q_flip hq up p r (by omega)]; exact far_np hq up (by omega) (by omega) (by omega) (by omega) p2.neg e2.neg
theorem dvI_wit (hq : QF q) {x y z t : Sp} (hx : SpOk x) (hy : SpOk y) (hz : SpOk z) (ht : SpOk t) (h : witI x z = true) (k : witI y t = true) : witI (divI q x y) (divI q z t) = true := by
 have hok := dvI_ok hq hx hy
 rcases x with _ | ⟨a, b⟩
 · rfl
 rcases y with _ | ⟨c, d⟩
 · rfl
 obtain ⟨a2, b2, rfl, h1, h2⟩ := wit_some h; obtain ⟨c2, d2, rfl, k1, k2⟩ := wit_some k; have hab := hx.2.1; have hcd := hy.2.1; have hab2 := hz.2.1; have hcd2 := ht.2.1; have A := hx.in1.1; have B := hx.in1.2; have C2 := ht.in1.1; have D2 := ht.in1.2
 rcases dvI_way hab2 hcd2 with e | e | ⟨e0, e1, e2⟩ | ⟨rfl, e1, e2⟩ | ⟨rfl, e1, e2⟩ | ⟨e1, rfl, e2⟩ | ⟨e1, rfl, e2⟩
 · rw [dvI_zero (show c = 0 ∧ d = 0 by omega)]
   rfl
 · rw [dvI_cor e, dvI_cor (show ¬ (c ≤ 0 ∧ 0 ≤ d) by omega)]
   exact cor_wit (fun up z z1 z2 => q_mn hq up ⟨by have := C2.1; omega, by have := D2.2; omega⟩ (by omega) hz.in1.1 hz.in1.2) (fun up z z1 z2 => q_mn2 hq up ⟨by have := hz.in1.1.1; omega, by have := hz.in1.2.2; omega⟩ C2 D2 e) hab hcd h1 h2 k1 k2
 · rw [dvI_all e0 e1 e2]; exact wit_all hok
 · rw [(dvI_up e1 hab2).1 e2]
   by_cases c0 : c = 0
   · subst c0
     by_cases d0 : d = 0
     · rw [dvI_zero ⟨rfl, d0⟩]
       rfl
     · rw [(dvI_up (by omega) hab).1 (by omega)]; exact wit_mk (far_pp hq false e2 h1 (by omega) k2 A D2) (Int.le_refl _)
   · rw [dvI_cor (by omega)]
     have p := fun (u v : Int) (i1 : a2 ≤ u) (i2 : In u) (i3 : 0 < v) (i4 : v ≤ d2) => far_pp hq false e2 i1 i3 i4 i2 D2
     have := p a c h1 A (by omega) (by omega)
     have := p a d h1 A (by omega) (by omega)
     have := p b c (by omega) B (by omega) (by omega)
     have := p b d (by omega) B (by omega) (by omega)
     have := (hq.in true a c).2
     have := (hq.in true a d).2
     have := (hq.in true b c).2
     have := (hq.in true b d).2
     exact wit_mk (by omega) (by omega)
 · rw [(dvI_up e1 hab2).2 e2]
   by_cases c0 : c = 0
   · subst c0
     by_cases d0 : d = 0
     · rw [dvI_zero ⟨rfl, d0⟩]
       rfl
     · rw [(dvI_up (by omega) hab).2 (by omega)]; exact wit_mk (Int.le_refl _) (far_np hq true e2 h2 (by omega) k2 B D2)
   · rw [dvI_cor (by omega)]
     have p := fun (u v : Int) (i1 : u ≤ b2) (i2 : In u) (i3 : 0 < v) (i4 : v ≤ d2) => far_np hq true e2 i1 i3 i4 i2 D2
     have := p a c (by omega) A (by omega) (by omega)
     have := p a d (by omega) A (by omega) (by omega)
     have := p b c h2 B (by omega) (by omega)
     have := p b d h2 B (by omega) (by omega)
     have := (hq.in false a c).1
     have := (hq.in false a d).1
     have := (hq.in false b c).1
     have := (hq.in false b d).1
     exact wit_mk (by omega) (by omega)
 · rw [(dvI_dn e1 hab2).1 e2]
   by_cases d0 : d = 0
   · subst d0
     by_cases c0 : c = 0
     · rw [dvI_zero ⟨c0, rfl⟩]
       rfl
     · rw [(dvI_dn (by omega) hab).1 (by omega)]; exact wit_mk (Int.le_refl _) (far_pn hq true e2 h1 (by omega) k1 A C2)
   · rw [dvI_cor (by omega)]
     have p := fun (u v : Int) (i1 : a2 ≤ u) (i2 : In u) (i3 : v < 0) (i4 : c2 ≤ v) => far_pn hq true e2 i1 i3 i4 i2 C2
     have := p a c h1 A (by omega) (by omega)
     have := p a d h1 A (by omega) (by omega)
     have := p b c (by omega) B (by omega) (by omega)
     have := p b d (by omega) B (by omega) (by omega)
     have := (hq.in false a c).1
     have := (hq.in false a d).1
     have := (hq.in false b c).1
     have := (hq.in false b d).1
     exact wit_mk (by omega) (by omega)
 · rw [(dvI_dn e1 hab2).2 e2]
   by_cases d0 : d = 0
   · subst d0
     by_cases c0 : c = 0
     · rw [dvI_zero ⟨c0, rfl⟩]
       rfl
     · rw [(dvI_dn (by omega) hab).2 (by omega)]; exact wit_mk (far_nn hq false e2 h2 (by omega) k1 B C2) (Int.le_refl _)
   · rw [dvI_cor (by omega)]
     have p := fun (u v : Int) (i1 : u ≤ b2) (i2 : In u) (i3 : v < 0) (i4 : c2 ≤ v) => far_nn hq false e2 i1 i3 i4 i2 C2
     have := p a c (by omega) A (by omega) (by omega)
     have := p a d (by omega) A (by omega) (by omega)
     have := p b c h2 B (by omega) (by omega)
     have := p b d h2 B (by omega) (by omega)
     have := (hq.in true a c).2
     have := (hq.in true a d).2
     have := (hq.in true b c).2
     have := (hq.in true b d).2
     exact wit_mk (by omega) (by omega)
end
set_option linter.unusedSimpArgs false
set_option maxRecDepth 100000
theorem Nl.of4 {w : World} {g : Nat} {K1 K2 K3 K4 M1 M2 M3 M4 E1 E2 E3 E4 r1 r2 r3 r4 : Int} {s1 s2 s3 s4 : Bool} (X : Bo w g #[.int .i64 K1, .bool s1, .int .u64 M1, .int .i64 E1, .int .i64 K2, .bool s2, .int .u64 M2, .int .i64 E2, .int .i64 K3, .bool s3, .int .u64 M3, .int .i64 E3, .int .i64 K4, .bool s4, .int .u64 M4, .int .i64 E4] 24)
   (q1 : Fq K1 s1 M1 E1 r1) (q2 : Fq K2 s2 M2 E2 r2) (q3 : Fq K3 s3 M3 E3 r3) (q4 : Fq K4 s4 M4 E4 r4) : Nl w (some ⟨g, 0, none⟩) 4 4 [r1, r2, r3, r4] := by
 refine ⟨rfl, Nat.le_refl _, by decide, fun _ => ⟨_, 0, rfl, fun k hk => ?_⟩⟩
 rcases (by omega : k = 0 ∨ k = 1 ∨ k = 2 ∨ k = 3) with rfl | rfl | rfl | rfl
 · exact ⟨K1, s1, M1, E1, X.at rfl, X.at rfl, X.at rfl, X.at rfl, q1.top, q1.rk⟩
 · exact ⟨K2, s2, M2, E2, X.at rfl, X.at rfl, X.at rfl, X.at rfl, q2.top, q2.rk⟩
 · exact ⟨K3, s3, M3, E3, X.at rfl, X.at rfl, X.at rfl, X.at rfl, q3.top, q3.rk⟩
 · exact ⟨K4, s4, M4, E4, X.at rfl, X.at rfl, X.at rfl, X.at rfl, q4.top, q4.rk⟩
theorem mnp_four {a b c d : Int} (ha : a ≤ 19342822337206103650074625) : mnp [a, b, c, d] = min (min a b) (min c d) := by
 have := TP_eq
 show min (min (min (min TP a) b) c) d = _
 omega
theorem mxp_four {a b c d : Int} (ha : -19342822337206103650074625 ≤ a) : mxp [a, b, c, d] = max (max a b) (max c d) := by
 have := TP_eq
 show max (max (max (max (-TP) a) b) c) d = _
 omega
def four (f : Bool → Int → Int → Int) (up : Bool) (a b c d : Int) : List Int := [f up a c, f up a d, f up b c, f up b d]
theorem four_cor {f : Bool → Int → Int → Int} {a b c d : Int} (h1 : f false a c ≤ 19342822337206103650074625) (h2 : -19342822337206103650074625 ≤ f true a c) : mkI (mnp (four f false a b c d)) (mxp (four f true a b c d)) = cor f a b c d := by
 unfold four cor
 rw [mnp_four h1, mxp_four h2]
end Go.Proofs.YtnbliijpjcmbjaaGreatDoor

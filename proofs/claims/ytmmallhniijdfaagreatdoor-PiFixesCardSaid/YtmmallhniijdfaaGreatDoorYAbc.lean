/-
 Contracts that the proof rests on.
-/
import Derived.Laws.Bits64b
import Derived.Laws.Externs
import Derived.Lib.Mul64
import Derived.Lib.TrailingZeros
import Derived.Test.YtmmallhniijdfaaGreatDoorYAbb
namespace Go.Proofs.YtmmallhniijdfaaGreatDoor
open Go.RowKit
set_option linter.unusedVariables false
def Fz (x : Int) (h : Nat) : Prop := infp x = true ∨ Fit h (ep x)
theorem Fz.mono {x : Int} {h k : Nat} (f : Fz x h) (hk : h ≤ k) : Fz x k := f.imp id fun g => g.mono hk
theorem Fz.zero (h : Nat) : Fz 0 h := .inr (by rw [ep_zero]; exact Fit.zero h)
def DnQ (A B r : Int) : Prop := -19342822337206103650074625 ≤ r ∧ r ≤ 19342822337206103650074624 ∧ (-19342822337206103650074625 < r → vr r * B ≤ A) ∧ (r < 19342822337206103650074624 → A < vr (r + 1) * B)
def UpQ (A B r : Int) : Prop := DnQ (-A) B (-r)
def Sid (up : Bool) (A B r : Int) : Prop := if up = true then UpQ A B r else DnQ A B r
theorem sid_f {A B r : Int} : Sid false A B r = DnQ A B r := if_neg (by decide)
theorem sid_t {A B r : Int} : Sid true A B r = UpQ A B r := if_pos rfl
theorem DnQ.mono {A B C D r t : Int} (hB : 0 < B) (hD : 0 < D) (h : DnQ A B r) (k : DnQ C D t) (hAC : A * D ≤ C * B) : r ≤ t := by
 obtain ⟨h1, h2, h3, h4⟩ := h; obtain ⟨k1, k2, k3, k4⟩ := k
 rcases Int.lt_or_le t r with q | q
 · exfalso
   have a := h3 (by omega); have b := k4 (by omega)
   have c : vr (t + 1) ≤ vr r := vr_le (by omega)
   have a2 : vr r * B * D ≤ A * D := Int.mul_le_mul_of_nonneg_right a (Int.le_of_lt hD)
   have b2 : C * B < vr (t + 1) * D * B := Int.mul_lt_mul_of_pos_right b hB
   have c2 : vr (t + 1) * (D * B) ≤ vr r * (D * B) := Int.mul_le_mul_of_nonneg_right c (Int.le_of_lt (Int.mul_pos hD hB))
   rw [Int.mul_assoc, Int.mul_comm B D] at a2; rw [Int.mul_assoc] at b2
   omega
 · exact q
theorem DnQ.uniq {A B r t : Int} (hB : 0 < B) (h : DnQ A B r) (k : DnQ A B t) : r = t := by
 have a := h.mono hB hB k (Int.le_refl _); have b := k.mono hB hB h (Int.le_refl _)
 omega
theorem Sid.uniq {up : Bool} {A B r t : Int} (hB : 0 < B) (h : Sid up A B r) (k : Sid up A B t) : r = t := by
 cases up
 · rw [sid_f] at h k; exact h.uniq hB k
 · rw [sid_t] at h k
   have := DnQ.uniq hB h k
   omega
theorem Sid.mono {up : Bool} {A B C D r t : Int} (hB : 0 < B) (hD : 0 < D) (h : Sid up A B r) (k : Sid up C D t) (hAC : A * D ≤ C * B) : r ≤ t := by
 cases up
 · rw [sid_f] at h k; exact h.mono hB hD k hAC
 · rw [sid_t] at h k
   have := DnQ.mono hD hB k h (by rw [Int.neg_mul, Int.neg_mul]; omega)
   omega
theorem Sid.neg {up : Bool} {A B r : Int} (h : Sid up A B r) : Sid (!up) (-A) B (-r) := by
 cases up
 · rw [sid_f] at h
   rw [show (!false) = true from rfl, sid_t]
   unfold UpQ
   rw [Int.neg_neg, Int.neg_neg]; exact h
 · rw [sid_t] at h
   rw [show (!true) = false from rfl, sid_f]
   exact h
theorem sid_sgi {s up : Bool} {A B r : Int} (h : Sid (up != s) A B r) : Sid up (sgi s A) B (sgi s r) := by
 cases s
 · rw [wsg_f, wsg_f]
   cases up <;> exact h
 · rw [wsg_t, wsg_t]
   have h2 : Sid (!up) A B r := by cases up <;> exact h
   have := h2.neg
   rwa [Bool.not_not] at this
theorem Sid.bd {up : Bool} {A B r : Int} (h : Sid up A B r) : -19342822337206103650074625 ≤ r ∧ r ≤ 19342822337206103650074625 := by
 cases up
 · rw [sid_f] at h
   have := h.1; have := h.2.1
   omega
 · rw [sid_t] at h
   have := h.1; have := h.2.1
   omega
theorem last_yes (p : Nat → Prop) (h0 : p 0) : ∀ n, ¬ p n → ∃ k, k < n ∧ p k ∧ ¬ p (k + 1)
 | 0, h => absurd h0 h
 | n + 1, h => by
   by_cases q : p n
   · exact ⟨n, Nat.lt_succ_self _, q, h⟩
   · obtain ⟨k, a, b, c⟩ := last_yes p h0 n q; exact ⟨k, Nat.lt_succ_of_lt a, b, c⟩
theorem dnq_ex (A : Int) {B : Int} (hB : 0 < B) : ∃ r, DnQ A B r := by
 obtain ⟨n, hn⟩ : ∃ n : Nat, (n : Int) = 38685644674412207300149250 := ⟨38685644674412207300149250, rfl⟩
 obtain ⟨k, hk, a, b⟩ := last_yes (fun k => k = 0 ∨ ((k : Int) ≤ 38685644674412207300149249 ∧ vr ((k : Int) - 19342822337206103650074625) * B ≤ A)) (.inl rfl) n (by omega)
 refine ⟨(k : Int) - 19342822337206103650074625, by omega, by omega, fun h => ?_, fun h => ?_⟩
 · rcases a with a | a
   · omega
   · exact a.2
 · have c : ¬ vr (((k + 1 : Nat) : Int) - 19342822337206103650074625) * B ≤ A := fun c => b (.inr ⟨by omega, c⟩)
   rw [show ((k + 1 : Nat) : Int) - 19342822337206103650074625 = (k : Int) - 19342822337206103650074625 + 1 by omega] at c
   omega
theorem sid_ex (up : Bool) (A : Int) {B : Int} (hB : 0 < B) : ∃ r, Sid up A B r := by
 cases up
 · obtain ⟨r, h⟩ := dnq_ex A hB; exact ⟨r, by rw [sid_f]; exact h⟩
 · obtain ⟨r, h⟩ := dnq_ex (-A) hB; refine ⟨-r, ?_⟩; rw [sid_t]
   unfold UpQ
   rw [Int.neg_neg]; exact h
theorem DnQ.of_dn {X A B a b r : Int} (hB : 0 < B) (h : Dn X r) (h1 : a < X) (h2 : X < b) (h3 : a * B < A) (h4 : A < b * B) (hs : ∀ s, ¬ (a < vr s ∧ vr s < b)) : DnQ A B r := by
 obtain ⟨d1, d2, d3, d4⟩ := h
 refine ⟨d1, d2, fun k => ?_, fun k => ?_⟩
 · have e := d3 k; have n := hs r
   have l : vr r ≤ a := by omega
   have := Int.mul_le_mul_of_nonneg_right l (Int.le_of_lt hB)
   omega
 · have e := d4 k; have n := hs (r + 1)
   have l : b ≤ vr (r + 1) := by omega
   have := Int.mul_le_mul_of_nonneg_right l (Int.le_of_lt hB)
   omega
theorem DnQ.of_eq {X A B r : Int} (hB : 0 < B) (h : Dn X r) (e : X * B = A) : DnQ A B r := by
 obtain ⟨d1, d2, d3, d4⟩ := h; subst e
 exact ⟨d1, d2, fun k => Int.mul_le_mul_of_nonneg_right (d3 k) (Int.le_of_lt hB), fun k => Int.mul_lt_mul_of_pos_right (d4 k) hB⟩
theorem sid_of {P : Int × Int} {A B a b : Int} (up : Bool) (hP : Nf P) (hB : 0 < B) (h1 : a < vl P) (h2 : vl P < b) (h3 : a * B < A) (h4 : A < b * B) (hs : ∀ s, ¬ (a < vr s ∧ vr s < b)) : Sid up A B (rnd up P.1 P.2) := by
 obtain ⟨p1, p2⟩ := rnd_spec hP
 cases up
 · rw [sid_f]; exact DnQ.of_dn hB p1 h1 h2 h3 h4 hs
 · rw [sid_t]
   refine DnQ.of_dn (a := -b) (b := -a) hB p2 (by omega) (by omega) (by rw [Int.neg_mul]; omega) (by rw [Int.neg_mul]; omega) (fun s => ?_)
   have := hs (-s)
   rw [vr_neg] at this
   omega
theorem sid_eq {P : Int × Int} {A B : Int} (up : Bool) (hP : Nf P) (hB : 0 < B) (e : vl P * B = A) : Sid up A B (rnd up P.1 P.2) := by
 obtain ⟨p1, p2⟩ := rnd_spec hP
 cases up
 · rw [sid_f]; exact DnQ.of_eq hB p1 e
 · rw [sid_t]; exact DnQ.of_eq hB p2 (by rw [Int.neg_mul]; omega)
theorem no_placeQ {i : Int} {u : Nat} (hi : 9223372036854775808 ≤ i) (s : Int) : ¬ (2 * i * 2 ^ u < vr s ∧ vr s < (2 * i + 2) * 2 ^ u) := by
 rintro ⟨h1, h2⟩; have hu := p2pos u
 have hpos : 0 < vr s := Int.lt_of_le_of_lt (Int.mul_nonneg (by omega) (Int.le_of_lt hu)) h1
 have hs : 0 < s := by
   rcases Int.lt_or_le 0 s with q | q
   · exact q
   · exfalso
     have := vr_le q
     rw [show vr 0 = 0 from rfl] at this
     omega
 have e0 : vr s = ((s - 1) % 9223372036854775808 + 9223372036854775808) * 2 ^ ((s - 1) / 9223372036854775808 - 1048576 + KK).toNat := by
   unfold vr vp
   rw [if_neg (by omega), if_neg (by omega)]
 obtain ⟨M, hM⟩ : ∃ M, (s - 1) % 9223372036854775808 + 9223372036854775808 = M := ⟨_, rfl⟩; obtain ⟨t, ht⟩ : ∃ t, ((s - 1) / 9223372036854775808 - 1048576 + (KK : Int)).toNat = t := ⟨_, rfl⟩; rw [hM, ht] at e0
 have hMl : M < 18446744073709551616 := by omega
 rw [e0] at h1 h2; clear e0 hM ht hs hpos
 rcases Nat.lt_or_ge u t with q | q
 · obtain ⟨d, rfl⟩ : ∃ d, t = u + 1 + d := ⟨t - (u + 1), by omega⟩
   have e1 : M * 2 ^ (u + 1 + d) = M * 2 ^ d * 2 * 2 ^ u := by
     rw [Int.pow_add, Int.pow_succ]; generalize (2 : Int) ^ u = U; generalize (2 : Int) ^ d = D; rw [Int.mul_assoc M D 2, Int.mul_assoc M, Int.mul_comm U 2, Int.mul_comm (2 * U) D, Int.mul_assoc D 2 U]
   rw [e1] at h1 h2; have a1 := Int.lt_of_mul_lt_mul_right h1 (Int.le_of_lt hu); have a2 := Int.lt_of_mul_lt_mul_right h2 (Int.le_of_lt hu)
   omega
 · obtain ⟨d, rfl⟩ : ∃ d, u = t + d := ⟨u - t, by omega⟩
   have ht := p2pos t; have hd := p2pos d; rw [Int.pow_add] at h1
   have l1 : (2 : Int) ^ t * 1 ≤ 2 ^ t * 2 ^ d := Int.mul_le_mul_of_nonneg_left hd (Int.le_of_lt ht)
   rw [Int.mul_one] at l1
   have l2 : 2 * i * (2 : Int) ^ t ≤ 2 * i * (2 ^ t * 2 ^ d) := Int.mul_le_mul_of_nonneg_left l1 (by omega)
   have a1 := Int.lt_of_mul_lt_mul_right (Int.lt_of_le_of_lt l2 h1) (Int.le_of_lt ht)
   omega
theorem mk_vlB {z e : Int} (h : z.natAbs < 2 ^ 500000) (h1 : -3000000 ≤ e) (h2 : e ≤ 3000000) : vl (mk z e) = z * 2 ^ (e + KK).toNat := by
 obtain ⟨η, hη⟩ : ∃ η : Nat, η = 4000000 := ⟨_, rfl⟩; refine (mk_fit (h := η) (by omega) (by omega) ?_).2; obtain ⟨κ, hκ⟩ : ∃ κ : Nat, κ = 500000 := ⟨_, rfl⟩; rw [← hκ] at h
 have := Nat.mul_lt_mul_of_pos_right h (Nat.pow_pos (n := (e + (η : Int)).toNat) (show 0 < 2 by decide))
 rw [← Nat.pow_add] at this; exact Nat.lt_of_lt_of_le this (Nat.pow_le_pow_right (by decide) (by omega))
def stk (q r : Nat) : Nat := 2 * q + if r = 0 then 0 else 1
theorem quo_big {α β n : Nat} (hβ : 0 < β) (hn : 70 + blen β ≤ n) (ha : α ≠ 0) : 9223372036854775808 ≤ α * 2 ^ n / β := by
 rw [Nat.le_div_iff_mul_le hβ]; have l1 := blen_lt β
 have l2 : 2 ^ 69 * β ≤ 2 ^ 69 * 2 ^ blen β := Nat.mul_le_mul_left _ (Nat.le_of_lt l1)
 rw [← Nat.pow_add] at l2
 have l3 : 2 ^ (69 + blen β) ≤ 2 ^ n := Nat.pow_le_pow_right (by decide) (by omega)
 have l4 : 1 * 2 ^ n ≤ α * 2 ^ n := Nat.mul_le_mul_right _ (by omega)
 omega
theorem quo_side {α β : Nat} {e : Int} {n κ : Nat} (up : Bool) (hβ : 0 < β) (hq0 : α ≠ 0 → 9223372036854775808 ≤ α * 2 ^ n / β) (hκ : κ = 500000) (hs : stk (α * 2 ^ n / β) (α * 2 ^ n % β) < 2 ^ κ) (h1 : -2900000 ≤ e - n) (h2 : e ≤ 2900000) :
   Sid up ((α : Int) * 2 ^ (e + KK).toNat) (β : Int) (rnd up (mk ((stk (α * 2 ^ n / β) (α * 2 ^ n % β) : Nat) : Int) (e - n - 1)).1 (mk ((stk (α * 2 ^ n / β) (α * 2 ^ n % β) : Nat) : Int) (e - n - 1)).2) := by
 have hk := KK_eq
 have hb0 : (0 : Int) < (β : Int) := by omega
 have nf := mk_nf ((stk (α * 2 ^ n / β) (α * 2 ^ n % β) : Nat) : Int) (e - n - 1); have ev := mk_vlB (z := ((stk (α * 2 ^ n / β) (α * 2 ^ n % β) : Nat) : Int)) (e := e - n - 1) (by rw [Int.natAbs_natCast, ← hκ]; exact hs) (by omega) (by omega); obtain ⟨u, hu⟩ : ∃ u : Nat, (e - n - 1 + (KK : Int)).toNat = u := ⟨_, rfl⟩
 have e1 : (e + (KK : Int)).toNat = n + (1 + u) := by omega
 rw [hu] at ev
 rw [e1, Int.pow_add, Int.pow_add, show (2 : Int) ^ 1 = 2 from rfl, ← Int.mul_assoc]
 have hd := Nat.div_add_mod (α * 2 ^ n) β; have hm := Nat.mod_lt (α * 2 ^ n) hβ; have hpu := p2pos u
 have hcast : ((α * 2 ^ n : Nat) : Int) = (α : Int) * 2 ^ n := by push_cast; rfl
 by_cases ha : α = 0
 · subst ha
   have e2 : stk (0 * 2 ^ n / β) (0 * 2 ^ n % β) = 0 := by
     rw [Nat.zero_mul, Nat.zero_div, Nat.zero_mod]
     rfl
   rw [e2] at ev nf ⊢; refine sid_eq up nf hb0 ?_; rw [ev]
   show (((0 : Nat) : Int)) * 2 ^ u * (β : Int) = ((0 : Nat) : Int) * 2 ^ n * (2 * 2 ^ u)
   rw [show (((0 : Nat) : Int)) = 0 from rfl, Int.zero_mul, Int.zero_mul, Int.zero_mul, Int.zero_mul]
 · have hq := hq0 ha; clear hq0; clear hs; rw [← hcast]; clear hcast; generalize α * 2 ^ n = X at ev nf hd hm hq ⊢; generalize X / β = q at ev nf hd hq ⊢; generalize X % β = r at ev nf hd hm ⊢
   have hdI : (β : Int) * (q : Int) + (r : Int) = (X : Int) := by exact_mod_cast hd
   by_cases hr : r = 0
   · have e3 : stk q r = 2 * q := by
       unfold stk
       rw [if_pos hr]
       omega
     rw [e3] at ev nf ⊢; refine sid_eq up nf hb0 ?_; rw [ev, ← hdI, hr]
     show (((2 * q : Nat)) : Int) * 2 ^ u * (β : Int) = ((β : Int) * (q : Int) + ((0 : Nat) : Int)) * (2 * 2 ^ u)
     push_cast
     generalize (2 : Int) ^ u = U; rw [Int.add_zero, Int.mul_assoc, Int.mul_comm U, Int.mul_assoc 2, ← Int.mul_assoc (q : Int), Int.mul_comm (q : Int), Int.mul_left_comm]
   · have e3 : stk q r = 2 * q + 1 := by
       unfold stk
       rw [if_neg hr]
     rw [e3] at ev nf ⊢
     have c1 : (((2 * q + 1 : Nat)) : Int) = 2 * (q : Int) + 1 := by omega
     have c2 : (2 * (q : Int) * 2 ^ u) * (β : Int) = (β : Int) * (q : Int) * (2 * 2 ^ u) := by
       generalize (2 : Int) ^ u = U; rw [Int.mul_right_comm, Int.mul_comm 2 (q : Int), Int.mul_assoc (q : Int) 2, Int.mul_comm 2 (β : Int), ← Int.mul_assoc (q : Int), Int.mul_comm (q : Int), Int.mul_assoc]
     have c3 : ((2 * (q : Int) + 2) * 2 ^ u) * (β : Int) = ((β : Int) * (q : Int) + (β : Int)) * (2 * 2 ^ u) := by
       rw [show 2 * (q : Int) + 2 = 2 * ((q : Int) + 1) by omega, show (β : Int) * (q : Int) + (β : Int) = (β : Int) * ((q : Int) + 1) by rw [Int.mul_add, Int.mul_one]]
       generalize (2 : Int) ^ u = U; generalize (q : Int) + 1 = p; rw [Int.mul_right_comm, Int.mul_comm 2 p, Int.mul_assoc p 2, Int.mul_comm 2 (β : Int), ← Int.mul_assoc p, Int.mul_comm p, Int.mul_assoc]
     have h2u : (0 : Int) < 2 * 2 ^ u := by omega
     refine sid_of up nf hb0 (a := 2 * (q : Int) * 2 ^ u) (b := (2 * (q : Int) + 2) * 2 ^ u) ?_ ?_ ?_ ?_ (no_placeQ (by omega))
     · rw [ev, c1]; exact Int.mul_lt_mul_of_pos_right (by omega) hpu
     · rw [ev, c1]; exact Int.mul_lt_mul_of_pos_right (by omega) hpu
     · rw [c2]; exact Int.mul_lt_mul_of_pos_right (by omega) h2u
     · rw [c3]; exact Int.mul_lt_mul_of_pos_right (by omega) h2u
theorem sid_exact {up : Bool} {A B r : Int} (hB : 0 < B) (h1 : -19342822337206103650074625 < r) (h2 : r < 19342822337206103650074625) (e : vr r * B = A) : Sid up A B r := by
 cases up
 · rw [sid_f]; exact DnQ.of_eq hB (dn_self h1 h2) e
 · rw [sid_t]; refine DnQ.of_eq hB (dn_self (r := -r) (by omega) (by omega)) ?_; rw [vr_neg, Int.neg_mul, e]
def Qt (up : Bool) (x y r : Int) : Prop :=
 if y = 0 then r = sgi (!up) TP else if x = 0 ∨ infp y = true then r = 0 else if infp x = true then r = sgi (decide (x < 0) != decide (y < 0)) TP else Sid up (sgi (decide (y < 0)) (vr x) * 2 ^ KK) (sgi (decide (y < 0)) (vr y)) r
theorem qt_zero {up : Bool} {x y r : Int} (hy : y ≠ 0) (h : x = 0 ∨ infp y = true) : Qt up x y r ↔ r = 0 := by
 unfold Qt
 rw [if_neg hy, if_pos h]
theorem qt_none' {up : Bool} {x r : Int} : Qt up x 0 r ↔ r = sgi (!up) TP := by
 unfold Qt
 rw [if_pos rfl]
theorem qt_inf {up : Bool} {x y r : Int} (hy : y ≠ 0) (h : ¬ (x = 0 ∨ infp y = true)) (hx : infp x = true) : Qt up x y r ↔ r = sgi (decide (x < 0) != decide (y < 0)) TP := by
 unfold Qt
 rw [if_neg hy, if_neg h, if_pos hx]
theorem qt_fin {up : Bool} {x y r : Int} (hy : y ≠ 0) (h : ¬ (x = 0 ∨ infp y = true)) (hx : infp x = false) : Qt up x y r ↔ Sid up (sgi (decide (y < 0)) (vr x) * 2 ^ KK) (sgi (decide (y < 0)) (vr y)) r := by
 unfold Qt
 rw [if_neg hy, if_neg h, if_neg (by rw [hx]; exact ff)]
theorem Qt.bd {up : Bool} {x y r : Int} (h : Qt up x y r) : -19342822337206103650074625 ≤ r ∧ r ≤ 19342822337206103650074625 := by
 have htp := TP_eq
 have sg : ∀ s, -19342822337206103650074625 ≤ sgi s TP ∧ sgi s TP ≤ 19342822337206103650074625 := fun s => by
   rcases sgT s with e | e <;> rw [e] <;> omega
 by_cases hy : y = 0
 · subst hy; rw [qt_none'.1 h]; exact sg _
 · by_cases h0 : x = 0 ∨ infp y = true
   · rw [(qt_zero hy h0).1 h]
     decide
   · cases hx : infp x
     · exact ((qt_fin hy h0 hx).1 h).bd
     · rw [(qt_inf hy h0 hx).1 h]; exact sg _
theorem sgi_sgi (s : Bool) (x : Int) : sgi s (sgi s x) = x := by
 cases s
 · rw [wsg_f, wsg_f]
 · rw [wsg_t, wsg_t, Int.neg_neg]
def Rt (up : Bool) (X r : Int) : Prop :=
 if up = true then 0 < r ∧ r ≤ 19342822337206103650074625 ∧ (r < 19342822337206103650074625 → X ≤ vr r * vr r) ∧ vr (r - 1) * vr (r - 1) < X
 else 0 ≤ r ∧ r ≤ 19342822337206103650074624 ∧ vr r * vr r ≤ X ∧ (r < 19342822337206103650074624 → X < vr (r + 1) * vr (r + 1))
theorem rt_f {X r : Int} : Rt false X r ↔ (0 ≤ r ∧ r ≤ 19342822337206103650074624 ∧ vr r * vr r ≤ X ∧ (r < 19342822337206103650074624 → X < vr (r + 1) * vr (r + 1))) := by
 unfold Rt
 rw [if_neg ff]
theorem rt_t {X r : Int} : Rt true X r ↔ (0 < r ∧ r ≤ 19342822337206103650074625 ∧ (r < 19342822337206103650074625 → X ≤ vr r * vr r) ∧ vr (r - 1) * vr (r - 1) < X) := by
 unfold Rt
 rw [if_pos rfl]
theorem sq_le {a b : Int} (h0 : 0 ≤ a) (h : a ≤ b) : a * a ≤ b * b := Int.mul_le_mul h h h0 (by omega)
theorem vr_sq {r t : Int} (h0 : 0 ≤ r) (h : r ≤ t) : vr r * vr r ≤ vr t * vr t := sq_le (vr_nn h0) (vr_le h)
theorem rnd_sgi {σ up : Bool} {z e : Int} : rnd up (mk (sgi σ z) e).1 (mk (sgi σ z) e).2 = sgi σ (rnd (up != σ) (mk z e).1 (mk z e).2) := by
 cases σ
 · rw [wsg_f, wsg_f]
   cases up <;> rfl
 · rw [wsg_t, wsg_t, mk_neg]; have h := rnd_turn (mk_nf z e) (!up); rw [Bool.not_not] at h; rw [h]
   cases up <;> rfl
theorem Sid.cross {up : Bool} {A B C D r : Int} (hB : 0 < B) (hD : 0 < D) (h : Sid up A B r) (e : A * D = C * B) : Sid up C D r := by
 obtain ⟨t, ht⟩ := sid_ex up C hD; have a := h.mono hB hD ht (Int.le_of_eq e); have b := ht.mono hD hB h (Int.le_of_eq e.symm)
 have c : r = t := by omega
 rw [c]; exact ht
theorem ratio_side {σ up : Bool} {α β : Nat} {e : Int} {n κ : Nat} (hβ : 0 < β) (hn : n = 70 + blen β) (hκ : κ = 500000) (hs : stk (α * 2 ^ n / β) (α * 2 ^ n % β) < 2 ^ κ) (h1 : -2900000 ≤ e - n) (h2 : e ≤ 2900000) :
   Sid up (sgi σ ((α : Int) * 2 ^ (e + KK).toNat)) (β : Int) (rnd up (mk (sgi σ ((stk (α * 2 ^ n / β) (α * 2 ^ n % β) : Nat) : Int)) (e - n - 1)).1 (mk (sgi σ ((stk (α * 2 ^ n / β) (α * 2 ^ n % β) : Nat) : Int)) (e - n - 1)).2) := by
 rw [rnd_sgi]
 exact sid_sgi (quo_side (up != σ) hβ (fun ha => quo_big hβ (by omega) ha) hκ hs h1 h2)
def Rq (up : Bool) (z y r : Int) : Prop := if y = 0 then r = sgi (!up) TP else Sid up (sgi (decide (y < 0)) z * 2 ^ KK) (sgi (decide (y < 0)) y) r
theorem rq_none {up : Bool} {z r : Int} : Rq up z 0 r ↔ r = sgi (!up) TP := by
 unfold Rq
 rw [if_pos rfl]
theorem rq_some {up : Bool} {z y r : Int} (hy : y ≠ 0) : Rq up z y r ↔ Sid up (sgi (decide (y < 0)) z * 2 ^ KK) (sgi (decide (y < 0)) y) r := by
 unfold Rq
 rw [if_neg hy]
theorem sg_pos {y : Int} (hy : y ≠ 0) : 0 < sgi (decide (y < 0)) y := by
 by_cases c : y < 0
 · rw [decide_eq_true c, wsg_t]; omega
 · rw [decide_eq_false c, wsg_f]; omega
theorem rq_ex (up : Bool) (z y : Int) : ∃ r, Rq up z y r := by
 by_cases hy : y = 0
 · subst hy; exact ⟨_, rq_none.2 rfl⟩
 · obtain ⟨r, hr⟩ := sid_ex up (sgi (decide (y < 0)) z * 2 ^ KK) (sg_pos hy); exact ⟨r, (rq_some hy).2 hr⟩
theorem Rq.uniq {up : Bool} {z y r t : Int} (h : Rq up z y r) (k : Rq up z y t) : r = t := by
 by_cases hy : y = 0
 · subst hy; rw [rq_none.1 h, rq_none.1 k]
 · exact ((rq_some hy).1 h).uniq (sg_pos hy) ((rq_some hy).1 k)
theorem Rq.mono {up : Bool} {z y z' y' r t : Int} (hy : 0 < y) (hy' : 0 < y') (h : Rq up z y r) (k : Rq up z' y' t) (hle : z * y' ≤ z' * y) : r ≤ t := by
 have a := (rq_some (by omega)).1 h; have b := (rq_some (by omega)).1 k; rw [decide_eq_false (by omega), wsg_f, wsg_f] at a b; refine a.mono hy hy' b ?_
 have := Int.mul_le_mul_of_nonneg_right hle (Int.le_of_lt (p2pos KK))
 rw [Int.mul_right_comm z, Int.mul_right_comm z']; exact this
theorem rq_of {up s t : Bool} {α β : Nat} {r : Int} (hβ : 0 < β) (h : Sid up (sgi (s != t) ((α : Int) * 2 ^ (0 + (KK : Int)).toNat)) (β : Int) r) : Rq up (sgi s (α : Int)) (sgi t (β : Int)) r := by
 have hy : sgi t (β : Int) ≠ 0 := by
   cases t
   · rw [wsg_f]; omega
   · rw [wsg_t]; omega
 refine (rq_some hy).2 ?_
 have ht : decide (sgi t (β : Int) < 0) = t := by
   cases t
   · rw [wsg_f]; exact decide_eq_false (by omega)
   · rw [wsg_t]; exact decide_eq_true (by omega)
 rw [ht, sgi_sgi]
 have e : sgi t (sgi s (α : Int)) * 2 ^ KK = sgi (s != t) ((α : Int) * 2 ^ (0 + (KK : Int)).toNat) := by
   rw [show (0 + (KK : Int)).toNat = KK by omega, ← sgi_mul]
   congr 1
   cases s <;> cases t
   · rfl
   · rfl
   · rfl
   · rw [show (true != true) = false from rfl, wsg_f, wsg_t, wsg_t, Int.neg_neg]
 rw [e]; exact h
end Go.Proofs.YtmmallhniijdfaaGreatDoor
namespace Go.Proofs.YtmmallhniijdfaaGreatDoor
open Go Go.RowKit
set_option linter.unusedVariables false
abbrev SC : Int := 6277101735386680763835789423207666416102355444464034512896
def invG (n : Int) : Nat → Nat → Int → Int → Int × Nat
 | 0, k, s, _ => (s, k)
 | f + 1, k, s, p => if SC / (p * (2 * (k : Int) + 1)) = 0 then (s, k) else invG n f (k + 1) (if k % 2 = 1 then s + -(SC / (p * (2 * (k : Int) + 1))) else s + SC / (p * (2 * (k : Int) + 1))) (p * (n * n))
def invN (n : Nat) : Nat → Nat → Nat → Nat → Nat → Nat × Nat × Nat
 | 0, k, a, b, _ => (a, b, k)
 | f + 1, k, a, b, p => if 6277101735386680763835789423207666416102355444464034512896 / (p * (2 * k + 1)) = 0 then (a, b, k) else
     if k % 2 = 1 then invN n f (k + 1) a (b + 6277101735386680763835789423207666416102355444464034512896 / (p * (2 * k + 1))) (p * (n * n)) else invN n f (k + 1) (a + 6277101735386680763835789423207666416102355444464034512896 / (p * (2 * k + 1))) b (p * (n * n))
theorem div_cast (c p k : Nat) : (c : Int) / ((p : Int) * (2 * (k : Int) + 1)) = ((c / (p * (2 * k + 1)) : Nat) : Int) := by push_cast; rfl
theorem invG_N (n : Nat) : ∀ (f k a b p : Nat), invG (n : Int) f k ((a : Int) - b) p = (((invN n f k a b p).1 : Int) - (invN n f k a b p).2.1, (invN n f k a b p).2.2)
 | 0, k, a, b, p => rfl
 | f + 1, k, a, b, p => by
   have e1 : (SC / ((p : Int) * (2 * (k : Int) + 1))) = ((6277101735386680763835789423207666416102355444464034512896 / (p * (2 * k + 1)) : Nat) : Int) := div_cast 6277101735386680763835789423207666416102355444464034512896 p k
   have e2 : (p : Int) * ((n : Int) * n) = ((p * (n * n) : Nat) : Int) := by push_cast; rfl
   unfold invG invN
   rw [e1, e2]; generalize 6277101735386680763835789423207666416102355444464034512896 / (p * (2 * k + 1)) = t
   by_cases h : t = 0
   · rw [if_pos h, if_pos (by omega)]
   · rw [if_neg h, if_neg (by omega)]
     by_cases c : k % 2 = 1
     · rw [if_pos c, if_pos c, show (a : Int) - b + -(t : Int) = (a : Int) - ((b + t : Nat) : Int) by push_cast; omega]
       exact invG_N n f _ _ _ _
     · rw [if_neg c, if_neg c, show (a : Int) - b + (t : Int) = ((a + t : Nat) : Int) - (b : Int) by push_cast; omega]
       exact invG_N n f _ _ _ _
def invP (n : Int) : Int × Int := if n < 2 ∨ 1000 < n then (0, 0) else ((invG n 200 0 0 n).1 + (-((invG n 200 0 0 n).2 : Int) - 1), (invG n 200 0 0 n).1 + (((invG n 200 0 0 n).2 : Int) + 1))
def invQ (n : Nat) : Int × Int := (((invN n 200 0 0 0 n).1 : Int) - (invN n 200 0 0 0 n).2.1 + (-((invN n 200 0 0 0 n).2.2 : Int) - 1), ((invN n 200 0 0 0 n).1 : Int) - (invN n 200 0 0 0 n).2.1 + (((invN n 200 0 0 0 n).2.2 : Int) + 1))
theorem invP_Q {n : Nat} (h1 : 2 ≤ n) (h2 : n ≤ 1000) : invP (n : Int) = invQ n := by
 have e := invG_N n 200 0 0 0 n
 rw [show (((0 : Nat) : Int) - ((0 : Nat) : Int)) = 0 from rfl] at e
 unfold invP invQ
 rw [if_neg (by omega), e]
theorem inv5 : invQ 5 = (1239072011291311913768300331356796477639936999957358576040, 1239072011291311913768300331356796477639936999957358576122) := by kernel_rfl
theorem inv239 : invQ 239 = (26263870733613014474167984370118687693885283531911871163, 26263870733613014474167984370118687693885283531911871189) := by kernel_rfl
abbrev PLo : Int := 19720096697726538562396133364228268891463450865190089731884
abbrev PHi : Int := 19720096697726538562396133364228268891463450865190089733300
theorem bounds_are : (invP 5).1 * 16 - (invP 239).2 * 4 = PLo ∧ (invP 5).2 * 16 - (invP 239).1 * 4 = PHi := by
 have a := invP_Q (n := 5) (by decide) (by decide); have b := invP_Q (n := 239) (by decide) (by decide)
 rw [show (5 : Int) = ((5 : Nat) : Int) from rfl, show (239 : Int) = ((239 : Nat) : Int) from rfl, a, b, inv5, inv239]
 decide
abbrev PIL : Int := 14488038916154245684 - 9223372036854775808 + 1 + (-62 + 1048576) * 9223372036854775808
theorem pil_vr : vr PIL = 14488038916154245684 * 2 ^ (KK - 62) ∧ vr (PIL + 1) = 14488038916154245685 * 2 ^ (KK - 62) := by
 have a := vp_fin (M := 14488038916154245684) (E := -62) (by decide) (by decide) (by decide); have b := vp_fin (M := 14488038916154245685) (E := -62) (by decide) (by decide) (by decide)
 rw [show (-62 + (KK : Int)).toNat = KK - 62 by rw [KK_eq]; rfl] at a b
 constructor
 · unfold vr
   rw [if_neg (by decide)]; exact a
 · unfold vr
   rw [if_neg (by decide), show PIL + 1 = 14488038916154245685 - 9223372036854775808 + 1 + (-62 + 1048576) * 9223372036854775808 by decide]
   exact b
theorem kk_split : (2 : Int) ^ KK = 4611686018427387904 * 2 ^ (KK - 62) := by
 rw [show (2 : Int) ^ KK = 2 ^ (62 + (KK - 62)) by rw [KK_eq], Int.pow_add]
 rfl
theorem pi_lo : Rq false PLo SC PIL := by
 rw [rq_some (by decide), sid_f]; obtain ⟨a, b⟩ := pil_vr; have hp := p2pos (KK - 62)
 refine ⟨by decide, by decide, fun _ => ?_, fun _ => ?_⟩
 · rw [a, show sgi (decide (SC < 0)) SC = SC from rfl, show sgi (decide (SC < 0)) PLo = PLo from rfl, kk_split]
   generalize (2 : Int) ^ (KK - 62) = u at *
   unfold SC PLo
   omega
 · rw [b, show sgi (decide (SC < 0)) SC = SC from rfl, show sgi (decide (SC < 0)) PLo = PLo from rfl, kk_split]
   generalize (2 : Int) ^ (KK - 62) = u at *
   unfold SC PLo
   omega
theorem pi_hi : Rq true PHi SC (PIL + 1) := by
 rw [rq_some (by decide), sid_t]; obtain ⟨a, b⟩ := pil_vr; have hp := p2pos (KK - 62)
 refine ⟨by decide, by decide, fun _ => ?_, fun _ => ?_⟩
 · rw [vr_neg, b, show sgi (decide (SC < 0)) SC = SC from rfl, show sgi (decide (SC < 0)) PHi = PHi from rfl, kk_split]
   generalize (2 : Int) ^ (KK - 62) = u at *
   unfold SC PHi
   omega
 · rw [show -(PIL + 1) + 1 = -PIL by decide, vr_neg, a, show sgi (decide (SC < 0)) SC = SC from rfl, show sgi (decide (SC < 0)) PHi = PHi from rfl, kk_split]
   generalize (2 : Int) ^ (KK - 62) = u at *
   unfold SC PHi
   omega
end Go.Proofs.YtmmallhniijdfaaGreatDoor
namespace Go.Proofs.YtmmallhniijdfaaGreatDoor
set_option maxHeartbeats 2000000
open Go.RowKit
set_option linter.unusedVariables false
set_option linter.unusedSimpArgs false
set_option maxRecDepth 100000
def W2 (w : World) (K : Nat) (q r : Int) (e : Ending) (w' : World) : Prop := ∃ s1 A1 n1 c1 s2 A2 n2 c2, e = .returned (.tuple #[.agg #[.bool s1, .slice A1 n1 c1], .agg #[.bool s2, .slice A2 n2 c2]]) ∧ Wn w' s1 A1 n1 c1 q ∧ Wn w' s2 A2 n2 c2 r ∧ n1 ≤ K ∧ n2 ≤ K ∧ Below w.heap.size w w'
theorem Wn.fits {w : World} {A : Option Addr} {n c K : Nat} {s : Bool} {z : Int} (h : Wn w s A n c z) (hz : z.natAbs < 4294967296 ^ K) : n ≤ K := by
 have h1 := h.1.len; have h2 := limbs_length_le hz
 omega
theorem jScale {w : World} : Calls Tryz.prog 12 #[] w (W1 w 8 SC) := by
 go_enter Tryz.func12, Tryz.ntmps12
 go_upto_region 1 with (fail)
 generalize hW1 : w.alloc _ = w1 at *; obtain ⟨XR, HB⟩ := Bo.en1 hW1; clear hW1
 go_wp2_with fail
 refine (rShl (a := 1) 192 ⟨_, [1], one_limb w1, rfl⟩ (by decide) (by decide) (by decide)).mono ?_; rintro ee w2 ⟨A2, n2, c2, rfl, p2, k2, B⟩; replace B := bt (bel1 _ (.cells #[.int .u32 1] 54)) B; replace XR := XR.below B; replace HB := Hqb HB B; clear B
 go_wp2_with fail
 refine (qMake false p2.rd).mono ?_; rintro ee w3 ⟨s3, A3, n3, c3, rfl, p3, k3, B⟩; replace XR := XR.below B; replace p2 := p2.below B; replace HB := Hqb HB B; clear B; clear p2
 replace p3 : Wn w3 s3 A3 n3 c3 SC := by rw [show SC = sg false (1 * 2 ^ 192) by decide]; exact p3
 have xXR := XR.cell; have zXR0 := XR.frozen; go_wp2; clear xXR zXR0; have SX := StN.mk2 XR (.bool s3) (.slice A3 n3 c3); replace p3 := p3.stn SX (by simp [no32]); exact bodyPost_ret (v := .agg #[.bool s3, .slice A3 n3 c3]) (by simp [results, Tryz.results12, go_sem, SX.box.cell]) rfl ⟨s3, A3, n3, c3, rfl, p3, by omega, (SX.below HB.out (by omega))⟩
theorem jDown {w : World} {A : Option Addr} {n c : Nat} {s : Bool} {x : Int} {B : Option Addr} {m d : Nat} {t : Bool} {y : Int} {q : Int} (h : Wr w s A n c x) (k : Wr w t B m d y) (hn : n ≤ 268435456) (hm : m ≤ 268435456) (h0 : y ≠ 0) (hq : x.fdiv y = q) : Calls Tryz.prog 26 #[.agg #[.bool s, .slice A n c], .agg #[.bool t, .slice B m d]] w (W1 w (n + m + 4) q) := by
 go_enter Tryz.func26, Tryz.ntmps26
 go_upto_region 1 with (fail)
 generalize hW1 : ((w.alloc _).alloc _).alloc _ = w1 at *; obtain ⟨X2, X3, XR, HB⟩ := Bo.en3 hW1; replace h := h.below HB.out; replace k := k.below HB.out; clear hW1; have xX2 := X2.cell; have xX3 := X3.cell
 go_wp2_with fail
 refine (qDiv h k hn hm h0 hq rfl).mono ?_; rintro ee w2 ⟨s8, A8, n8, c8, s9, A9, n9, c9, rfl, p8, p9, k8, k9, B⟩; clear xX2 xX3; replace X2 := X2.below B; replace X3 := X3.below B; replace XR := XR.below B; replace h := h.below B; replace k := k.below B; replace HB := Hqb HB B; clear B; clear h k; clear X2 X3
 go_upto_region 2 with (fail)
 have e4X6 : (World.alloc w2 (.cells #[.bool s8, .slice A8 n8 c8] 25)).heap.size = w2.heap.size + 1 := by simp
 have lX5 := Nat.le_refl (World.heap w2).size; have nX5XR := XR.lt; have BX := bel1 w2 (.cells #[.bool s8, .slice A8 n8 c8] 25); replace XR := XR.below BX; replace p8 := p8.below BX; replace p9 := p9.below BX; replace HB := Lib.hid (bt HB.out BX); have X5 := Bo.new w2 #[.bool s8, .slice A8 n8 c8] 25
 generalize hWn : World.alloc w2 (.cells #[.bool s8, .slice A8 n8 c8] 25) = w3 at *; clear hWn; have lX6 := Nat.le_refl (World.heap w3).size; have nX6XR := XR.lt; have nX6X5 := X5.lt; generalize hWn : w3.alloc _ = w4 at *; obtain ⟨X6, BW⟩ := Bo.nw hWn; clear hWn; replace XR := XR.below BW; replace X5 := X5.below BW; replace p8 := p8.below BW; replace p9 := p9.below BW; replace HB := Hqb HB BW
 clear BW; rw [e4X6] at X6; clear lX5 lX6 e4X6; clear p9; have xXR := XR.cell; have zXR0 := XR.frozen; have xX5 := X5.cell; go_wp2; clear xXR zXR0 xX5; have SX := StN.mk2 XR (.bool s8) (.slice A8 n8 c8); replace p8 := p8.stn SX (by simp [no32]); exact bodyPost_ret (v := .agg #[.bool s8, .slice A8 n8 c8]) (by simp [results, Tryz.results26, go_sem, SX.box.cell]) rfl ⟨s8, A8, n8, c8, rfl, p8, k8, (SX.below HB.out (by omega))⟩
theorem jTimes {w : World} {A : Option Addr} {n c : Nat} {s : Bool} {x : Int} {z r : Int} (h : Wr w s A n c x) (hn : n ≤ 268435456) (h1 : -9223372036854775808 ≤ z) (h2 : z ≤ 9223372036854775807) (hr : x * z = r) : Calls Tryz.prog 27 #[.agg #[.bool s, .slice A n c], .int .i64 z] w (W1 w (n + 2) r) := by
 go_enter Tryz.func27, Tryz.ntmps27
 go_upto_region 1 with (fail)
 generalize hW1 : (w.alloc _).alloc _ = w1 at *; obtain ⟨X2, XR, HB⟩ := Bo.en2 hW1; replace h := h.below HB.out; clear hW1; refine Jo.rk [0, 1, 2, 3] [some 5, some 6, some 7, some 8, none] [[], [], [1], [0, 2], []] 5 1 [Jo.Fact.eq (.agg #[.bool s, .slice A n c]), Jo.qi z, Jo.Fact.wn (z) (2), Jo.Fact.wn (r) (n + 2), Jo.Fact.any] (by kernel_rfl) (by kernel_rfl) (by decide) rfl ?_ ?_
 · iterate 2 (refine Jo.jm rfl ?_ ?_; rotate_left)
   refine Jo.jm rfl ?_ ?_
   · rintro wj hJ _ rfl K hK; simp only [Jo.z] at hK ⊢; go_simp; refine (qFrom z _ h1 h2).mono ?_; rintro ee wk ⟨s3, A3, n3, c3, rfl, p3, k3, B⟩; exact hK.out _ _ ⟨s3, A3, n3, c3, rfl, p3, k3⟩ B
   refine Jo.jm rfl ?_ ?_
   · rintro wj hJ _ rfl _ ⟨s3, A3, n3, c3, rfl, p3, k3⟩ K hK; simp only [Jo.z] at hK ⊢; go_simp; refine (qTwo (h.below hJ) p3.wr hn (by omega) hr).mono ?_; rintro ee wk ⟨s4, A4, n4, c4, rfl, p4, k4, B⟩; exact hK.out _ _ ⟨s4, A4, n4, c4, rfl, p4, by omega⟩ B
   exact Jo.Steps.nil
   all_goals (rintro wj hJ; (repeat rintro _ rfl); intro K hK; simp only [Jo.z] at hK ⊢; have xX2 := (X2.below hJ).cell; go_simp; exact hK.out _ _ rfl (br _ _))
 rintro w2 hJ _ rfl _ rfl _ ⟨s3, A3, n3, c3, rfl, p3, k3⟩ _ ⟨s4, A4, n4, c4, rfl, p4, k4⟩ -; simp only [Jo.z]; replace X2 := X2.below hJ; replace XR := XR.below hJ; replace h := h.below hJ; replace HB := Hqb HB hJ; clear h; have xXR := XR.cell; have zXR0 := XR.frozen
 refine Jo.jnext (i := 4) (o := ⟨none, _, _, _, _, _⟩) (by kernel_rfl) rfl (fun K hK => ?_)
 go_simp; refine hK.out _ _ ?_; clear hK K xXR zXR0; have SX := StN.mk2 XR (.bool s4) (.slice A4 n4 c4); replace p4 := p4.stn SX (by simp [no32]); refine Jo.jdone (by kernel_rfl) ?_; go_wp2; exact bodyPost_ret (v := .agg #[.bool s4, .slice A4 n4 c4]) (by simp [results, Tryz.results27, go_sem, SX.box.cell]) rfl ⟨s4, A4, n4, c4, rfl, p4, k4, (SX.below HB.out (by omega))⟩
end Go.Proofs.YtmmallhniijdfaaGreatDoor
namespace Go.Proofs.YtmmallhniijdfaaGreatDoor
open Go Go.RowKit
set_option linter.unusedVariables false
structure Duo (g h : Nat) (w w' : World) : Prop where
 os : w'.os = w.os
 tape : w'.tape = w.tape
 output : w'.output = w.output
 size : w.heap.size ≤ w'.heap.size
 block : ∀ k, k < w.heap.size → k ≠ g → k ≠ h → w'.heap[k]? = w.heap[k]?
section
variable {g h : Nat} {w w' w'' : World}
theorem Duo.of (H : Below w.heap.size w w') : Duo g h w w' := ⟨H.os, H.tape, H.output, H.size, fun k hk _ _ => H.block k hk⟩
theorem Duo.trans (H : Duo g h w w') (K : Duo g h w' w'') : Duo g h w w'' :=
 ⟨K.os.trans H.os, K.tape.trans H.tape, K.output.trans H.output, Nat.le_trans H.size K.size, fun i hi a b => (K.block i (Nat.lt_of_lt_of_le hi H.size) a b).trans (H.block i hi a b)⟩
theorem Duo.mv (H : Duo g h w w') (K : Below w'.heap.size w' w'') : Duo g h w w'' := H.trans (.of K)
theorem Duo.stn {k : Nat} {old new : Array Value} {R : TypeId} (H : Duo g h w w') (S : StN w' w'' k old new R) (hk : k = g ∨ k = h ∨ w.heap.size ≤ k) : Duo g h w w'' := by
 have hb := S.2.2.2 0 w' (Nat.zero_le _) (Below.refl 0 w')
 exact ⟨hb.os.trans H.os, hb.tape.trans H.tape, hb.output.trans H.output, Nat.le_trans H.size hb.size, fun i hi a b => (S.2.2.1 i (by omega)).trans (H.block i hi a b)⟩
theorem Duo.below {B : Nat} {a : World} (O : Duo g h w w') (H : Below B a w) (h1 : B ≤ g) (h2 : B ≤ h) (h3 : B ≤ w.heap.size) : Below B a w' :=
 ⟨O.os.trans H.os, O.tape.trans H.tape, O.output.trans H.output, Nat.le_trans H.size O.size, fun k hk => (O.block k (by omega) (by omega) (by omega)).trans (H.block k hk)⟩
theorem Bo.duo {k : Nat} {cs : Array Value} {T : TypeId} (X : Bo w k cs T) (O : Duo g h w w') (a : k ≠ g) (b : k ≠ h) : Bo w' k cs T := X.keep (O.block k X.lt a b)
theorem Wn.duo {old old2 : Array Value} {R R2 : TypeId} {s : Bool} {B : Option Addr} {m d : Nat} {z : Int} (p : Wn w s B m d z) (X : Bo w g old R) (Y : Bo w h old2 R2) (hn : old.all no32 = true) (hn2 : old2.all no32 = true) (O : Duo g h w w') : Wn w' s B m d z := by
 obtain ⟨⟨b, q⟩, e⟩ := p
 refine ⟨⟨b, q.keep fun hm => O.block b (q.lt hm) (fun e => ?_) (fun e => ?_)⟩, e⟩
 · obtain ⟨o, _, hc⟩ := q.at hm
   have := hc 0 hm
   rw [e] at this; exact X.no hn this
 · obtain ⟨o, _, hc⟩ := q.at hm
   have := hc 0 hm
   rw [e] at this; exact Y.no hn2 this
end
theorem term_le {p : Int} {k : Nat} {T : Int} (hp : 0 < p) (hT : SC.fdiv (p * (2 * (k : Int) + 1)) = T) (hn : T ≠ 0) : p ≤ SC := by
 have hd : 0 < p * (2 * (k : Int) + 1) := Int.mul_pos hp (by omega)
 rw [Int.fdiv_eq_ediv_of_nonneg _ (by omega)] at hT
 have le : p * (2 * (k : Int) + 1) ≤ SC := by
   rcases Int.lt_or_le SC (p * (2 * (k : Int) + 1)) with c | c
   · exact absurd ((Int.ediv_eq_zero_of_lt (by decide) c).symm.trans hT).symm hn
   · exact c
 exact Int.le_trans (by
   have : p * 1 ≤ p * (2 * (k : Int) + 1) := Int.mul_le_mul_of_nonneg_left (by omega) (by omega)
   omega) le
theorem term_bd {p T : Int} {k : Nat} (hp : 0 < p) (hT : SC.fdiv (p * (2 * (k : Int) + 1)) = T) : 0 ≤ T ∧ T ≤ SC := by
 have hd : 0 < p * (2 * (k : Int) + 1) := Int.mul_pos hp (by omega)
 rw [Int.fdiv_eq_ediv_of_nonneg _ (by omega)] at hT; rw [← hT]; exact ⟨Int.ediv_nonneg (by decide) (by omega), Int.ediv_le_self _ (by decide)⟩
theorem power_bd {p n : Int} (hp : 0 < p) (h : p ≤ SC * 1000000) (h1 : 2 ≤ n) (h2 : n ≤ 1000) : 0 < p * (n * n) ∧ p * (n * n) ≤ SC * 1000000 * 1000000 := by
 have a : 0 < n * n := Int.mul_pos (by omega) (by omega)
 have b : n * n ≤ 1000 * 1000 := Int.mul_le_mul h2 h2 (by omega) (by decide)
 exact ⟨Int.mul_pos hp a, Int.mul_le_mul h (by omega) (by omega) (by decide)⟩
theorem small8 {T : Int} (h : 0 ≤ T ∧ T ≤ SC) : T.natAbs < 4294967296 ^ 8 := by
 have a : T ≤ 6277101735386680763835789423207666416102355444464034512896 := h.2
 have b := h.1
 omega
theorem small10 {p : Int} (h : 0 < p ∧ p ≤ SC * 1000000 * 1000000) : p.natAbs < 4294967296 ^ 10 := by
 have a : p ≤ 6277101735386680763835789423207666416102355444464034512896 * 1000000 * 1000000 := h.2
 have b := h.1
 omega
end Go.Proofs.YtmmallhniijdfaaGreatDoor

/-
  Contracts and words that the statement's proof rests on, several texts in one: Cl, Ia, Ib.
-/
import Derived.Maps.AppendAt
import Derived.Test.YteejbcimmmcnlaaGreatDoorYBbg
import Derived.Test.YteejbcimmmcnlaaGreatDoorYBbh
/-
  append of one number, onto a row of numbers of the call's own.
-/
namespace Go.Proofs.YteejbcimmmcnlaaGreatDoor
open Go.RowKit
set_option linter.unusedVariables false
set_option maxRecDepth 100000

theorem infoNum : (Tryz.prog.info? 24).map (fun i => (i.zero, i.size, i.bytes)) = some (some (.agg #[.int .i64 0, .bool false, .int .u64 0, .int .i64 0]), 4, 32) := by kernel_rfl
section
variable {w w' : World} {base n c : Nat} {A : Option Addr} {l : List Int}
/-- The block it lies in. -/
def ownA (A : Option Addr) : Option Nat := A.map (·.block)
theorem own_eq (A : Option Addr) (n c : Nat) : (Value.slice A n c).ownBlock = ownA A := by cases A <;> rfl
/-- What grows another row leaves it. -/
theorem Na.kept {row : Option Nat} (h : Na w base A n c l) (hg : w.grownBy w' row) (hne : ownA A = none ∨ ownA A ≠ row) : Na w' base A n c l := by
  obtain ⟨r, h1, h2⟩ := h; exact ⟨r, h1.kept hg (by rw [own_eq]; exact hne), h2⟩
theorem Na.own_lt (h : Na w base A n c l) : ∀ k, ownA A = some k → base ≤ k ∧ k < w.heap.size := by
  obtain ⟨r, h1, h2⟩ := h
  intro k hk
  exact h1.lt k (by rw [own_eq]; exact hk)
theorem run_na {ty : TypeId} {g : Nat} {K M E a : Int} {s : Bool} (h : Na w base A n c l) (q : Fq K s M E a) (X : Bo w g #[.int .i64 K, .bool s, .int .u64 M, .int .i64 E] 24) (hn : n + 1 ≤ 1099511627776) (hb : base ≤ w.heap.size) :
    ∃ A2 c2 w', (Builtin.append_ #[59, 59] ty #[.slice A n c, .slice (some ⟨g, 0, none⟩) 1 1]).run Tryz.prog w = .ok (.slice A2 (n + 1) c2) w' ∧ Na w' base A2 (n + 1) c2 (l ++ [a]) ∧ w.grownBy w' (ownA A) ∧ (ownA A2 = ownA A ∨ ownA A2 = some w.heap.size) := by
  obtain ⟨i, hi, hz, hsi, hby⟩ := info_parts infoNum; obtain ⟨r, h1, h2, h3, h4⟩ := h
  obtain ⟨v', w', hr, ho, hg, _, hat⟩ := run_append_own_at (P := Tryz.prog) w base 59 ty 24 i _ 4 32 Tryz.underlying59 hi hz hsi hby rfl (by decide) _ n (nrow r) h1 ⟨g, 0, none⟩ 1 1 (nrow [(K, s, M, E)]) rfl (by
    intro j u hj
    have hc := X.cell
    rcases j with _ | _ | _ | _ | j
    · cases hj
      exact hc 0
    · cases hj
      exact hc 1
    · cases hj
      exact hc 2
    · cases hj
      exact hc 3
    · cases hj) (by
    intro u hu
    simp only [nrow, List.mem_cons, List.not_mem_nil, or_false] at hu
    rcases hu with rfl | rfl | rfl | rfl <;> rfl) (by unfold maxLen; omega) (by omega) hb
  rw [own_eq] at hg hat; rw [← nrow_append] at ho
  obtain ⟨A2, c2, rfl⟩ : ∃ A2 c2, v' = .slice A2 (n + 1) c2 := by
    rcases ho.2 with ⟨_, h0⟩ | ⟨g', cap', cur', hv, _⟩
    · omega
    · exact ⟨_, _, hv⟩
  rw [own_eq] at hat
  refine ⟨A2, c2, w', hr, ⟨_, ho, by rw [List.length_append, h2]; rfl, by rw [List.length_append, h3]; rfl, fun k hk => ?_⟩, hg, hat⟩
  by_cases hkn : k < n
  · obtain ⟨K1, s1, M1, E1, hq, qq⟩ := h4 k hkn; refine ⟨K1, s1, M1, E1, by rw [List.getElem?_append_left (by omega)]; exact hq, ?_⟩
    rw [List.getD_eq_getElem?_getD, List.getElem?_append_left (by omega), ← List.getD_eq_getElem?_getD]; exact qq
  · obtain rfl : k = n := by omega
    refine ⟨K, s, M, E, by rw [List.getElem?_append_right (by omega), h2]; simp, ?_⟩
    rw [List.getD_eq_getElem?_getD, List.getElem?_append_right (by omega), h3]
    simpa using q
/-- append(d, x), in a walk. -/
theorem wpList_na {ops : Array Oper} {rest : List Oper} {o : Oper} {a : Act} {Q : Exit → Act → World → Prop} (hgd : o.guard = none) (s x : Operand)
    (ho : o.op = .call { callee := .builtin .append, args := #[s, x], argTypes := #[59, 59] }) {g : Nat} {K M E p : Int} {b : Bool}
    (hs : a.eval s = .slice A n c) (hx : a.eval x = .slice (some ⟨g, 0, none⟩) 1 1) (h : Na w base A n c l) (q : Fq K b M E p) (X : Bo w g #[.int .i64 K, .bool b, .int .u64 M, .int .i64 E] 24) (hn : n + 1 ≤ 1099511627776) (hb : base ≤ w.heap.size)
    (hK : ∀ A2 c2 w', Na w' base A2 (n + 1) c2 (l ++ [p]) → w.grownBy w' (ownA A) → (ownA A2 = ownA A ∨ ownA A2 = some w.heap.size) → wpList Tryz.prog ops Q rest (a.put o.dst (.slice A2 (n + 1) c2)) w') : wpList Tryz.prog ops Q (o :: rest) a w := by
  refine wpList_plain hgd fun K hK2 => ?_
  obtain ⟨A2, c2, w', hr, h1, h2, h3⟩ := run_na (ty := o.type) h q X hn hb
  unfold Oper.wp execOp
  simp only [ho, resolve, invoke, builtin, Sem.run_bind, Sem.run_pure, Result.andThen_ok, List.map_toArray, List.map_cons, List.map_nil, hs, hx, hr]; exact hK2 _ _ (hK A2 c2 w' h1 h2 h3)
end
end Go.Proofs.YteejbcimmmcnlaaGreatDoor

/-
  Places next to a quotient, by worth alone: unique, rising; what is rounded of a number that lies between the same two. Plain arithmetic; no Go text.
-/
namespace Go.Proofs.YteejbcimmmcnlaaGreatDoor
open Go.RowKit
set_option linter.unusedVariables false

/-- The place of the greatest number that is not above A / B, and of the least that is not below it (B above nought). -/
def DnQ (A B r : Int) : Prop := -19342822337206103650074625 ≤ r ∧ r ≤ 19342822337206103650074624 ∧ (-19342822337206103650074625 < r → vr r * B ≤ A) ∧ (r < 19342822337206103650074624 → A < vr (r + 1) * B)
def UpQ (A B r : Int) : Prop := DnQ (-A) B (-r)
def Sid (up : Bool) (A B r : Int) : Prop := if up = true then UpQ A B r else DnQ A B r
theorem sid_f {A B r : Int} : Sid false A B r = DnQ A B r := if_neg (by decide)
theorem sid_t {A B r : Int} : Sid true A B r = UpQ A B r := if_pos rfl
theorem DnQ.mono {A B C D r t : Int} (hB : 0 < B) (hD : 0 < D) (h : DnQ A B r) (k : DnQ C D t) (hAC : A * D ≤ C * B) : r ≤ t := by
  obtain ⟨h1, h2, h3, h4⟩ := h; obtain ⟨k1, k2, k3, k4⟩ := k
  rcases Int.lt_or_le t r with q | q
  · exfalso
    have a := h3 (by omega); have b := k4 (by omega)
    have c : vr (t + 1) ≤ vr r := vr_le (by omega)
    have a2 : vr r * B * D ≤ A * D := Int.mul_le_mul_of_nonneg_right a (Int.le_of_lt hD)
    have b2 : C * B < vr (t + 1) * D * B := Int.mul_lt_mul_of_pos_right b hB
    have c2 : vr (t + 1) * (D * B) ≤ vr r * (D * B) := Int.mul_le_mul_of_nonneg_right c (Int.le_of_lt (Int.mul_pos hD hB))
    rw [Int.mul_assoc, Int.mul_comm B D] at a2; rw [Int.mul_assoc] at b2
    omega
  · exact q
theorem DnQ.uniq {A B r t : Int} (hB : 0 < B) (h : DnQ A B r) (k : DnQ A B t) : r = t := by
  have a := h.mono hB hB k (Int.le_refl _); have b := k.mono hB hB h (Int.le_refl _)
  omega
theorem Sid.uniq {up : Bool} {A B r t : Int} (hB : 0 < B) (h : Sid up A B r) (k : Sid up A B t) : r = t := by
  cases up
  · rw [sid_f] at h k; exact h.uniq hB k
  · rw [sid_t] at h k
    have := DnQ.uniq hB h k
    omega
theorem Sid.mono {up : Bool} {A B C D r t : Int} (hB : 0 < B) (hD : 0 < D) (h : Sid up A B r) (k : Sid up C D t) (hAC : A * D ≤ C * B) : r ≤ t := by
  cases up
  · rw [sid_f] at h k; exact h.mono hB hD k hAC
  · rw [sid_t] at h k
    have := DnQ.mono hD hB k h (by rw [Int.neg_mul, Int.neg_mul]; omega)
    omega
/-- Of the opposite, to the other side, the opposite. -/
theorem Sid.neg {up : Bool} {A B r : Int} (h : Sid up A B r) : Sid (!up) (-A) B (-r) := by
  cases up
  · rw [sid_f] at h
    rw [show (!false) = true from rfl, sid_t]
    unfold UpQ
    rw [Int.neg_neg, Int.neg_neg]; exact h
  · rw [sid_t] at h
    rw [show (!true) = false from rfl, sid_f]
    exact h
theorem sid_sgi {s up : Bool} {A B r : Int} (h : Sid (up != s) A B r) : Sid up (sgi s A) B (sgi s r) := by
  cases s
  · rw [wsg_f, wsg_f]
    cases up <;> exact h
  · rw [wsg_t, wsg_t]
    have h2 : Sid (!up) A B r := by cases up <;> exact h
    have := h2.neg
    rwa [Bool.not_not] at this
theorem Sid.bd {up : Bool} {A B r : Int} (h : Sid up A B r) : -19342822337206103650074625 ≤ r ∧ r ≤ 19342822337206103650074625 := by
  cases up
  · rw [sid_f] at h
    have := h.1; have := h.2.1
    omega
  · rw [sid_t] at h
    have := h.1; have := h.2.1
    omega
/-- There is one. -/
theorem last_yes (p : Nat → Prop) (h0 : p 0) : ∀ n, ¬ p n → ∃ k, k < n ∧ p k ∧ ¬ p (k + 1)
  | 0, h => absurd h0 h
  | n + 1, h => by
    by_cases q : p n
    · exact ⟨n, Nat.lt_succ_self _, q, h⟩
    · obtain ⟨k, a, b, c⟩ := last_yes p h0 n q; exact ⟨k, Nat.lt_succ_of_lt a, b, c⟩
theorem dnq_ex (A : Int) {B : Int} (hB : 0 < B) : ∃ r, DnQ A B r := by
  obtain ⟨n, hn⟩ : ∃ n : Nat, (n : Int) = 38685644674412207300149250 := ⟨38685644674412207300149250, rfl⟩
  obtain ⟨k, hk, a, b⟩ := last_yes (fun k => k = 0 ∨ ((k : Int) ≤ 38685644674412207300149249 ∧ vr ((k : Int) - 19342822337206103650074625) * B ≤ A)) (.inl rfl) n (by omega)
  refine ⟨(k : Int) - 19342822337206103650074625, by omega, by omega, fun h => ?_, fun h => ?_⟩
  · rcases a with a | a
    · omega
    · exact a.2
  · have c : ¬ vr (((k + 1 : Nat) : Int) - 19342822337206103650074625) * B ≤ A := fun c => b (.inr ⟨by omega, c⟩)
    rw [show ((k + 1 : Nat) : Int) - 19342822337206103650074625 = (k : Int) - 19342822337206103650074625 + 1 by omega] at c
    omega
theorem sid_ex (up : Bool) (A : Int) {B : Int} (hB : 0 < B) : ∃ r, Sid up A B r := by
  cases up
  · obtain ⟨r, h⟩ := dnq_ex A hB; exact ⟨r, by rw [sid_f]; exact h⟩
  · obtain ⟨r, h⟩ := dnq_ex (-A) hB; refine ⟨-r, ?_⟩; rw [sid_t]
    unfold UpQ
    rw [Int.neg_neg]; exact h
/-- By a worth that lies between the same two. -/
theorem DnQ.of_dn {X A B a b r : Int} (hB : 0 < B) (h : Dn X r) (h1 : a < X) (h2 : X < b) (h3 : a * B < A) (h4 : A < b * B) (hs : ∀ s, ¬ (a < vr s ∧ vr s < b)) : DnQ A B r := by
  obtain ⟨d1, d2, d3, d4⟩ := h
  refine ⟨d1, d2, fun k => ?_, fun k => ?_⟩
  · have e := d3 k; have n := hs r
    have l : vr r ≤ a := by omega
    have := Int.mul_le_mul_of_nonneg_right l (Int.le_of_lt hB)
    omega
  · have e := d4 k; have n := hs (r + 1)
    have l : b ≤ vr (r + 1) := by omega
    have := Int.mul_le_mul_of_nonneg_right l (Int.le_of_lt hB)
    omega
theorem DnQ.of_eq {X A B r : Int} (hB : 0 < B) (h : Dn X r) (e : X * B = A) : DnQ A B r := by
  obtain ⟨d1, d2, d3, d4⟩ := h; subst e
  exact ⟨d1, d2, fun k => Int.mul_le_mul_of_nonneg_right (d3 k) (Int.le_of_lt hB), fun k => Int.mul_lt_mul_of_pos_right (d4 k) hB⟩
theorem sid_of {P : Int × Int} {A B a b : Int} (up : Bool) (hP : Nf P) (hB : 0 < B) (h1 : a < vl P) (h2 : vl P < b) (h3 : a * B < A) (h4 : A < b * B) (hs : ∀ s, ¬ (a < vr s ∧ vr s < b)) : Sid up A B (rnd up P.1 P.2) := by
  obtain ⟨p1, p2⟩ := rnd_spec hP
  cases up
  · rw [sid_f]; exact DnQ.of_dn hB p1 h1 h2 h3 h4 hs
  · rw [sid_t]
    refine DnQ.of_dn (a := -b) (b := -a) hB p2 (by omega) (by omega) (by rw [Int.neg_mul]; omega) (by rw [Int.neg_mul]; omega) (fun s => ?_)
    have := hs (-s)
    rw [vr_neg] at this
    omega
theorem sid_eq {P : Int × Int} {A B : Int} (up : Bool) (hP : Nf P) (hB : 0 < B) (e : vl P * B = A) : Sid up A B (rnd up P.1 P.2) := by
  obtain ⟨p1, p2⟩ := rnd_spec hP
  cases up
  · rw [sid_f]; exact DnQ.of_eq hB p1 e
  · rw [sid_t]; exact DnQ.of_eq hB p2 (by rw [Int.neg_mul]; omega)
/-- Far enough from nought no place lies between two even multiples. -/
theorem no_placeQ {i : Int} {u : Nat} (hi : 9223372036854775808 ≤ i) (s : Int) : ¬ (2 * i * 2 ^ u < vr s ∧ vr s < (2 * i + 2) * 2 ^ u) := by
  rintro ⟨h1, h2⟩; have hu := p2pos u
  have hpos : 0 < vr s := Int.lt_of_le_of_lt (Int.mul_nonneg (by omega) (Int.le_of_lt hu)) h1
  have hs : 0 < s := by
    rcases Int.lt_or_le 0 s with q | q
    · exact q
    · exfalso
      have := vr_le q
      rw [show vr 0 = 0 from rfl] at this
      omega
  have e0 : vr s = ((s - 1) % 9223372036854775808 + 9223372036854775808) * 2 ^ ((s - 1) / 9223372036854775808 - 1048576 + KK).toNat := by
    unfold vr vp
    rw [if_neg (by omega), if_neg (by omega)]
  obtain ⟨M, hM⟩ : ∃ M, (s - 1) % 9223372036854775808 + 9223372036854775808 = M := ⟨_, rfl⟩; obtain ⟨t, ht⟩ : ∃ t, ((s - 1) / 9223372036854775808 - 1048576 + (KK : Int)).toNat = t := ⟨_, rfl⟩; rw [hM, ht] at e0
  have hMl : M < 18446744073709551616 := by omega
  rw [e0] at h1 h2; clear e0 hM ht hs hpos
  rcases Nat.lt_or_ge u t with q | q
  · obtain ⟨d, rfl⟩ : ∃ d, t = u + 1 + d := ⟨t - (u + 1), by omega⟩
    have e1 : M * 2 ^ (u + 1 + d) = M * 2 ^ d * 2 * 2 ^ u := by
      rw [Int.pow_add, Int.pow_succ]; generalize (2 : Int) ^ u = U; generalize (2 : Int) ^ d = D; rw [Int.mul_assoc M D 2, Int.mul_assoc M, Int.mul_comm U 2, Int.mul_comm (2 * U) D, Int.mul_assoc D 2 U]
    rw [e1] at h1 h2; have a1 := Int.lt_of_mul_lt_mul_right h1 (Int.le_of_lt hu); have a2 := Int.lt_of_mul_lt_mul_right h2 (Int.le_of_lt hu)
    omega
  · obtain ⟨d, rfl⟩ : ∃ d, u = t + d := ⟨u - t, by omega⟩
    have ht := p2pos t; have hd := p2pos d; rw [Int.pow_add] at h1
    have l1 : (2 : Int) ^ t * 1 ≤ 2 ^ t * 2 ^ d := Int.mul_le_mul_of_nonneg_left hd (Int.le_of_lt ht)
    rw [Int.mul_one] at l1
    have l2 : 2 * i * (2 : Int) ^ t ≤ 2 * i * (2 ^ t * 2 ^ d) := Int.mul_le_mul_of_nonneg_left l1 (by omega)
    have a1 := Int.lt_of_mul_lt_mul_right (Int.lt_of_le_of_lt l2 h1) (Int.le_of_lt ht)
    omega
theorem mk_vlB {z e : Int} (h : z.natAbs < 2 ^ 500000) (h1 : -3000000 ≤ e) (h2 : e ≤ 3000000) : vl (mk z e) = z * 2 ^ (e + KK).toNat := by
  obtain ⟨η, hη⟩ : ∃ η : Nat, η = 4000000 := ⟨_, rfl⟩; refine (mk_fit (h := η) (by omega) (by omega) ?_).2; obtain ⟨κ, hκ⟩ : ∃ κ : Nat, κ = 500000 := ⟨_, rfl⟩; rw [← hκ] at h
  have := Nat.mul_lt_mul_of_pos_right h (Nat.pow_pos (n := (e + (η : Int)).toNat) (show 0 < 2 by decide))
  rw [← Nat.pow_add] at this; exact Nat.lt_of_lt_of_le this (Nat.pow_le_pow_right (by decide) (by omega))
/-- A quotient's bits, and one more that tells whether something is left. -/
def stk (q r : Nat) : Nat := 2 * q + if r = 0 then 0 else 1
/-- A quotient of natural numbers, rounded by its first bits and what is left. -/
theorem quo_side {α β : Nat} {e : Int} {n κ : Nat} (up : Bool) (hβ : 0 < β) (hq0 : α ≠ 0 → 9223372036854775808 ≤ α * 2 ^ n / β) (hκ : κ = 500000) (hs : stk (α * 2 ^ n / β) (α * 2 ^ n % β) < 2 ^ κ) (h1 : -2900000 ≤ e - n) (h2 : e ≤ 2900000) :
    Sid up ((α : Int) * 2 ^ (e + KK).toNat) (β : Int) (rnd up (mk ((stk (α * 2 ^ n / β) (α * 2 ^ n % β) : Nat) : Int) (e - n - 1)).1 (mk ((stk (α * 2 ^ n / β) (α * 2 ^ n % β) : Nat) : Int) (e - n - 1)).2) := by
  have hk := KK_eq
  have hb0 : (0 : Int) < (β : Int) := by omega
  have nf := mk_nf ((stk (α * 2 ^ n / β) (α * 2 ^ n % β) : Nat) : Int) (e - n - 1); have ev := mk_vlB (z := ((stk (α * 2 ^ n / β) (α * 2 ^ n % β) : Nat) : Int)) (e := e - n - 1) (by rw [Int.natAbs_natCast, ← hκ]; exact hs) (by omega) (by omega); obtain ⟨u, hu⟩ : ∃ u : Nat, (e - n - 1 + (KK : Int)).toNat = u := ⟨_, rfl⟩
  have e1 : (e + (KK : Int)).toNat = n + (1 + u) := by omega
  rw [hu] at ev
  rw [e1, Int.pow_add, Int.pow_add, show (2 : Int) ^ 1 = 2 from rfl, ← Int.mul_assoc]
  have hd := Nat.div_add_mod (α * 2 ^ n) β; have hm := Nat.mod_lt (α * 2 ^ n) hβ; have hpu := p2pos u
  have hcast : ((α * 2 ^ n : Nat) : Int) = (α : Int) * 2 ^ n := by push_cast; rfl
  by_cases ha : α = 0
  · subst ha
    have e2 : stk (0 * 2 ^ n / β) (0 * 2 ^ n % β) = 0 := by
      rw [Nat.zero_mul, Nat.zero_div, Nat.zero_mod]
      rfl
    rw [e2] at ev nf ⊢; refine sid_eq up nf hb0 ?_; rw [ev]
    show (((0 : Nat) : Int)) * 2 ^ u * (β : Int) = ((0 : Nat) : Int) * 2 ^ n * (2 * 2 ^ u)
    rw [show (((0 : Nat) : Int)) = 0 from rfl, Int.zero_mul, Int.zero_mul, Int.zero_mul, Int.zero_mul]
  · have hq := hq0 ha; clear hq0; clear hs; rw [← hcast]; clear hcast; generalize α * 2 ^ n = X at ev nf hd hm hq ⊢; generalize X / β = q at ev nf hd hq ⊢; generalize X % β = r at ev nf hd hm ⊢
    have hdI : (β : Int) * (q : Int) + (r : Int) = (X : Int) := by exact_mod_cast hd
    by_cases hr : r = 0
    · have e3 : stk q r = 2 * q := by
        unfold stk
        rw [if_pos hr]
        omega
      rw [e3] at ev nf ⊢; refine sid_eq up nf hb0 ?_; rw [ev, ← hdI, hr]
      show (((2 * q : Nat)) : Int) * 2 ^ u * (β : Int) = ((β : Int) * (q : Int) + ((0 : Nat) : Int)) * (2 * 2 ^ u)
      push_cast
      generalize (2 : Int) ^ u = U; rw [Int.add_zero, Int.mul_assoc, Int.mul_comm U, Int.mul_assoc 2, ← Int.mul_assoc (q : Int), Int.mul_comm (q : Int), Int.mul_left_comm]
    · have e3 : stk q r = 2 * q + 1 := by
        unfold stk
        rw [if_neg hr]
      rw [e3] at ev nf ⊢
      have c1 : (((2 * q + 1 : Nat)) : Int) = 2 * (q : Int) + 1 := by omega
      have c2 : (2 * (q : Int) * 2 ^ u) * (β : Int) = (β : Int) * (q : Int) * (2 * 2 ^ u) := by
        generalize (2 : Int) ^ u = U; rw [Int.mul_right_comm, Int.mul_comm 2 (q : Int), Int.mul_assoc (q : Int) 2, Int.mul_comm 2 (β : Int), ← Int.mul_assoc (q : Int), Int.mul_comm (q : Int), Int.mul_assoc]
      have c3 : ((2 * (q : Int) + 2) * 2 ^ u) * (β : Int) = ((β : Int) * (q : Int) + (β : Int)) * (2 * 2 ^ u) := by
        rw [show 2 * (q : Int) + 2 = 2 * ((q : Int) + 1) by omega, show (β : Int) * (q : Int) + (β : Int) = (β : Int) * ((q : Int) + 1) by rw [Int.mul_add, Int.mul_one]]
        generalize (2 : Int) ^ u = U; generalize (q : Int) + 1 = p; rw [Int.mul_right_comm, Int.mul_comm 2 p, Int.mul_assoc p 2, Int.mul_comm 2 (β : Int), ← Int.mul_assoc p, Int.mul_comm p, Int.mul_assoc]
      have h2u : (0 : Int) < 2 * 2 ^ u := by omega
      refine sid_of up nf hb0 (a := 2 * (q : Int) * 2 ^ u) (b := (2 * (q : Int) + 2) * 2 ^ u) ?_ ?_ ?_ ?_ (no_placeQ (by omega))
      · rw [ev, c1]; exact Int.mul_lt_mul_of_pos_right (by omega) hpu
      · rw [ev, c1]; exact Int.mul_lt_mul_of_pos_right (by omega) hpu
      · rw [c2]; exact Int.mul_lt_mul_of_pos_right (by omega) h2u
      · rw [c3]; exact Int.mul_lt_mul_of_pos_right (by omega) h2u
end Go.Proofs.YteejbcimmmcnlaaGreatDoor

/-
  Places next to a root, by worth alone; what quotients and roots have to do with their neighbours, ones, opposites. Plain arithmetic; no Go text.
-/
namespace Go.Proofs.YteejbcimmmcnlaaGreatDoor
open Go.RowKit
set_option linter.unusedVariables false

theorem sid_exact {up : Bool} {A B r : Int} (hB : 0 < B) (h1 : -19342822337206103650074625 < r) (h2 : r < 19342822337206103650074625) (e : vr r * B = A) : Sid up A B r := by
  cases up
  · rw [sid_f]; exact DnQ.of_eq hB (dn_self h1 h2) e
  · rw [sid_t]; refine DnQ.of_eq hB (dn_self (r := -r) (by omega) (by omega)) ?_; rw [vr_neg, Int.neg_mul, e]
/-- Both sides are one, or neighbours. -/
theorem sid_two {A B r t : Int} (hB : 0 < B) (h : Sid false A B r) (k : Sid true A B t) : (t = r ∧ vr r * B = A ∧ -19342822337206103650074625 < r ∧ r < 19342822337206103650074625) ∨ (t = r + 1 ∧ (-19342822337206103650074625 < r → vr r * B < A) ∧ (t < 19342822337206103650074625 → A < vr t * B)) := by
  rw [sid_f] at h; rw [sid_t] at k; obtain ⟨h1, h2, h3, h4⟩ := h; obtain ⟨k1, k2, k3, k4⟩ := k
  have k3' : t < 19342822337206103650074625 → A ≤ vr t * B := fun c => by
    have := k3 (by omega)
    rw [vr_neg, Int.neg_mul] at this
    omega
  have k4' : -19342822337206103650074624 < t → vr (t - 1) * B < A := fun c => by
    have := k4 (by omega)
    rw [show -t + 1 = -(t - 1) by omega, vr_neg, Int.neg_mul] at this
    omega
  have mul_le : ∀ a b : Int, a ≤ b → vr a * B ≤ vr b * B := fun a b c => Int.mul_le_mul_of_nonneg_right (vr_le c) (Int.le_of_lt hB)
  have hrt : r ≤ t := by
    rcases Int.lt_or_le t r with q | q
    · exfalso
      have a := h3 (by omega); have b := k3' (by omega)
      have c : vr t * B < vr r * B := Int.mul_lt_mul_of_pos_right (vr_lt q) hB
      omega
    · exact q
  have htr : t ≤ r + 1 := by
    rcases Int.lt_or_le (r + 1) t with q | q
    · exfalso
      have a := h4 (by omega); have b := k4' (by omega); have c := mul_le (r + 1) (t - 1) (by omega)
      omega
    · exact q
  by_cases e : t = r
  · subst e
    left
    have a := h3 (by omega); have b := k3' (by omega); exact ⟨rfl, by omega, by omega, by omega⟩
  · right
    have e2 : t = r + 1 := by omega
    refine ⟨e2, fun c => ?_, fun c => ?_⟩
    · have := k4' (by omega)
      rw [e2, show r + 1 - 1 = r by omega] at this
      exact this
    · have := h4 (by omega)
      rw [← e2] at this; exact this
/-- The quotient's place: of nought, of infinite ones, of finite ones. -/
def Qt (up : Bool) (x y r : Int) : Prop :=
  if y = 0 then r = sgi (!up) TP else if x = 0 ∨ infp y = true then r = 0 else if infp x = true then r = sgi (decide (x < 0) != decide (y < 0)) TP else Sid up (sgi (decide (y < 0)) (vr x) * 2 ^ KK) (sgi (decide (y < 0)) (vr y)) r
theorem qt_none {up : Bool} {x r : Int} (h : r = sgi (!up) TP) : Qt up x 0 r := by
  unfold Qt
  rw [if_pos rfl]; exact h
theorem qt_zero {up : Bool} {x y r : Int} (hy : y ≠ 0) (h : x = 0 ∨ infp y = true) : Qt up x y r ↔ r = 0 := by
  unfold Qt
  rw [if_neg hy, if_pos h]
theorem qt_none' {up : Bool} {x r : Int} : Qt up x 0 r ↔ r = sgi (!up) TP := by
  unfold Qt
  rw [if_pos rfl]
theorem qt_inf {up : Bool} {x y r : Int} (hy : y ≠ 0) (h : ¬ (x = 0 ∨ infp y = true)) (hx : infp x = true) : Qt up x y r ↔ r = sgi (decide (x < 0) != decide (y < 0)) TP := by
  unfold Qt
  rw [if_neg hy, if_neg h, if_pos hx]
theorem qt_fin {up : Bool} {x y r : Int} (hy : y ≠ 0) (h : ¬ (x = 0 ∨ infp y = true)) (hx : infp x = false) : Qt up x y r ↔ Sid up (sgi (decide (y < 0)) (vr x) * 2 ^ KK) (sgi (decide (y < 0)) (vr y)) r := by
  unfold Qt
  rw [if_neg hy, if_neg h, if_neg (by rw [hx]; exact ff)]
theorem sg_vr_pos {y : Int} (hy : y ≠ 0) : 0 < sgi (decide (y < 0)) (vr y) := by
  by_cases c : y < 0
  · rw [decide_eq_true c, wsg_t]
    have := vr_pos (x := -y) (by omega)
    rw [vr_neg] at this; exact this
  · rw [decide_eq_false c, wsg_f]; exact vr_pos (by omega)
theorem qt_ex (up : Bool) (x y : Int) : ∃ r, Qt up x y r := by
  by_cases hy : y = 0
  · subst hy; exact ⟨_, qt_none rfl⟩
  · by_cases h : x = 0 ∨ infp y = true
    · exact ⟨0, (qt_zero hy h).2 rfl⟩
    · cases hx : infp x
      · obtain ⟨r, hr⟩ := sid_ex up (sgi (decide (y < 0)) (vr x) * 2 ^ KK) (sg_vr_pos hy); exact ⟨r, (qt_fin hy h hx).2 hr⟩
      · exact ⟨_, (qt_inf hy h hx).2 rfl⟩
theorem Qt.uniq {up : Bool} {x y r t : Int} (h : Qt up x y r) (k : Qt up x y t) : r = t := by
  by_cases hy : y = 0
  · subst hy; rw [qt_none'.1 h, qt_none'.1 k]
  · by_cases h0 : x = 0 ∨ infp y = true
    · rw [(qt_zero hy h0).1 h, (qt_zero hy h0).1 k]
    · cases hx : infp x
      · exact ((qt_fin hy h0 hx).1 h).uniq (sg_vr_pos hy) ((qt_fin hy h0 hx).1 k)
      · rw [(qt_inf hy h0 hx).1 h, (qt_inf hy h0 hx).1 k]
theorem Qt.bd {up : Bool} {x y r : Int} (h : Qt up x y r) : -19342822337206103650074625 ≤ r ∧ r ≤ 19342822337206103650074625 := by
  have htp := TP_eq
  have sg : ∀ s, -19342822337206103650074625 ≤ sgi s TP ∧ sgi s TP ≤ 19342822337206103650074625 := fun s => by
    rcases sgT s with e | e <;> rw [e] <;> omega
  by_cases hy : y = 0
  · subst hy; rw [qt_none'.1 h]; exact sg _
  · by_cases h0 : x = 0 ∨ infp y = true
    · rw [(qt_zero hy h0).1 h]
      decide
    · cases hx : infp x
      · exact ((qt_fin hy h0 hx).1 h).bd
      · rw [(qt_inf hy h0 hx).1 h]; exact sg _
theorem sgi_sgi (s : Bool) (x : Int) : sgi s (sgi s x) = x := by
  cases s
  · rw [wsg_f, wsg_f]
  · rw [wsg_t, wsg_t, Int.neg_neg]
theorem qt_neg {up : Bool} {x y r : Int} (hy : y ≠ 0) (h : Qt up x y r) : Qt (!up) (-x) y (-r) := by
  by_cases h0 : x = 0 ∨ infp y = true
  · rw [(qt_zero hy h0).1 h]
    exact (qt_zero hy (h0.imp (fun e => by omega) id)).2 rfl
  · have h0' : ¬ (-x = 0 ∨ infp y = true) := fun c => h0 (c.imp (fun e => by omega) id)
    cases hx : infp x
    · refine (qt_fin hy h0' (by rw [infp_neg]; exact hx)).2 ?_
      have := ((qt_fin hy h0 hx).1 h).neg
      have e : sgi (decide (y < 0)) (vr (-x)) * 2 ^ KK = -(sgi (decide (y < 0)) (vr x) * 2 ^ KK) := by
        rw [vr_neg, ← Int.neg_mul]
        congr 1
        cases decide (y < 0)
        · rw [wsg_f, wsg_f]
        · rw [wsg_t, wsg_t]
      rw [e]; exact this
    · refine (qt_inf hy h0' (by rw [infp_neg]; exact hx)).2 ?_
      rw [(qt_inf hy h0 hx).1 h, neg_sign (fun e => h0 (.inl e)), ← sgi_neg]
      cases decide (x < 0) <;> cases decide (y < 0) <;> rfl
theorem qt_negs {up : Bool} {x y r : Int} (hy : y ≠ 0) (h : Qt up x y r) : Qt up (-x) (-y) r := by
  have hy' : -y ≠ 0 := by omega
  by_cases h0 : x = 0 ∨ infp y = true
  · rw [(qt_zero hy h0).1 h]
    exact (qt_zero hy' (h0.imp (fun e => by omega) (fun e => by rw [infp_neg]; exact e))).2 rfl
  · have h0' : ¬ (-x = 0 ∨ infp (-y) = true) := fun c => h0 (c.imp (fun e => by omega) (fun e => by rw [infp_neg] at e; exact e))
    cases hx : infp x
    · refine (qt_fin hy' h0' (by rw [infp_neg]; exact hx)).2 ?_
      have := (qt_fin hy h0 hx).1 h
      have e : ∀ z, sgi (decide (-y < 0)) (vr (-z)) = sgi (decide (y < 0)) (vr z) := fun z => by
        rw [neg_sign hy, vr_neg]
        cases decide (y < 0)
        · rw [show (!false) = true from rfl, wsg_t, wsg_f, Int.neg_neg]
        · rw [show (!true) = false from rfl, wsg_t, wsg_f]
      rw [e, e]; exact this
    · refine (qt_inf hy' h0' (by rw [infp_neg]; exact hx)).2 ?_
      rw [(qt_inf hy h0 hx).1 h, neg_sign (fun e => h0 (.inl e)), neg_sign hy]
      cases decide (x < 0) <;> cases decide (y < 0) <;> rfl

/-- The place of the greatest number that is not above the root of X, and of the least that is not below it. -/
def Rt (up : Bool) (X r : Int) : Prop :=
  if up = true then 0 < r ∧ r ≤ 19342822337206103650074625 ∧ (r < 19342822337206103650074625 → X ≤ vr r * vr r) ∧ vr (r - 1) * vr (r - 1) < X
  else 0 ≤ r ∧ r ≤ 19342822337206103650074624 ∧ vr r * vr r ≤ X ∧ (r < 19342822337206103650074624 → X < vr (r + 1) * vr (r + 1))
theorem rt_f {X r : Int} : Rt false X r ↔ (0 ≤ r ∧ r ≤ 19342822337206103650074624 ∧ vr r * vr r ≤ X ∧ (r < 19342822337206103650074624 → X < vr (r + 1) * vr (r + 1))) := by
  unfold Rt
  rw [if_neg ff]
theorem rt_t {X r : Int} : Rt true X r ↔ (0 < r ∧ r ≤ 19342822337206103650074625 ∧ (r < 19342822337206103650074625 → X ≤ vr r * vr r) ∧ vr (r - 1) * vr (r - 1) < X) := by
  unfold Rt
  rw [if_pos rfl]
theorem sq_le {a b : Int} (h0 : 0 ≤ a) (h : a ≤ b) : a * a ≤ b * b := Int.mul_le_mul h h h0 (by omega)
theorem sq_lt {a b : Int} (h0 : 0 ≤ a) (h : a < b) : a * a < b * b := by
  have h1 : a * a ≤ a * b := Int.mul_le_mul_of_nonneg_left (by omega) h0
  have h2 : a * b < b * b := Int.mul_lt_mul_of_pos_right h (by omega)
  omega
theorem vr_sq {r t : Int} (h0 : 0 ≤ r) (h : r ≤ t) : vr r * vr r ≤ vr t * vr t := sq_le (vr_nn h0) (vr_le h)
theorem Rt.uniq {up : Bool} {X r t : Int} (h : Rt up X r) (k : Rt up X t) : r = t := by
  have key : ∀ {r t}, Rt up X r → Rt up X t → ¬ r < t := by
    intro r t h k c
    cases up
    · obtain ⟨h1, h2, h3, h4⟩ := rt_f.1 h; obtain ⟨k1, k2, k3, k4⟩ := rt_f.1 k; have a := h4 (by omega); have b := vr_sq (r := r + 1) (t := t) (by omega) (by omega)
      omega
    · obtain ⟨h1, h2, h3, h4⟩ := rt_t.1 h; obtain ⟨k1, k2, k3, k4⟩ := rt_t.1 k; have a := h3 (by omega); have b := vr_sq (r := r) (t := t - 1) (by omega) (by omega)
      omega
  have a := key h k; have b := key k h
  omega
theorem rt_core {P : Int × Int} {Y V W : Int} (up : Bool) (nf : Nf P) (V0 : 0 < V) (h : (vl P = V ∧ Y = V * V) ∨ (V < vl P ∧ vl P < W ∧ V * V < Y ∧ Y < W * W ∧ ∀ s, ¬ (V < vr s ∧ vr s < W))) : Rt up Y (rnd up P.1 P.2) := by
  have hz := dn_self (r := 0) (by decide) (by decide)
  rw [show vr 0 = 0 from rfl] at hz
  have hP : 0 < vl P := by rcases h with ⟨a, _⟩ | ⟨a, _⟩ <;> omega
  cases up
  · have r1 := (rnd_spec nf).1; rw [rt_f]; generalize vl P = X at h hP r1; generalize rnd false P.1 P.2 = r at r1 ⊢; have r0 := hz.mono r1 (Int.le_of_lt hP); obtain ⟨d1, d2, d3, d4⟩ := r1; have e3 := d3 (by omega); have n0 := vr_nn r0
    refine ⟨r0, d2, ?_, fun c => ?_⟩
    · rcases h with ⟨a, b⟩ | ⟨a, b, c, d, e⟩
      · rw [b]; exact sq_le n0 (by omega)
      · have := e r
        have := sq_le (a := vr r) (b := V) n0 (by omega)
        omega
    · have e4 := d4 c
      rcases h with ⟨a, b⟩ | ⟨a, b, c, d, e⟩
      · rw [b]; exact sq_lt (Int.le_of_lt V0) (by omega)
      · have := e (r + 1)
        have := sq_le (a := W) (b := vr (r + 1)) (by omega) (by omega)
        omega
  · have r2 := (rnd_spec nf).2; rw [rt_t]; generalize vl P = X at h hP r2; generalize rnd true P.1 P.2 = r at r2 ⊢; obtain ⟨d1, d2, d3, d4⟩ := r2
    have r0 : 0 < r := by
      rcases Int.lt_or_le 0 r with q | q
      · exact q
      · exfalso
        have b := d3 (by omega); rw [vr_neg] at b
        have := vr_le q
        rw [show vr 0 = 0 from rfl] at this
        omega
    have n0 := vr_nn (x := r - 1) (by omega)
    refine ⟨r0, by omega, fun c => ?_, ?_⟩
    · have b := d3 (by omega); rw [vr_neg] at b
      rcases h with ⟨a, b2⟩ | ⟨a, b2, c, d, e⟩
      · rw [b2]; exact sq_le (Int.le_of_lt V0) (by omega)
      · have := e r
        have := sq_le (a := W) (b := vr r) (by omega) (by omega)
        omega
    · have b := d4 (by omega)
      rw [show -r + 1 = -(r - 1) by omega, vr_neg] at b
      rcases h with ⟨a, b2⟩ | ⟨a, b2, c, d, e⟩
      · rw [b2]; exact sq_lt n0 (by omega)
      · have := e (r - 1)
        have := sq_le (a := vr (r - 1)) (b := V) n0 (by omega)
        omega
/-- A natural number's root, rounded by its first bits and what is left. -/
theorem root_side {N s d : Nat} {e f : Int} {n κ : Nat} (up : Bool) (hs : s * s + d = N * 2 ^ n) (hs2 : N * 2 ^ n < (s + 1) * (s + 1)) (hb : 9223372036854775808 ≤ s) (hf : 2 * f = e - n) (hκ : κ = 500000) (hm : stk s d < 2 ^ κ) (h1 : -2900000 ≤ f) (h2 : f ≤ 2900000) (h3 : -4000000 ≤ e) (h4 : e ≤ 4000000) :
    Rt up ((N : Int) * 2 ^ (e + 2 * KK).toNat) (rnd up (mk ((stk s d : Nat) : Int) (f - 1)).1 (mk ((stk s d : Nat) : Int) (f - 1)).2) := by
  have hk := KK_eq; have nf := mk_nf ((stk s d : Nat) : Int) (f - 1); have ev := mk_vlB (z := ((stk s d : Nat) : Int)) (e := f - 1) (by rw [Int.natAbs_natCast, ← hκ]; exact hm) (by omega) (by omega); obtain ⟨u, hu⟩ : ∃ u : Nat, (f - 1 + (KK : Int)).toNat = u := ⟨_, rfl⟩
  have e1 : (e + 2 * (KK : Int)).toNat = n + (1 + u + (1 + u)) := by omega
  rw [hu] at ev; have hpu := p2pos u
  have eU : (2 : Int) ^ (1 + u) = 2 * 2 ^ u := by rw [Int.pow_add]; rfl
  rw [e1, Int.pow_add, Int.pow_add, eU, ← Int.mul_assoc]
  have hcast : ((N * 2 ^ n : Nat) : Int) = (N : Int) * 2 ^ n := by push_cast; rfl
  rw [← hcast]; clear hcast e1 hu eU hm; generalize N * 2 ^ n = X at hs hs2 ⊢; obtain ⟨S, hS⟩ : ∃ S : Int, (s : Int) = S := ⟨_, rfl⟩
  have c1 : S * S + (d : Int) = (X : Int) := by rw [← hS]; exact_mod_cast hs
  have c2 : (X : Int) < (S + 1) * (S + 1) := by rw [← hS]; exact_mod_cast hs2
  have sq : ∀ a : Int, (a * (2 * 2 ^ u)) * (a * (2 * 2 ^ u)) = a * a * (2 * 2 ^ u * (2 * 2 ^ u)) := fun a => by
    generalize (2 : Int) ^ u = U; rw [Int.mul_assoc a (2 * U), ← Int.mul_assoc (2 * U) a, Int.mul_comm (2 * U) a, Int.mul_assoc a (2 * U) (2 * U), ← Int.mul_assoc a a]
  have hW : 0 < 2 * (2 : Int) ^ u * (2 * 2 ^ u) := Int.mul_pos (by omega) (by omega)
  have p0 : 0 < S * (2 * 2 ^ u) := Int.mul_pos (by omega) (by omega)
  have g1 : 2 * S * 2 ^ u = S * (2 * 2 ^ u) := by rw [Int.mul_comm 2 S, Int.mul_assoc]
  have g2 : (2 * S + 2) * 2 ^ u = (S + 1) * (2 * 2 ^ u) := by rw [show 2 * S + 2 = (S + 1) * 2 by omega, Int.mul_assoc]
  by_cases hd : d = 0
  · have e3 : stk s d = 2 * s := by
      unfold stk
      rw [if_pos hd]
      omega
    rw [e3] at ev nf ⊢; refine rt_core (W := 0) up nf p0 (.inl ⟨?_, ?_⟩)
    · rw [ev, ← g1, ← hS]
      push_cast
      rfl
    · rw [sq]
      congr 1
      omega
  · have e3 : stk s d = 2 * s + 1 := by
      unfold stk
      rw [if_neg hd]
    rw [e3] at ev nf ⊢
    have ev2 : vl (mk ((2 * s + 1 : Nat) : Int) (f - 1)) = (2 * S + 1) * 2 ^ u := by
      rw [ev, ← hS]
      push_cast
      rfl
    refine rt_core (W := (2 * S + 2) * 2 ^ u) up nf p0 (.inr ⟨?_, ?_, ?_, ?_, ?_⟩)
    · rw [ev2, ← g1]; exact Int.mul_lt_mul_of_pos_right (by omega) hpu
    · rw [ev2]; exact Int.mul_lt_mul_of_pos_right (by omega) hpu
    · rw [sq]; exact Int.mul_lt_mul_of_pos_right (by omega) hW
    · rw [g2, sq]; exact Int.mul_lt_mul_of_pos_right c2 hW
    · intro t
      rw [← g1]; exact no_placeQ (by omega) t
end Go.Proofs.YteejbcimmmcnlaaGreatDoor

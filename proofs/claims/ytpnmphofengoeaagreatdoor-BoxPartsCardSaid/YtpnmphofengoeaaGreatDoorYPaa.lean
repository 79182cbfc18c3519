/-
  Contracts and words that the statement's proof rests on: Num, Dm.
-/
namespace Go.Proofs.YtpnmphofengoeaaGreatDoor
set_option linter.unusedVariables false

def val : List Nat → Nat
  | [] => 0
  | x :: xs => x + 4294967296 * val xs

def Lim (xs : List Nat) : Prop := ∀ x ∈ xs, x < 4294967296

def limbs (n : Nat) : List Nat := if _h : n = 0 then [] else n % 4294967296 :: limbs (n / 4294967296)
  termination_by n
  decreasing_by omega

theorem limbs_zero : limbs 0 = [] := by rw [limbs]; simp
theorem limbs_pos {n : Nat} (h : n ≠ 0) : limbs n = n % 4294967296 :: limbs (n / 4294967296) := by rw [limbs]; simp [h]

theorem Lim.nil : Lim [] := fun _ h => absurd h (by simp)
theorem Lim.cons {x : Nat} {xs : List Nat} (hx : x < 4294967296) (h : Lim xs) : Lim (x :: xs) := fun y hy => by
  rcases List.mem_cons.1 hy with rfl | hy
  · exact hx
  · exact h y hy
theorem Lim.head {x : Nat} {xs : List Nat} (h : Lim (x :: xs)) : x < 4294967296 := h x (by simp)
theorem Lim.tail {x : Nat} {xs : List Nat} (h : Lim (x :: xs)) : Lim xs := fun y hy => h y (by simp [hy])
theorem Lim.append {xs ys : List Nat} (h : Lim xs) (k : Lim ys) : Lim (xs ++ ys) := fun y hy => by
  rcases List.mem_append.1 hy with hy | hy
  · exact h y hy
  · exact k y hy
theorem Lim.take {xs : List Nat} (h : Lim xs) (n : Nat) : Lim (xs.take n) := fun y hy => h y (List.mem_of_mem_take hy)
theorem Lim.drop {xs : List Nat} (h : Lim xs) (n : Nat) : Lim (xs.drop n) := fun y hy => h y (List.mem_of_mem_drop hy)
theorem Lim.set {xs : List Nat} (h : Lim xs) (i : Nat) {x : Nat} (hx : x < 4294967296) : Lim (xs.set i x) := fun y hy => by
  rcases List.mem_or_eq_of_mem_set hy with hy | rfl
  · exact h y hy
  · exact hx
theorem Lim.getD {xs : List Nat} (h : Lim xs) (i : Nat) : xs.getD i 0 < 4294967296 := by
  rw [List.getD_eq_getElem?_getD]
  rcases e : xs[i]? with _ | y
  · simp
  · exact h y (List.mem_of_getElem? e)
theorem Lim.replicate (n : Nat) : Lim (List.replicate n 0) := fun y hy => by rw [(List.mem_replicate.1 hy).2]; decide

theorem lim_limbs (n : Nat) : Lim (limbs n) := by
  induction n using Nat.strongRecOn with
  | ind n ih =>
    by_cases h : n = 0
    · subst h; rw [limbs_zero]; exact Lim.nil
    · rw [limbs_pos h]; exact Lim.cons (Nat.mod_lt _ (by decide)) (ih _ (by omega))

theorem val_nil : val [] = 0 := rfl
theorem val_cons (x : Nat) (xs : List Nat) : val (x :: xs) = x + 4294967296 * val xs := rfl

theorem val_limbs (n : Nat) : val (limbs n) = n := by
  induction n using Nat.strongRecOn with
  | ind n ih =>
    by_cases h : n = 0
    · subst h; rw [limbs_zero]; rfl
    · rw [limbs_pos h, val_cons, ih _ (by omega)]
      omega

theorem val_append (xs ys : List Nat) : val (xs ++ ys) = val xs + 4294967296 ^ xs.length * val ys := by
  induction xs with
  | nil => simp [val]
  | cons x xs ih =>
    rw [List.cons_append, val_cons, ih, val_cons, List.length_cons, Nat.pow_succ, Nat.mul_add, Nat.mul_comm (4294967296 ^ xs.length) 4294967296, Nat.mul_assoc]
    omega

theorem val_snoc (xs : List Nat) (x : Nat) : val (xs ++ [x]) = val xs + 4294967296 ^ xs.length * x := by
  rw [val_append]; simp [val]

theorem val_take_succ {xs : List Nat} {k : Nat} (h : k < xs.length) : val (xs.take (k + 1)) = val (xs.take k) + 4294967296 ^ k * xs.getD k 0 := by
  rw [List.take_succ_eq_append_getElem h, val_snoc, List.length_take, Nat.min_eq_left (by omega), List.getD_eq_getElem?_getD, List.getElem?_eq_getElem h]
  rfl

theorem val_take_drop (xs : List Nat) {k : Nat} (h : k ≤ xs.length) : val xs = val (xs.take k) + 4294967296 ^ k * val (xs.drop k) := by
  have := val_append (xs.take k) (xs.drop k)
  rw [List.take_append_drop, List.length_take, Nat.min_eq_left h] at this; exact this

theorem val_drop {xs : List Nat} {k : Nat} (h : k < xs.length) : val (xs.drop k) = xs.getD k 0 + 4294967296 * val (xs.drop (k + 1)) := by
  rw [List.drop_eq_getElem_cons h, val_cons, List.getD_eq_getElem?_getD, List.getElem?_eq_getElem h]
  rfl

theorem val_lt {xs : List Nat} (h : Lim xs) : val xs < 4294967296 ^ xs.length := by
  induction xs with
  | nil => simp [val]
  | cons x xs ih =>
    have h1 := ih h.tail; have h2 := h.head; rw [val_cons, List.length_cons, Nat.pow_succ]
    have : val xs + 1 ≤ 4294967296 ^ xs.length := h1
    have := Nat.mul_le_mul_right 4294967296 this
    rw [Nat.add_mul] at this
    omega

theorem val_zeros (n : Nat) : val (List.replicate n 0) = 0 := by
  induction n with
  | zero => rfl
  | succ n ih => rw [List.replicate_succ, val_cons, ih]

theorem limbs_val : ∀ {xs : List Nat}, Lim xs → (∀ h : xs ≠ [], xs.getLast h ≠ 0) → limbs (val xs) = xs
  | [], _, _ => limbs_zero
  | x :: xs, hl, ht => by
    have hx := hl.head
    have h1 : limbs (val xs) = xs := limbs_val hl.tail fun h => by
      have := ht (by simp)
      rwa [List.getLast_cons h] at this
    have hne : val (x :: xs) ≠ 0 := by
      intro h0
      rw [val_cons] at h0
      have hx0 : x = 0 := by omega
      have hv0 : val xs = 0 := by omega
      rw [hv0, limbs_zero] at h1; subst h1; exact ht (by simp) (by simpa using hx0)
    rw [limbs_pos hne, val_cons, show (x + 4294967296 * val xs) % 4294967296 = x by omega, show (x + 4294967296 * val xs) / 4294967296 = val xs by omega, h1]

theorem limbs_length_le {n k : Nat} (h : n < 4294967296 ^ k) : (limbs n).length ≤ k := by
  induction k generalizing n with
  | zero => simp at h; subst h; rw [limbs_zero]; simp
  | succ k ih =>
    by_cases h0 : n = 0
    · subst h0; rw [limbs_zero]; simp
    · rw [limbs_pos h0, List.length_cons]
      have : n / 4294967296 < 4294967296 ^ k := by
        rw [Nat.pow_succ, Nat.mul_comm] at h; exact Nat.div_lt_of_lt_mul h
      have := ih this
      omega

theorem limbs_length_mono {a b : Nat} (h : a ≤ b) : (limbs a).length ≤ (limbs b).length := by
  apply limbs_length_le
  have := val_lt (lim_limbs b)
  rw [val_limbs] at this
  omega

theorem limbs_eq_nil {n : Nat} : limbs n = [] ↔ n = 0 := by
  constructor
  · intro h
    rw [← val_limbs n, h]; rfl
  · intro h; subst h; exact limbs_zero

theorem limbs_length_zero {n : Nat} : (limbs n).length = 0 ↔ n = 0 := by rw [List.length_eq_zero_iff, limbs_eq_nil]

theorem val_limbs_le {xs : List Nat} (h : Lim xs) : (limbs (val xs)).length ≤ xs.length := limbs_length_le (val_lt h)

theorem limbs_last {n : Nat} (h : n ≠ 0) : (limbs n).getD ((limbs n).length - 1) 0 ≠ 0 := by
  intro h0
  have hl : (limbs n).length ≠ 0 := fun e => h (limbs_length_zero.1 e)
  have h1 := val_take_succ (xs := limbs n) (k := (limbs n).length - 1) (by omega)
  rw [h0, show (limbs n).length - 1 + 1 = (limbs n).length by omega, List.take_length, val_limbs] at h1
  have h2 := val_lt ((lim_limbs n).take ((limbs n).length - 1)); rw [List.length_take, Nat.min_eq_left (by omega)] at h2; have h3 := limbs_length_le (n := n) (k := (limbs n).length - 1) (by omega)
  omega

theorem take_eq_limbs {xs : List Nat} {k : Nat} (hl : Lim xs) (hk : k ≤ xs.length) (h0 : val (xs.drop k) = 0) (hn : 0 < k → xs.getD (k - 1) 0 ≠ 0) : xs.take k = limbs (val xs) := by
  have h1 : val xs = val (xs.take k) := by rw [val_take_drop xs hk, h0]; simp
  rw [h1, limbs_val (hl.take k)]
  intro h
  have hk0 : 0 < k := by
    rcases Nat.eq_zero_or_pos k with e | e
    · subst e; simp at h
    · exact e
  have := hn hk0
  rw [List.getLast_eq_getElem]; rw [List.getD_eq_getElem?_getD, List.getElem?_eq_getElem (by omega)] at this; simp only [Option.getD_some] at this; rw [List.getElem_take]
  have e : (xs.take k).length - 1 = k - 1 := by rw [List.length_take, Nat.min_eq_left hk]
  simp only [e]; exact this

theorem getD_take {xs : List Nat} {k i : Nat} (h : i < k) : (xs.take k).getD i 0 = xs.getD i 0 := by
  rw [List.getD_eq_getElem?_getD, List.getElem?_take, if_pos h, List.getD_eq_getElem?_getD]

theorem getD_drop {xs : List Nat} {k i : Nat} : (xs.drop k).getD i 0 = xs.getD (k + i) 0 := by
  rw [List.getD_eq_getElem?_getD, List.getElem?_drop, List.getD_eq_getElem?_getD]

theorem val_lt_of_limb {xs ys : List Nat} {i : Nat} (hl : Lim xs) (hi : i < xs.length) (hj : i < ys.length) (ha : val (xs.drop (i + 1)) = val (ys.drop (i + 1))) (h : xs.getD i 0 < ys.getD i 0) : val xs < val ys := by
  rw [val_take_drop xs (k := i) (by omega), val_take_drop ys (k := i) (by omega), val_drop hi, val_drop hj, ha]; have h1 := val_lt (hl.take i); rw [List.length_take, Nat.min_eq_left (by omega)] at h1
  have h2 := Nat.mul_le_mul_left (4294967296 ^ i) (show xs.getD i 0 + 4294967296 * val (ys.drop (i + 1)) + 1 ≤ ys.getD i 0 + 4294967296 * val (ys.drop (i + 1)) by omega)
  rw [Nat.mul_add, Nat.mul_one] at h2
  omega

theorem val_limb_cases {xs ys : List Nat} {n k : Nat} (h1 : Lim xs) (h2 : Lim ys) (l1 : xs.length = n) (l2 : ys.length = n) (hk : k < n) (hz : val (xs.drop (n - k)) = val (ys.drop (n - k))) :
    (xs.getD (n - 1 - k) 0 < ys.getD (n - 1 - k) 0 → val xs < val ys) ∧ (ys.getD (n - 1 - k) 0 < xs.getD (n - 1 - k) 0 → val ys < val xs) ∧
      (xs.getD (n - 1 - k) 0 = ys.getD (n - 1 - k) 0 → val (xs.drop (n - 1 - k)) = val (ys.drop (n - 1 - k))) := by
  have e : n - 1 - k + 1 = n - k := by omega
  refine ⟨fun h => val_lt_of_limb h1 (by omega) (by omega) (by rw [e]; exact hz) h, fun h => val_lt_of_limb h2 (by omega) (by omega) (by rw [e]; exact hz.symm) h, fun h => ?_⟩
  have a := val_drop (xs := xs) (k := n - 1 - k) (by omega); have b := val_drop (xs := ys) (k := n - 1 - k) (by omega); rw [e] at a b; rw [a, b, hz, h]

theorem limbs_length_lt_of_lt {a b : Nat} (h : (limbs a).length < (limbs b).length) : a < b := by
  rcases Nat.lt_or_ge a b with h1 | h1
  · exact h1
  · have := limbs_length_mono h1
    omega

def mid (l : List Nat) (o : Nat) (zs : List Nat) : List Nat := l.take o ++ zs ++ l.drop (o + zs.length)

theorem mid_take {l zs : List Nat} {o : Nat} (h : o + zs.length ≤ l.length) : (mid l o zs).take o = l.take o := by
  have e : (l.take o).length = o := by simp; omega
  unfold mid
  rw [List.append_assoc, List.take_append_of_le_length (by omega), List.take_of_length_le (by omega)]
theorem mid_drop {l zs : List Nat} {o : Nat} (h : o + zs.length ≤ l.length) : (mid l o zs).drop (o + zs.length) = l.drop (o + zs.length) := by
  have e : (l.take o ++ zs).length = o + zs.length := by simp; omega
  unfold mid
  rw [List.drop_append_of_le_length (by omega), List.drop_eq_nil_of_le (by omega), List.nil_append]
theorem mid_mid {l zs ys : List Nat} {o : Nat} (h : o + zs.length ≤ l.length) (hl : ys.length = zs.length) : mid (mid l o zs) o ys = mid l o ys := by
  have e1 := mid_take h; have e2 := mid_drop h; rw [← hl] at e2
  show (mid l o zs).take o ++ ys ++ (mid l o zs).drop (o + ys.length) = l.take o ++ ys ++ l.drop (o + ys.length)
  rw [e1, e2]
theorem val_take_all {xs : List Nat} {k : Nat} (h : xs.length ≤ k) : val (xs.take k) = val xs := by rw [List.take_of_length_le h]
theorem getD_beyond {xs : List Nat} {k : Nat} (h : xs.length ≤ k) : xs.getD k 0 = 0 := by rw [List.getD_eq_getElem?_getD, List.getElem?_eq_none h]; rfl
theorem val_take_more (xs : List Nat) (k : Nat) : val (xs.take (k + 1)) = val (xs.take k) + 4294967296 ^ k * xs.getD k 0 := by
  rcases Nat.lt_or_ge k xs.length with h | h
  · exact val_take_succ h
  · rw [val_take_all (by omega), val_take_all h, getD_beyond h, Nat.mul_zero, Nat.add_zero]

theorem add_step {p A Y v x y c : Nat} (h : v + c * p = A + Y) : (v + p * ((x + y + c) % 4294967296)) + (x + y + c) / 4294967296 * (p * 4294967296) = (A + p * x) + (Y + p * y) := by
  have e := Nat.mod_add_div (x + y + c) 4294967296
  have : p * ((x + y + c) % 4294967296) + (x + y + c) / 4294967296 * (p * 4294967296) = p * (x + y + c) := by
    conv => rhs; rw [← e, Nat.mul_add]
    grind
  grind
theorem pow32 (k : Nat) : 4294967296 ^ k = 2 ^ (k * 32) := by rw [show 4294967296 = 2 ^ 32 by decide, ← Nat.pow_mul, Nat.mul_comm]

end Go.Proofs.YtpnmphofengoeaaGreatDoor

namespace Go.Proofs.YtpnmphofengoeaaGreatDoor
set_option linter.unusedVariables false

def v2 (n : Nat) : Nat := if _h : n = 0 then 0 else if n % 2 = 1 then 0 else v2 (n / 2) + 1
  termination_by n
  decreasing_by omega
theorem v2_odd {n : Nat} (h : n % 2 = 1) : v2 n = 0 := by rw [v2]; simp [h]
theorem v2_even {n : Nat} (h0 : n ≠ 0) (h : n % 2 = 0) : v2 n = v2 (n / 2) + 1 := by rw [v2]; simp [h0, h]
theorem v2_spec (n : Nat) (h0 : n ≠ 0) : n = n / 2 ^ v2 n * 2 ^ v2 n ∧ n / 2 ^ v2 n % 2 = 1 := by
  induction n using Nat.strongRecOn with
  | ind n ih =>
    rcases Nat.mod_two_eq_zero_or_one n with h | h
    · have h1 : n / 2 ≠ 0 := by omega
      obtain ⟨e1, e2⟩ := ih (n / 2) (by omega) h1; rw [v2_even h0 h]
      have hd : n / 2 ^ (v2 (n / 2) + 1) = n / 2 / 2 ^ v2 (n / 2) := by rw [Nat.pow_succ, Nat.mul_comm, Nat.div_div_eq_div_mul]
      rw [hd]; refine ⟨?_, e2⟩; rw [Nat.pow_succ, ← Nat.mul_assoc, ← e1]
      omega
    · rw [v2_odd h]
      simpa using h
theorem v2_pow_le {n : Nat} (h0 : n ≠ 0) : 2 ^ v2 n ≤ n := by
  obtain ⟨e, h1⟩ := v2_spec n h0
  have h3 : 1 ≤ n / 2 ^ v2 n := Nat.one_le_iff_ne_zero.2 (fun e0 => by rw [e0] at h1; cases h1)
  have h2 := Nat.mul_le_mul_right (2 ^ v2 n) h3; rw [Nat.one_mul] at h2; exact Nat.le_trans h2 (Nat.le_of_eq e.symm)
theorem v2_step {n i : Nat} (h0 : n ≠ 0) (hi : i ≤ v2 n) : (n / 2 ^ i % 2 = 0 ↔ i < v2 n) ∧ n / 2 ^ i ≠ 0 := by
  obtain ⟨e, h1⟩ := v2_spec n h0
  have hpi : 0 < 2 ^ i := Nat.pow_pos (by decide)
  obtain ⟨j, hj⟩ : ∃ j, v2 n = i + j := ⟨v2 n - i, by omega⟩
  revert e h1
  generalize hM : n / 2 ^ v2 n = M
  intro e h1
  rw [hj, Nat.pow_add] at e
  have hd : n / 2 ^ i = M * 2 ^ j := by
    rw [e, Nat.mul_comm (2 ^ i), ← Nat.mul_assoc]; exact Nat.mul_div_cancel _ hpi
  have hpj : 0 < 2 ^ j := Nat.pow_pos (by decide)
  have hM0 : 0 < M := by omega
  rw [hd]; refine ⟨?_, by have := Nat.mul_pos hM0 hpj; omega⟩
  rcases Nat.eq_zero_or_pos j with rfl | hjp
  · simp; omega
  · obtain ⟨q, rfl⟩ : ∃ q, j = q + 1 := ⟨j - 1, by omega⟩
    have : M * 2 ^ (q + 1) = 2 * (M * 2 ^ q) := by rw [Nat.pow_succ, ← Nat.mul_assoc, Nat.mul_comm]
    rw [this]
    constructor
    · intro _; omega
    · intro _; omega

def mk (z e : Int) : Int × Int :=
  if z = 0 ∨ e < -4194304 ∨ 4194304 < e ∨ 4194304 < e + (v2 z.natAbs : Nat) then (0, 0) else (Int.ofNat (z.natAbs / 2 ^ v2 z.natAbs) * (if z < 0 then -1 else 1), e + (v2 z.natAbs : Nat))
theorem mk_zero (e : Int) : mk 0 e = (0, 0) := by unfold mk; simp
theorem mk_low {z e : Int} (h : e < -4194304) : mk z e = (0, 0) := by unfold mk; simp [h]
theorem mk_high {z e : Int} (h : 4194304 < e) : mk z e = (0, 0) := by unfold mk; simp [h]
theorem mk_over {z e : Int} (h : 4194304 < e + (v2 z.natAbs : Nat)) : mk z e = (0, 0) := by unfold mk; simp [h]
theorem mk_in {z e : Int} (h0 : z ≠ 0) (h1 : -4194304 ≤ e) (h2 : e + (v2 z.natAbs : Nat) ≤ 4194304) :
    (mk z e).2 = e + (v2 z.natAbs : Nat) ∧ (mk z e).1.natAbs = z.natAbs / 2 ^ v2 z.natAbs ∧ ((mk z e).1 < 0 ↔ z < 0) ∧ (mk z e).1 ≠ 0 ∧ z = (mk z e).1 * 2 ^ v2 z.natAbs := by
  have hc : ¬ (z = 0 ∨ e < -4194304 ∨ 4194304 < e ∨ 4194304 < e + (v2 z.natAbs : Nat)) := by omega
  unfold mk
  rw [if_neg hc]; obtain ⟨e1, e2⟩ := v2_spec z.natAbs (by omega)
  have hp : 0 < 2 ^ v2 z.natAbs := Nat.pow_pos (by decide)
  revert e1 e2
  generalize z.natAbs / 2 ^ v2 z.natAbs = M
  intro e1 e2
  have ez : (z.natAbs : Int) = (M : Int) * 2 ^ v2 z.natAbs := by
    have := congrArg (Nat.cast : Nat → Int) e1
    simpa using this
  by_cases hz : z < 0
  · simp only [hz, if_true]; refine ⟨trivial, by simp, by simp <;> omega, by simp <;> omega, ?_⟩
    have : z = -(z.natAbs : Int) := by omega
    rw [show (Int.ofNat M * -1 : Int) = -(M : Int) by simp, Int.neg_mul, ← ez]
    exact this
  · simp only [hz, if_false]; refine ⟨trivial, by simp, by simp <;> omega, by simp <;> omega, ?_⟩
    have : z = (z.natAbs : Int) := by omega
    rw [show (Int.ofNat M * 1 : Int) = (M : Int) by simp, ← ez]
    exact this
end Go.Proofs.YtpnmphofengoeaaGreatDoor

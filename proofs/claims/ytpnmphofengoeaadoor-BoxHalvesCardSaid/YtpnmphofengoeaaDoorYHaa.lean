/-
  Contracts and words that the statement's proof rests on: Num, Dm.
-/
namespace Go.Proofs.YtpnmphofengoeaaDoor
set_option linter.unusedVariables false

def val : List Nat → Nat
  | [] => 0
  | x :: xs => x + 4294967296 * val xs

def Lim (xs : List Nat) : Prop := ∀ x ∈ xs, x < 4294967296

def limbs (n : Nat) : List Nat := if _h : n = 0 then [] else n % 4294967296 :: limbs (n / 4294967296)
  termination_by n
  decreasing_by omega

theorem Lim.nil : Lim [] := fun _ h => absurd h (by simp)
theorem Lim.cons {x : Nat} {xs : List Nat} (hx : x < 4294967296) (h : Lim xs) : Lim (x :: xs) := fun y hy => by
  rcases List.mem_cons.1 hy with rfl | hy
  · exact hx
  · exact h y hy
theorem Lim.take {xs : List Nat} (h : Lim xs) (n : Nat) : Lim (xs.take n) := fun y hy => h y (List.mem_of_mem_take hy)
theorem Lim.drop {xs : List Nat} (h : Lim xs) (n : Nat) : Lim (xs.drop n) := fun y hy => h y (List.mem_of_mem_drop hy)
theorem Lim.set {xs : List Nat} (h : Lim xs) (i : Nat) {x : Nat} (hx : x < 4294967296) : Lim (xs.set i x) := fun y hy => by
  rcases List.mem_or_eq_of_mem_set hy with hy | rfl
  · exact h y hy
  · exact hx
theorem Lim.getD {xs : List Nat} (h : Lim xs) (i : Nat) : xs.getD i 0 < 4294967296 := by
  rw [List.getD_eq_getElem?_getD]
  rcases e : xs[i]? with _ | y
  · simp
  · exact h y (List.mem_of_getElem? e)
theorem getD_take {xs : List Nat} {k i : Nat} (h : i < k) : (xs.take k).getD i 0 = xs.getD i 0 := by
  rw [List.getD_eq_getElem?_getD, List.getElem?_take, if_pos h, List.getD_eq_getElem?_getD]

theorem getD_drop {xs : List Nat} {k i : Nat} : (xs.drop k).getD i 0 = xs.getD (k + i) 0 := by
  rw [List.getD_eq_getElem?_getD, List.getElem?_drop, List.getD_eq_getElem?_getD]

def mid (l : List Nat) (o : Nat) (zs : List Nat) : List Nat := l.take o ++ zs ++ l.drop (o + zs.length)

theorem mid_length {l zs : List Nat} {o : Nat} (h : o + zs.length ≤ l.length) : (mid l o zs).length = l.length := by simp [mid]; omega
theorem mid_getD {l zs : List Nat} {o : Nat} (h : o + zs.length < l.length) : (mid l o zs).getD (o + zs.length) 0 = l.getD (o + zs.length) 0 := by
  have e : (l.take o ++ zs).length = o + zs.length := by simp; omega
  unfold mid
  rw [List.getD_eq_getElem?_getD, List.getElem?_append_right (by omega), e, Nat.sub_self, List.getElem?_drop, Nat.add_zero, List.getD_eq_getElem?_getD]
theorem mid_take {l zs : List Nat} {o : Nat} (h : o + zs.length ≤ l.length) : (mid l o zs).take o = l.take o := by
  have e : (l.take o).length = o := by simp; omega
  unfold mid
  rw [List.append_assoc, List.take_append_of_le_length (by omega), List.take_of_length_le (by omega)]
theorem mid_drop {l zs : List Nat} {o : Nat} (h : o + zs.length ≤ l.length) : (mid l o zs).drop (o + zs.length) = l.drop (o + zs.length) := by
  have e : (l.take o ++ zs).length = o + zs.length := by simp; omega
  unfold mid
  rw [List.drop_append_of_le_length (by omega), List.drop_eq_nil_of_le (by omega), List.nil_append]
theorem mid_mid {l zs ys : List Nat} {o : Nat} (h : o + zs.length ≤ l.length) (hl : ys.length = zs.length) : mid (mid l o zs) o ys = mid l o ys := by
  have e1 := mid_take h; have e2 := mid_drop h; rw [← hl] at e2
  show (mid l o zs).take o ++ ys ++ (mid l o zs).drop (o + ys.length) = l.take o ++ ys ++ l.drop (o + ys.length)
  rw [e1, e2]
end Go.Proofs.YtpnmphofengoeaaDoor

namespace Go.Proofs.YtpnmphofengoeaaDoor
set_option linter.unusedVariables false

def v2 (n : Nat) : Nat := if _h : n = 0 then 0 else if n % 2 = 1 then 0 else v2 (n / 2) + 1
  termination_by n
  decreasing_by omega
theorem v2_odd {n : Nat} (h : n % 2 = 1) : v2 n = 0 := by rw [v2]; simp [h]
theorem v2_even {n : Nat} (h0 : n ≠ 0) (h : n % 2 = 0) : v2 n = v2 (n / 2) + 1 := by rw [v2]; simp [h0, h]
theorem v2_spec (n : Nat) (h0 : n ≠ 0) : n = n / 2 ^ v2 n * 2 ^ v2 n ∧ n / 2 ^ v2 n % 2 = 1 := by
  induction n using Nat.strongRecOn with
  | ind n ih =>
    rcases Nat.mod_two_eq_zero_or_one n with h | h
    · have h1 : n / 2 ≠ 0 := by omega
      obtain ⟨e1, e2⟩ := ih (n / 2) (by omega) h1; rw [v2_even h0 h]
      have hd : n / 2 ^ (v2 (n / 2) + 1) = n / 2 / 2 ^ v2 (n / 2) := by rw [Nat.pow_succ, Nat.mul_comm, Nat.div_div_eq_div_mul]
      rw [hd]; refine ⟨?_, e2⟩; rw [Nat.pow_succ, ← Nat.mul_assoc, ← e1]
      omega
    · rw [v2_odd h]
      simpa using h
theorem v2_pow_le {n : Nat} (h0 : n ≠ 0) : 2 ^ v2 n ≤ n := by
  obtain ⟨e, h1⟩ := v2_spec n h0
  have h3 : 1 ≤ n / 2 ^ v2 n := Nat.one_le_iff_ne_zero.2 (fun e0 => by rw [e0] at h1; cases h1)
  have h2 := Nat.mul_le_mul_right (2 ^ v2 n) h3; rw [Nat.one_mul] at h2; exact Nat.le_trans h2 (Nat.le_of_eq e.symm)
def mk (z e : Int) : Int × Int :=
  if z = 0 ∨ e < -4194304 ∨ 4194304 < e ∨ 4194304 < e + (v2 z.natAbs : Nat) then (0, 0) else (Int.ofNat (z.natAbs / 2 ^ v2 z.natAbs) * (if z < 0 then -1 else 1), e + (v2 z.natAbs : Nat))
theorem mk_zero (e : Int) : mk 0 e = (0, 0) := by unfold mk; simp
theorem mk_in {z e : Int} (h0 : z ≠ 0) (h1 : -4194304 ≤ e) (h2 : e + (v2 z.natAbs : Nat) ≤ 4194304) :
    (mk z e).2 = e + (v2 z.natAbs : Nat) ∧ (mk z e).1.natAbs = z.natAbs / 2 ^ v2 z.natAbs ∧ ((mk z e).1 < 0 ↔ z < 0) ∧ (mk z e).1 ≠ 0 ∧ z = (mk z e).1 * 2 ^ v2 z.natAbs := by
  have hc : ¬ (z = 0 ∨ e < -4194304 ∨ 4194304 < e ∨ 4194304 < e + (v2 z.natAbs : Nat)) := by omega
  unfold mk
  rw [if_neg hc]; obtain ⟨e1, e2⟩ := v2_spec z.natAbs (by omega)
  have hp : 0 < 2 ^ v2 z.natAbs := Nat.pow_pos (by decide)
  revert e1 e2
  generalize z.natAbs / 2 ^ v2 z.natAbs = M
  intro e1 e2
  have ez : (z.natAbs : Int) = (M : Int) * 2 ^ v2 z.natAbs := by
    have := congrArg (Nat.cast : Nat → Int) e1
    simpa using this
  by_cases hz : z < 0
  · simp only [hz, if_true]; refine ⟨trivial, by simp, by simp <;> omega, by simp <;> omega, ?_⟩
    have : z = -(z.natAbs : Int) := by omega
    rw [show (Int.ofNat M * -1 : Int) = -(M : Int) by simp, Int.neg_mul, ← ez]
    exact this
  · simp only [hz, if_false]; refine ⟨trivial, by simp, by simp <;> omega, by simp <;> omega, ?_⟩
    have : z = (z.natAbs : Int) := by omega
    rw [show (Int.ofNat M * 1 : Int) = (M : Int) by simp, ← ez]
    exact this
end Go.Proofs.YtpnmphofengoeaaDoor

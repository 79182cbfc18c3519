/-
  Contracts and words that the statements' proofs rest on, several texts in one: Pp, Pq.
-/
import Derived.Lib.ItoaNum
import Derived.Lib.Strings
import Derived.Lib.Atoi
import Derived.Lib.TrimByte
/-
  Texts of numbers, as lists of bytes: digits, what a text tells, a number's text. No Go function.
-/
namespace Go.Proofs.YtdfnjhkcicnkpaaGreatDoor
set_option linter.unusedVariables false
set_option linter.unusedSimpArgs false

/-- A digit. -/
def isDig (c : UInt8) : Bool := decide (48 ≤ c.toNat) && decide (c.toNat ≤ 57)
/-- How many digits a text begins with. -/
def runL : List UInt8 → Nat
  | [] => 0
  | c :: l => if isDig c then runL l + 1 else 0
/-- The number of digits, behind those that tell a. -/
def dvl : List UInt8 → Nat → Nat
  | [], a => a
  | c :: l, a => dvl l (10 * a + (c.toNat - 48))
def dval (l : List UInt8) : Nat := dvl l 0

theorem hd_app {a b : List UInt8} (h : a ≠ []) : (a ++ b).head? = a.head? := by
  cases a with
  | nil => exact absurd rfl h
  | cons x a => rfl
theorem runL_le : ∀ l, runL l ≤ l.length
  | [] => Nat.le_refl _
  | c :: l => by
    have := runL_le l
    unfold runL
    split <;> simp <;> omega
theorem runL_dig : ∀ (l : List UInt8) (i : Nat) (h : i < runL l) (h2 : i < l.length), isDig l[i] = true
  | [], i, h, h2 => by simp at h2
  | c :: l, i, h, h2 => by
    unfold runL at h
    split at h
    · rename_i hc
      cases i with
      | zero => simpa using hc
      | succ i => simpa using runL_dig l i (by omega) (by simpa using h2)
    · omega
theorem runL_not : ∀ (l : List UInt8) (h2 : runL l < l.length), isDig l[runL l] = false
  | [], h2 => by simp at h2
  | c :: l, h2 => by
    by_cases hc : isDig c = true
    · have e : runL (c :: l) = runL l + 1 := by simp [runL, hc]
      have h3 : runL l < l.length := by rw [e] at h2; simpa using h2
      have := runL_not l h3
      simp only [e, List.getElem_cons_succ]
      exact this
    · have e : runL (c :: l) = 0 := by simp [runL, hc]
      simp only [e, List.getElem_cons_zero]
      simpa using hc
/-- Where the digits end. -/
theorem runL_eq (l : List UInt8) (n : Nat) (hn : n ≤ l.length) (h1 : ∀ i (h : i < l.length), i < n → isDig l[i] = true) (h2 : ∀ h : n < l.length, isDig l[n] = false) : runL l = n := by
  rcases Nat.lt_trichotomy (runL l) n with h | h | h
  · have h3 : runL l < l.length := by omega
    have := runL_not l h3
    rw [h1 _ h3 h] at this
    cases this
  · exact h
  · have hl := runL_le l
    have h3 : n < l.length := by omega
    have := runL_dig l n h h3
    rw [h2 h3] at this
    cases this
theorem runL_append : ∀ (a b : List UInt8), (∀ c ∈ a, isDig c = true) → runL (a ++ b) = a.length + runL b
  | [], b, _ => by simp
  | c :: a, b, h => by
    have hc := h c (by simp)
    have := runL_append a b (fun x hx => h x (by simp [hx]))
    simp only [List.cons_append, runL, hc, if_true, this, List.length_cons]
    omega
theorem runL_all (a : List UInt8) (h : ∀ c ∈ a, isDig c = true) : runL a = a.length := by
  have := runL_append a [] h
  simpa [runL] using this
theorem runL_take (l : List UInt8) : ∀ c ∈ l.take (runL l), isDig c = true := by
  intro c hc
  obtain ⟨i, hi, e⟩ := List.getElem_of_mem hc
  simp only [List.length_take] at hi
  rw [← e, List.getElem_take]
  exact runL_dig l i (by omega) (by omega)
theorem dvl_append : ∀ (a b : List UInt8) (k : Nat), dvl (a ++ b) k = dvl b (dvl a k)
  | [], b, k => rfl
  | c :: a, b, k => by simp only [List.cons_append, dvl]; exact dvl_append a b _
theorem dval_snoc (a : List UInt8) (c : UInt8) : dval (a ++ [c]) = 10 * dval a + (c.toNat - 48) := by
  unfold dval
  rw [dvl_append]
  rfl
theorem dval_nil : dval [] = 0 := rfl
theorem dval_take (l : List UInt8) (i : Nat) (h : i < l.length) : dval (l.take (i + 1)) = 10 * dval (l.take i) + ((l[i]).toNat - 48) := by
  rw [List.take_succ_eq_append_getElem h, dval_snoc]
theorem isDig_of {c : UInt8} (h : isDig c = true) : 48 ≤ c.toNat ∧ c.toNat ≤ 57 := by
  simpa [isDig] using h
theorem isDig_not {c : UInt8} (h : isDig c = false) : ¬ (48 ≤ c.toNat ∧ c.toNat ≤ 57) := by
  intro k
  simp [isDig, k.1, k.2] at h
theorem dvl_lt : ∀ (l : List UInt8) (a : Nat), (∀ c ∈ l, isDig c = true) → dvl l a < (a + 1) * 10 ^ l.length
  | [], a, _ => by simp [dvl]
  | c :: l, a, h => by
    have hc := isDig_of (h c (by simp))
    have := dvl_lt l (10 * a + (c.toNat - 48)) (fun x hx => h x (by simp [hx]))
    simp only [dvl, List.length_cons, Nat.pow_succ]
    refine Nat.lt_of_lt_of_le this ?_
    rw [show (a + 1) * (10 ^ l.length * 10) = ((a + 1) * 10) * 10 ^ l.length by rw [Nat.mul_comm (10 ^ l.length), Nat.mul_assoc]]
    exact Nat.mul_le_mul_right _ (by omega)
theorem dval_lt (l : List UInt8) (h : ∀ c ∈ l, isDig c = true) : dval l < 10 ^ l.length := by
  have := dvl_lt l 0 h
  simpa [dval] using this

/-! ### What a text tells -/

/-- From the e on. -/
def tpow (l : List UInt8) : Option Int :=
  match l with
  | [] => some 0
  | c :: l1 =>
    if c = 101 then
      if 1 ≤ runL (Lib.trimPrefix l1 [45]) ∧ runL (Lib.trimPrefix l1 [45]) ≤ 3 ∧ runL (Lib.trimPrefix l1 [45]) = (Lib.trimPrefix l1 [45]).length then
        some (if Lib.hasPrefix l1 [45] then -(dval (Lib.trimPrefix l1 [45]) : Int) else dval (Lib.trimPrefix l1 [45]))
      else none
    else none
/-- From the point on: the digits behind it, and what is left. -/
def tfrac (l : List UInt8) : Option (List UInt8 × List UInt8) :=
  match l with
  | [] => some ([], [])
  | c :: l1 => if c = 46 then (if runL l1 = 0 then none else some (l1.take (runL l1), l1.drop (runL l1))) else some ([], c :: l1)
/-- A sign, digits, a power of ten. -/
def tread (l : List UInt8) : Option (Bool × List UInt8 × Int) :=
  if runL (Lib.trimPrefix l [45]) = 0 ∨ (1 < runL (Lib.trimPrefix l [45]) ∧ (Lib.trimPrefix l [45]).head? = some 48) then none
  else match tfrac ((Lib.trimPrefix l [45]).drop (runL (Lib.trimPrefix l [45]))) with
    | none => none
    | some (b, l2) => match tpow l2 with
      | none => none
      | some e => if runL (Lib.trimPrefix l [45]) + b.length ≤ 40 then some (Lib.hasPrefix l [45], (Lib.trimPrefix l [45]).take (runL (Lib.trimPrefix l [45])) ++ b, e - b.length) else none

/-! ### Tens -/

/-- How many factors ten. -/
def v10 (n : Nat) : Nat := if h : n = 0 ∨ n % 10 ≠ 0 then 0 else v10 (n / 10) + 1
termination_by n
decreasing_by omega
/-- A number without its tens. -/
def u10 (n : Nat) : Nat := n / 10 ^ v10 n
theorem v10_no {n : Nat} (h : n = 0 ∨ n % 10 ≠ 0) : v10 n = 0 := by rw [v10, dif_pos h]
theorem v10_ten {n : Nat} (h : n ≠ 0) : v10 (n * 10) = v10 n + 1 := by
  rw [v10, dif_neg (by omega), Nat.mul_div_cancel _ (by decide)]
theorem u10_no {n : Nat} (h : n = 0 ∨ n % 10 ≠ 0) : u10 n = n := by unfold u10; rw [v10_no h]; simp
theorem u10_ten {n : Nat} (h : n ≠ 0) : u10 (n * 10) = u10 n := by
  unfold u10
  rw [v10_ten h, Nat.pow_succ, Nat.mul_comm (10 ^ v10 n), ← Nat.div_div_eq_div_mul, Nat.mul_div_cancel _ (by decide)]
theorem v10_of {m : Nat} (h : m % 10 ≠ 0) : ∀ k, v10 (m * 10 ^ k) = k
  | 0 => by simpa using v10_no (.inr h)
  | k + 1 => by
    have hm : m * 10 ^ k ≠ 0 := Nat.mul_ne_zero (by omega) (by simp)
    rw [Nat.pow_succ, ← Nat.mul_assoc, v10_ten hm, v10_of h k]
theorem u10_of {m : Nat} (h : m % 10 ≠ 0) (k : Nat) : u10 (m * 10 ^ k) = m := by
  unfold u10
  rw [v10_of h, Nat.mul_div_cancel _ (Nat.pow_pos (by decide))]
theorem u10_spec (n : Nat) (h : n ≠ 0) : n = u10 n * 10 ^ v10 n ∧ u10 n % 10 ≠ 0 := by
  induction n using Nat.strongRecOn with
  | _ n ih =>
    by_cases e : n % 10 = 0
    · have h1 : n / 10 ≠ 0 := by omega
      obtain ⟨a, b⟩ := ih (n / 10) (by omega) h1
      have e10 : n = n / 10 * 10 := by omega
      rw [e10, u10_ten h1, v10_ten h1]
      refine ⟨?_, b⟩
      rw [Nat.pow_succ, ← Nat.mul_assoc, ← a]
    · rw [u10_no (.inr e), v10_no (.inr e)]
      simp [e]
theorem v10_lt (n : Nat) (h : n ≠ 0) (K : Nat) (hK : n < 10 ^ K) : v10 n < K := by
  obtain ⟨a, b⟩ := u10_spec n h
  have h1 : 10 ^ v10 n ≤ n := by
    have h0 : 1 ≤ u10 n := by omega
    have h2 : 1 * 10 ^ v10 n ≤ u10 n * 10 ^ v10 n := Nat.mul_le_mul_right _ h0
    omega
  exact (Nat.pow_lt_pow_iff_right (by decide : 1 < 10)).1 (Nat.lt_of_le_of_lt h1 hK)

/-- A sign's number. -/
def zs (s : Bool) (a : Nat) : Int := if s then -(a : Int) else a
/-- A number times a power of ten, made. -/
def mkd (z t : Int) : Option (Int × Int) :=
  if z = 0 then some (0, 0)
  else if u10 z.natAbs < 10 ^ 40 ∧ -400 ≤ t + v10 z.natAbs ∧ t + v10 z.natAbs ≤ 400 then some (zs (decide (z < 0)) (u10 z.natAbs), t + v10 z.natAbs) else none
/-- May it be? -/
def mayd (z t : Int) : Bool := if z = 0 then decide (t = 0) else decide (z.natAbs < 10 ^ 40) && decide (z.natAbs % 10 ≠ 0) && decide (-400 ≤ t) && decide (t ≤ 400)
/-- What a text is read as: the number, the power of ten, the error. -/
def tparse (l : List UInt8) : (Int × Int) × Int :=
  if 100 < l.length then ((0, 0), 3) else
  match tread l with
  | none => ((0, 0), 2)
  | some (s, ds, t) => match mkd (zs s (dval ds)) t with
    | none => ((0, 0), 1)
    | some d => (d, 0)
/-- A number's text. -/
def shw (z t : Int) : List UInt8 := (if z < 0 then [45] else []) ++ Lib.decDigits z.natAbs ++ (if t = 0 then [] else 101 :: Lib.itoa t)

theorem zs_abs (z : Int) : zs (decide (z < 0)) z.natAbs = z := by unfold zs; by_cases h : z < 0 <;> simp [h] <;> omega
theorem zs_natAbs (s : Bool) (a : Nat) : (zs s a).natAbs = a := by cases s <;> simp [zs]
theorem zs_lt (s : Bool) (a : Nat) : decide (zs s a < 0) = (s && decide (0 < a)) := by cases s <;> simp [zs] <;> omega
theorem zs_zero (s : Bool) (a : Nat) : zs s a = 0 ↔ a = 0 := by cases s <;> simp [zs]
theorem mkd_may {z t : Int} (h : mayd z t = true) : mkd z t = some (z, t) := by
  unfold mayd at h
  unfold mkd
  by_cases e : z = 0
  · simp [e] at h ⊢; omega
  · rw [if_neg e] at h
    simp only [Bool.and_eq_true, decide_eq_true_eq] at h
    obtain ⟨⟨⟨h1, h2⟩, h3⟩, h4⟩ := h
    rw [if_neg e, u10_no (.inr h2), v10_no (.inr h2), zs_abs]
    rw [if_pos (by refine ⟨h1, ?_, ?_⟩ <;> simp <;> omega)]
    simp
theorem may_mkd {z t a b : Int} (h : mkd z t = some (a, b)) : mayd a b = true := by
  unfold mkd at h
  by_cases e : z = 0
  · simp [e] at h
    obtain ⟨rfl, rfl⟩ := h
    rfl
  · rw [if_neg e] at h
    split at h
    · rename_i hc
      simp only [Option.some.injEq, Prod.mk.injEq] at h
      obtain ⟨rfl, rfl⟩ := h
      obtain ⟨_, hu⟩ := u10_spec z.natAbs (by omega)
      have h0 : ¬ zs (decide (z < 0)) (u10 z.natAbs) = 0 := by rw [zs_zero]; omega
      unfold mayd
      rw [if_neg h0, zs_natAbs]
      simp only [Bool.and_eq_true, decide_eq_true_eq]
      exact ⟨⟨⟨hc.1, hu⟩, hc.2.1⟩, hc.2.2⟩
    · cases h
theorem may_parse {l : List UInt8} {d : Int × Int} {e : Int} (h : tparse l = (d, e)) : mayd d.1 d.2 = true := by
  unfold tparse at h
  have hz : mayd 0 0 = true := rfl
  repeat' split at h
  all_goals first
    | (simp only [Prod.mk.injEq] at h; obtain ⟨rfl, rfl⟩ := h; first | exact hz | (rename_i hm; exact may_mkd (by rw [hm])))
theorem mayd_zero : mayd 0 0 = true := rfl

/-! ### Back from a text -/

theorem dec_dig (u : Nat) : ∀ c ∈ Lib.decDigits u, isDig c = true := by
  intro c hc
  rw [Lib.decDigits_eq] at hc
  obtain ⟨t, _, rfl⟩ := List.mem_map.1 hc
  have : u / 10 ^ (Lib.nDigits u - 1 - t) % 10 < 10 := Nat.mod_lt _ (by decide)
  unfold Lib.dg isDig
  simp only [UInt8.toNat_ofNat', Bool.and_eq_true, decide_eq_true_eq]
  omega
theorem dval_dec (u : Nat) : dval (Lib.decDigits u) = u := by
  induction u using Nat.strongRecOn with
  | _ u ih =>
    by_cases h : u < 10
    · rw [Lib.decDigits, dif_pos h]
      simp only [dval, dvl, UInt8.toNat_ofNat']
      omega
    · rw [Lib.decDigits, dif_neg h, dval_snoc, ih (u / 10) (by omega)]
      simp only [UInt8.toNat_ofNat']
      omega
theorem dec_ne (u : Nat) : Lib.decDigits u ≠ [] := by
  intro e
  have h1 := Lib.decDigits_length u
  have h2 := Lib.nDigits_pos u
  rw [e] at h1
  simp at h1
  omega
theorem nDig_le {u k : Nat} (h : u < 10 ^ (k + 1)) : Lib.nDigits u ≤ k + 1 := by
  induction k generalizing u with
  | zero => rw [Lib.nDigits_small (by simpa using h)]; exact Nat.le_refl _
  | succ k ih =>
    by_cases h10 : u < 10
    · rw [Lib.nDigits_small h10]; omega
    · rw [Lib.nDigits_big h10]
      have := ih (u := u / 10) (by rw [Nat.pow_succ] at h; omega)
      omega
theorem le_nDig {u : Nat} (h : u ≠ 0) : 10 ^ (Lib.nDigits u - 1) ≤ u := by
  induction u using Nat.strongRecOn with
  | _ u ih =>
    by_cases h10 : u < 10
    · rw [Lib.nDigits_small h10]; simp; omega
    · rw [Lib.nDigits_big h10]
      have := ih (u / 10) (by omega) (by omega)
      obtain ⟨k, hk⟩ : ∃ k, Lib.nDigits (u / 10) = k + 1 := ⟨Lib.nDigits (u / 10) - 1, by have := Lib.nDigits_pos (u / 10); omega⟩
      rw [hk] at this ⊢
      simp only [Nat.add_sub_cancel] at this ⊢
      rw [Nat.pow_succ]
      omega
/-- The first digit of many is no nought. -/
theorem dec_head (u : Nat) (h : 1 < Lib.nDigits u) : (Lib.decDigits u).head? ≠ some 48 := by
  induction u using Nat.strongRecOn with
  | _ u ih =>
    by_cases h10 : u < 10
    · rw [Lib.nDigits_small h10] at h; omega
    · rw [Lib.decDigits, dif_neg h10]
      have hne := dec_ne (u / 10)
      rw [hd_app hne]
      by_cases h2 : u / 10 < 10
      · rw [Lib.decDigits, dif_pos h2]
        simp only [List.head?_cons, ne_eq, Option.some.injEq]
        intro e
        have := congrArg UInt8.toNat e
        simp only [UInt8.toNat_ofNat'] at this
        have e48 : (48 : UInt8).toNat = 48 := rfl
        rw [e48] at this
        omega
      · exact ih (u / 10) (by omega) (by rw [Lib.nDigits_big h2]; have := Lib.nDigits_pos (u / 10 / 10); omega)
theorem dig_no {c : UInt8} (h : isDig c = true) : c ≠ 45 ∧ c ≠ 46 ∧ c ≠ 101 := by
  refine ⟨?_, ?_, ?_⟩ <;> (rintro rfl; exact absurd h (by decide))
theorem pre_dig {l : List UInt8} (h : ∀ c, l.head? = some c → c ≠ 45) : Lib.hasPrefix l [45] = false ∧ Lib.trimPrefix l [45] = l := by
  have e : Lib.hasPrefix l [45] = false := by
    cases l with
    | nil => rfl
    | cons c l =>
      have := h c rfl
      simp [Lib.hasPrefix, List.isPrefixOf]
      exact fun e => this e.symm
  exact ⟨e, by simp [Lib.trimPrefix, e]⟩
theorem pre_neg (l : List UInt8) : Lib.hasPrefix (45 :: l) [45] = true ∧ Lib.trimPrefix (45 :: l) [45] = l := by
  have e : Lib.hasPrefix (45 :: l) [45] = true := by simp [Lib.hasPrefix, List.isPrefixOf]
  exact ⟨e, by simp [Lib.trimPrefix, e]⟩
theorem head_dig {l r : List UInt8} (h : ∀ c ∈ l, isDig c = true) (hne : l ≠ []) : ∀ c, (l ++ r).head? = some c → c ≠ 45 := by
  intro c hc
  cases l with
  | nil => exact absurd rfl hne
  | cons x l =>
    simp at hc
    subst hc
    exact (dig_no (h _ (by simp))).1
theorem tpow_itoa (t : Int) (h1 : -400 ≤ t) (h2 : t ≤ 400) (h0 : t ≠ 0) : tpow (101 :: Lib.itoa t) = some t := by
  have hn : Lib.nDigits t.natAbs ≤ 3 := nDig_le (k := 2) (by omega)
  have hp := Lib.nDigits_pos t.natAbs
  have hd := dec_dig t.natAbs
  have hr := runL_all _ hd
  have hl := Lib.decDigits_length t.natAbs
  have hv := dval_dec t.natAbs
  unfold tpow
  simp only [if_true]
  unfold Lib.itoa
  by_cases hneg : t < 0
  · rw [if_pos hneg]
    obtain ⟨e1, e2⟩ := pre_neg (Lib.decDigits t.natAbs)
    rw [e1, e2, hr, hl, hv]
    rw [if_pos ⟨hp, hn, rfl⟩, if_pos rfl]
    congr 1
    omega
  · rw [if_neg hneg, show t.toNat = t.natAbs by omega]
    obtain ⟨e1, e2⟩ := pre_dig (l := Lib.decDigits t.natAbs) (by have := head_dig (r := []) hd (dec_ne _); simpa using this)
    rw [e1, e2, hr, hl, hv]
    rw [if_pos ⟨hp, hn, rfl⟩]
    simp
    omega
theorem tread_shw (z t : Int) (h : mayd z t = true) : tread (shw z t) = some (decide (z < 0), Lib.decDigits z.natAbs, t) := by
  have hb : Lib.nDigits z.natAbs ≤ 40 ∧ -400 ≤ t ∧ t ≤ 400 := by
    unfold mayd at h
    by_cases e : z = 0
    · simp [e] at h
      subst e h
      refine ⟨nDig_le (k := 39) (by decide), by omega, by omega⟩
    · rw [if_neg e] at h
      simp only [Bool.and_eq_true, decide_eq_true_eq] at h
      exact ⟨nDig_le (k := 39) h.1.1.1, h.1.2, h.2⟩
  obtain ⟨hn, ht1, ht2⟩ := hb
  have hd := dec_dig z.natAbs
  have hl := Lib.decDigits_length z.natAbs
  have hp := Lib.nDigits_pos z.natAbs
  have hhd := dec_head z.natAbs
  have hne := dec_ne z.natAbs
  have hpre : Lib.hasPrefix (shw z t) [45] = decide (z < 0) ∧ Lib.trimPrefix (shw z t) [45] = Lib.decDigits z.natAbs ++ (if t = 0 then [] else 101 :: Lib.itoa t) := by
    unfold shw
    by_cases hz : z < 0
    · simp only [hz, if_true, List.singleton_append, List.cons_append, decide_true]
      exact pre_neg _
    · simp only [hz, if_false, List.nil_append, decide_false]
      exact pre_dig (head_dig hd hne)
  obtain ⟨e1, e2⟩ := hpre
  have e3 : runL (Lib.decDigits z.natAbs ++ (if t = 0 then [] else 101 :: Lib.itoa t)) = Lib.nDigits z.natAbs := by
    rw [runL_append _ _ hd, hl]
    by_cases h0 : t = 0
    · simp [h0, runL]
    · have : isDig 101 = false := by decide
      simp [h0, runL, this]
  have e4 : (if t = 0 then [] else 101 :: Lib.itoa t : List UInt8) = (Lib.decDigits z.natAbs ++ (if t = 0 then [] else 101 :: Lib.itoa t)).drop (Lib.nDigits z.natAbs) := by
    rw [← hl, List.drop_left]
  have e5 : (Lib.decDigits z.natAbs ++ (if t = 0 then [] else 101 :: Lib.itoa t)).take (Lib.nDigits z.natAbs) = Lib.decDigits z.natAbs := by
    rw [← hl, List.take_left]
  unfold tread
  rw [e1, e2, e3, ← e4, e5]
  rw [if_neg (by
    rintro (h0 | ⟨h1, h2⟩)
    · omega
    · rw [hd_app hne] at h2
      exact hhd h1 h2)]
  have e6 : tfrac (if t = 0 then [] else 101 :: Lib.itoa t) = some ([], if t = 0 then [] else 101 :: Lib.itoa t) := by
    by_cases h0 : t = 0
    · simp [h0, tfrac]
    · have : ¬ ((101 : UInt8) = 46) := by decide
      simp [h0, tfrac, this]
  have e7 : tpow (if t = 0 then [] else 101 :: Lib.itoa t) = some t := by
    by_cases h0 : t = 0
    · simp [h0, tpow]
    · rw [if_neg h0]; exact tpow_itoa t ht1 ht2 h0
  rw [e6]
  simp only [e7]
  rw [if_pos (by simpa using hn)]
  simp
theorem shw_length (z t : Int) (h : mayd z t = true) : (shw z t).length ≤ 100 := by
  have hb : Lib.nDigits z.natAbs ≤ 40 ∧ Lib.nDigits t.natAbs ≤ 3 := by
    unfold mayd at h
    by_cases e : z = 0
    · simp [e] at h
      subst e h
      exact ⟨nDig_le (k := 39) (by decide), nDig_le (k := 2) (by decide)⟩
    · rw [if_neg e] at h
      simp only [Bool.and_eq_true, decide_eq_true_eq] at h
      exact ⟨nDig_le (k := 39) h.1.1.1, nDig_le (k := 2) (by omega)⟩
  have h1 := Lib.decDigits_length z.natAbs
  have h2 := Lib.decDigits_length t.natAbs
  have h3 : (Lib.itoa t).length ≤ 4 := by
    unfold Lib.itoa
    split
    · simp; omega
    · rw [show t.toNat = t.natAbs by omega]; omega
  unfold shw
  simp only [List.length_append]
  have h4 : (if z < 0 then ([45] : List UInt8) else []).length ≤ 1 := by split <;> simp
  have h5 : (if t = 0 then ([] : List UInt8) else 101 :: Lib.itoa t).length ≤ 5 := by split <;> simp <;> omega
  omega
/-- A number that may be comes back from its text. -/
theorem tparse_shw (z t : Int) (h : mayd z t = true) : tparse (shw z t) = ((z, t), 0) := by
  unfold tparse
  rw [if_neg (by have := shw_length z t h; omega), tread_shw z t h]
  simp only [dval_dec, zs_abs, mkd_may h]

/-! ### A nought behind the last digit, a sign -/

theorem v10_pos {z : Nat} (h : z ≠ 0) : v10 (10 * z) = v10 z + 1 ∧ u10 (10 * z) = u10 z := by
  rw [Nat.mul_comm]
  exact ⟨v10_ten h, u10_ten h⟩
theorem mkd_ten (s : Bool) (a : Nat) (t : Int) : mkd (zs s (10 * a)) (t - 1) = mkd (zs s a) t := by
  by_cases h : a = 0
  · subst h
    cases s <;> rfl
  · obtain ⟨h1, h2⟩ := v10_pos h
    have e1 : ¬ zs s (10 * a) = 0 := by rw [zs_zero]; omega
    have e2 : ¬ zs s a = 0 := by rw [zs_zero]; omega
    unfold mkd
    rw [if_neg e1, if_neg e2, zs_natAbs, zs_natAbs, h1, h2, zs_lt, zs_lt]
    have e3 : t - 1 + ((v10 a + 1 : Nat) : Int) = t + (v10 a : Int) := by omega
    rw [e3, show decide (0 < 10 * a) = decide (0 < a) from decide_eq_decide.2 (by omega)]
theorem mkd_neg (a : Nat) (t : Int) : mkd (zs true a) t = (mkd (zs false a) t).map fun d => (-d.1, d.2) := by
  by_cases h : a = 0
  · subst h
    rfl
  · have e1 : ¬ zs true a = 0 := by rw [zs_zero]; omega
    have e2 : ¬ zs false a = 0 := by rw [zs_zero]; omega
    unfold mkd
    rw [if_neg e1, if_neg e2, zs_natAbs, zs_natAbs, zs_lt, zs_lt]
    split
    · simp [zs, Nat.pos_of_ne_zero h]
    · rfl
/-- What a text with a point, without an e and a sign, tells. -/
theorem tread_plain {l : List UInt8} {s : Bool} {ds : List UInt8} {t : Int} (h : tread l = some (s, ds, t)) (he : ∀ c ∈ l, c ≠ 101 ∧ c ≠ 45) (hp : ∃ c ∈ l, c = 46) :
    ∃ f b, l = f ++ 46 :: b ∧ (∀ c ∈ f, isDig c = true) ∧ (∀ c ∈ b, isDig c = true) ∧ f ≠ [] ∧ b ≠ [] ∧ (1 < f.length → f.head? ≠ some 48) ∧ f.length + b.length ≤ 40 ∧ s = false ∧ ds = f ++ b ∧ t = -(b.length : Int) := by
  have hpre := pre_dig (l := l) (fun c hc => (he c (List.mem_of_mem_head? hc)).2)
  unfold tread at h
  rw [hpre.1, hpre.2] at h
  split at h
  · cases h
  · rename_i hf
    split at h
    · cases h
    · rename_i b l2 hfr
      split at h
      · cases h
      · rename_i e hpw
        split at h
        · rename_i hlen
          simp only [Option.some.injEq, Prod.mk.injEq] at h
          obtain ⟨rfl, rfl, rfl⟩ := h
          have hsp : l = l.take (runL l) ++ l.drop (runL l) := (List.take_append_drop _ _).symm
          have hsub : ∀ c ∈ l.drop (runL l), c ∈ l := fun c hc => List.mem_of_mem_drop hc
          have hfd := runL_take l
          have hfl : (l.take (runL l)).length = runL l := by have := runL_le l; simp; omega
          -- what is left has no e: so it is nothing
          have key : ∀ r, tpow r = some e → (∀ c ∈ r, c ≠ 101) → r = [] ∧ e = 0 := by
            intro r hr hc
            cases r with
            | nil => simp [tpow] at hr; exact ⟨rfl, hr.symm⟩
            | cons c r =>
              have := hc c (by simp)
              simp [tpow, this] at hr
          have hhead : ¬ (1 < runL l ∧ l.head? = some 48) := fun x => hf (.inr x)
          have hhead2 : 1 < (l.take (runL l)).length → (l.take (runL l)).head? ≠ some 48 := by
            intro h1 h2
            rw [hfl] at h1
            rw [List.head?_take, if_neg (by omega)] at h2
            exact hhead ⟨h1, h2⟩
          generalize hrr : l.drop (runL l) = r at *
          cases r with
          | nil =>
            exfalso
            rw [List.append_nil] at hsp
            obtain ⟨c, hc, rfl⟩ := hp
            rw [hsp] at hc
            exact (dig_no (hfd _ hc)).2.1 rfl
          | cons c r1 =>
            by_cases hc46 : c = 46
            · subst hc46
              simp only [tfrac, if_true] at hfr
              split at hfr
              · cases hfr
              · rename_i hr0
                simp only [Option.some.injEq, Prod.mk.injEq] at hfr
                obtain ⟨rfl, rfl⟩ := hfr
                obtain ⟨hnil, rfl⟩ := key _ hpw (fun c hc => (he c (hsub c (by simp [List.mem_of_mem_drop hc]))).1)
                have hall : r1.take (runL r1) = r1 := by
                  have := List.take_append_drop (runL r1) r1
                  rw [hnil, List.append_nil] at this
                  exact this
                have hr1d := runL_take r1
                rw [hall] at hr1d hlen ⊢
                refine ⟨l.take (runL l), r1, hsp, hfd, hr1d, ?_, ?_, hhead2, by rw [hfl]; omega, rfl, rfl, by omega⟩
                · intro e0
                  rw [e0] at hfl
                  simp at hfl
                  omega
                · rintro rfl
                  simp [runL] at hr0
            · exfalso
              simp only [tfrac, hc46, if_false, Option.some.injEq, Prod.mk.injEq] at hfr
              obtain ⟨rfl, rfl⟩ := hfr
              obtain ⟨hnil, _⟩ := key _ hpw (fun c hc => (he c (hsub c hc)).1)
              cases hnil
        · cases h
theorem tread_of (f b : List UInt8) (h1 : ∀ c ∈ f, isDig c = true) (h2 : ∀ c ∈ b, isDig c = true) (hf : f ≠ []) (hb : b ≠ []) (hh : 1 < f.length → f.head? ≠ some 48) (hl : f.length + b.length ≤ 40) (s : Bool) :
    tread ((if s then [45] else []) ++ (f ++ 46 :: b)) = some (s, f ++ b, -(b.length : Int)) := by
  have hpre : Lib.hasPrefix ((if s then [45] else []) ++ (f ++ 46 :: b)) [45] = s ∧ Lib.trimPrefix ((if s then [45] else []) ++ (f ++ 46 :: b)) [45] = f ++ 46 :: b := by
    cases s
    · simp only [Bool.false_eq_true, if_false, List.nil_append]
      exact pre_dig (head_dig h1 hf)
    · simp only [if_true, List.singleton_append]
      exact pre_neg _
  have e46 : isDig 46 = false := by decide
  have er : runL (f ++ 46 :: b) = f.length := by
    rw [runL_append _ _ h1]
    simp [runL, e46]
  have hb0 : b.length ≠ 0 := by simpa using hb
  have hf0 : f.length ≠ 0 := by simpa using hf
  unfold tread
  rw [hpre.1, hpre.2, er, List.take_left, List.drop_left]
  rw [if_neg (by
    rintro (h0 | ⟨h3, h4⟩)
    · exact hf0 h0
    · rw [hd_app hf] at h4
      exact hh h3 h4)]
  have ef : tfrac (46 :: b) = some (b, []) := by
    simp [tfrac, runL_all b h2, hb]
  rw [ef]
  simp only [tpow]
  rw [if_pos hl]
  simp
theorem noughts {l : List UInt8} {z t : Int} (hl : l.length ≤ 40) (h : tparse l = ((z, t), 0)) (he : ∀ c ∈ l, c ≠ 101 ∧ c ≠ 45) (hp : ∃ c ∈ l, c = 46) :
    tparse (l ++ [48]) = ((z, t), 0) ∧ tparse (45 :: l) = ((-z, t), 0) := by
  unfold tparse at h
  rw [if_neg (by omega)] at h
  split at h
  · simp at h
  · rename_i s ds t0 hr
    split at h
    · simp at h
    · rename_i d hm
      simp only [Prod.mk.injEq, and_true] at h
      subst h
      obtain ⟨f, b, rfl, hf, hb, hfn, hbn, hh, hlen, rfl, rfl, rfl⟩ := tread_plain hr he hp
      have hsz : f.length + b.length ≤ 39 := by simp at hl; omega
      have d48 : isDig 48 = true := by decide
      have r1 := tread_of f (b ++ [48]) hf (by intro c hc; rcases List.mem_append.1 hc with h | h; exact hb c h; simp at h; subst h; exact d48) hfn (by simp) hh (by simp; omega) false
      have r2 := tread_of f b hf hb hfn hbn hh hlen true
      simp only [Bool.false_eq_true, if_false, List.nil_append] at r1
      simp only [if_true, List.singleton_append] at r2
      refine ⟨?_, ?_⟩
      · rw [show f ++ 46 :: b ++ [48] = f ++ 46 :: (b ++ [48]) by simp]
        unfold tparse
        rw [if_neg (by simp; omega), r1]
        have e1 : dval (f ++ (b ++ [48])) = 10 * dval (f ++ b) := by
          rw [← List.append_assoc, dval_snoc]
          simp
        have e2 : -((b ++ [48]).length : Int) = -(b.length : Int) - 1 := by simp; omega
        simp only [e1, e2, mkd_ten, hm]
      · unfold tparse
        rw [if_neg (by simp; omega), r2]
        simp only [mkd_neg, hm, Option.map_some]
end Go.Proofs.YtdfnjhkcicnkpaaGreatDoor

/-
  Digits with noughts ahead. No Go function.
-/
namespace Go.Proofs.YtdfnjhkcicnkpaaGreatDoor
set_option linter.unusedVariables false
set_option linter.unusedSimpArgs false

/-- Just d digits of m. -/
def padL : Nat → Nat → List UInt8
  | 0, _ => []
  | d + 1, m => padL d (m / 10) ++ [UInt8.ofNat (48 + m % 10)]
theorem padL_length : ∀ d m, (padL d m).length = d
  | 0, _ => rfl
  | d + 1, m => by simp [padL, padL_length d]
theorem padL_split (a : Nat) : ∀ (b m : Nat), padL (a + b) m = padL a (m / 10 ^ b) ++ padL b (m % 10 ^ b)
  | 0, m => by simp [padL]
  | b + 1, m => by
    have e1 : m / 10 / 10 ^ b = m / 10 ^ (b + 1) := by rw [Nat.div_div_eq_div_mul, Nat.pow_succ, Nat.mul_comm]
    have e2 : m % 10 ^ (b + 1) / 10 = m / 10 % 10 ^ b := by rw [Nat.pow_succ, Nat.mul_comm, Nat.mod_mul_right_div_self]
    have e3 : m % 10 ^ (b + 1) % 10 = m % 10 := Nat.mod_mod_of_dvd _ ⟨10 ^ b, by rw [Nat.pow_succ, Nat.mul_comm]⟩
    rw [show a + (b + 1) = (a + b) + 1 by omega]
    simp only [padL]
    rw [padL_split a b (m / 10), e1, e2, e3, List.append_assoc]
theorem padL_zero : ∀ d, padL d 0 = List.replicate d 48
  | 0 => rfl
  | d + 1 => by
    simp only [padL, Nat.zero_div, Nat.zero_mod, padL_zero d, List.replicate_succ']
    rfl
theorem pad_dec : ∀ (d m : Nat), 1 ≤ d → m < 10 ^ d → List.replicate (d - Lib.nDigits m) 48 ++ Lib.decDigits m = padL d m
  | 0, m, h, _ => by omega
  | d + 1, m, _, hm => by
    by_cases h10 : m < 10
    · rw [Lib.nDigits_small h10, Lib.decDigits, dif_pos h10]
      simp only [padL, Nat.add_sub_cancel, Nat.div_eq_of_lt h10, Nat.mod_eq_of_lt h10, padL_zero]
    · have hd : 1 ≤ d := by
        rcases Nat.eq_zero_or_pos d with e | e
        · subst e; simp at hm; omega
        · exact e
      have hm' : m / 10 < 10 ^ d := by rw [Nat.pow_succ] at hm; omega
      have ih := pad_dec d (m / 10) hd hm'
      rw [Lib.nDigits_big h10, Lib.decDigits, dif_neg h10]
      simp only [padL]
      rw [← ih, show d + 1 - (Lib.nDigits (m / 10) + 1) = d - Lib.nDigits (m / 10) by omega, List.append_assoc]
theorem drop_rep (k : Nat) (l : List UInt8) : (List.replicate k 48 ++ l).dropWhile (· == (48 : UInt8)) = l.dropWhile (· == (48 : UInt8)) := by
  induction k with
  | zero => rfl
  | succ k ih => rw [List.replicate_succ, List.cons_append, List.dropWhile_cons_of_pos (by decide), ih]
theorem dec_first {m : Nat} (h : m ≠ 0) : (Lib.decDigits m).dropWhile (· == (48 : UInt8)) = Lib.decDigits m := by
  have hne : (Lib.decDigits m).head? ≠ some 48 := by
    by_cases h10 : m < 10
    · rw [Lib.decDigits, dif_pos h10]
      simp only [List.head?_cons, ne_eq, Option.some.injEq]
      intro e
      have := congrArg UInt8.toNat e
      simp only [UInt8.toNat_ofNat'] at this
      have e48 : (48 : UInt8).toNat = 48 := rfl
      rw [e48] at this
      omega
    · exact dec_head m (by rw [Lib.nDigits_big h10]; have := Lib.nDigits_pos (m / 10); omega)
  cases hl : Lib.decDigits m with
  | nil => rfl
  | cons c l =>
    rw [hl] at hne
    simp only [List.head?_cons, ne_eq, Option.some.injEq] at hne
    exact List.dropWhile_cons_of_neg (by simpa using hne)
/-- A number's digits; none of nought. -/
def dgs (m : Nat) : List UInt8 := if m = 0 then [] else Lib.decDigits m
theorem trim_pad (d m : Nat) (hd : 1 ≤ d) (h : m < 10 ^ d) : Lib.trimLeftB (padL d m) 48 = dgs m := by
  unfold Lib.trimLeftB dgs
  rw [← pad_dec d m hd h, drop_rep]
  by_cases e : m = 0
  · subst e
    rw [if_pos rfl, Lib.decDigits, dif_pos (by decide)]
    rfl
  · rw [if_neg e]
    exact dec_first e
theorem dgs_step {m : Nat} (h : m ≠ 0) : dgs m = dgs (m / 10) ++ [UInt8.ofNat (48 + m % 10)] := by
  unfold dgs
  rw [if_neg h]
  by_cases h10 : m < 10
  · rw [Lib.decDigits, dif_pos h10, if_pos (by omega), Nat.mod_eq_of_lt h10]
    rfl
  · rw [Lib.decDigits, dif_neg h10, if_neg (by omega)]
theorem dgs_nil {m : Nat} : dgs m = [] ↔ m = 0 := by
  unfold dgs
  by_cases e : m = 0
  · simp [e]
  · simp [e, dec_ne]
theorem dec_dgs (m : Nat) : Lib.decDigits m = if m = 0 then [48] else dgs m := by
  by_cases e : m = 0
  · subst e
    rw [if_pos rfl, Lib.decDigits, dif_pos (by decide)]
    rfl
  · simp [dgs, e]
end Go.Proofs.YtdfnjhkcicnkpaaGreatDoor

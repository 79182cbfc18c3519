/-
  What the functions of package nat do, said of numbers: a slice reads as a number; what is answered is trim. For slices of at most 2^30 limbs.
-/
import Derived.Test.YtbendmhcimadpaaDiv
import Derived.Test.YtbendmhcimadpaaMul
namespace Go.Proofs.Ytbendmhcimadpaa
open Go.RowKit
set_option linter.unusedVariables false

/-- A slice reads as the number v. -/
def Rd (w : World) (A : Option Addr) (n c v : Nat) : Prop := ∃ b xs, Sl w b A n c xs ∧ val xs = v
/-- A slice is the trim limbs of the number v. -/
def Nm (w : World) (A : Option Addr) (n c v : Nat) : Prop := ∃ b, Sl w b A n c (limbs v)

theorem Nm.rd {w : World} {A : Option Addr} {n c v : Nat} (h : Nm w A n c v) : Rd w A n c v := by
  obtain ⟨b, h⟩ := h
  exact ⟨b, _, h, val_limbs v⟩
theorem Rd.below {w w' : World} {A : Option Addr} {n c v : Nat} (h : Rd w A n c v) (hb : Below w.heap.size w w') : Rd w' A n c v := by
  obtain ⟨b, xs, h, e⟩ := h
  exact ⟨b, xs, h.below hb, e⟩
theorem Nm.below {w w' : World} {A : Option Addr} {n c v : Nat} (h : Nm w A n c v) (hb : Below w.heap.size w w') : Nm w' A n c v := by
  obtain ⟨b, h⟩ := h
  exact ⟨b, h.below hb⟩
theorem Nm.len {w : World} {A : Option Addr} {n c v : Nat} (h : Nm w A n c v) : (limbs v).length = n := by
  obtain ⟨b, h⟩ := h
  exact h.len
theorem Nm.zero {w : World} : Nm w none 0 0 0 := ⟨0, by rw [limbs_zero]; exact Sl.nil⟩
theorem Rd.bound {w : World} {A : Option Addr} {n c v : Nat} (h : Rd w A n c v) : v < 4294967296 ^ n := by
  obtain ⟨b, xs, h, rfl⟩ := h
  have := val_lt h.lim
  rwa [h.len] at this
theorem Rd.big {w : World} {A : Option Addr} {n c v : Nat} (h : Rd w A n c v) : n ≤ 1099511627776 := by
  obtain ⟨b, xs, h, rfl⟩ := h
  exact h.big
theorem Rd.limbs_le {w : World} {A : Option Addr} {n c v : Nat} (h : Rd w A n c v) : (limbs v).length ≤ n := limbs_length_le h.bound
theorem Rd.blen_le {w : World} {A : Option Addr} {n c v : Nat} (h : Rd w A n c v) : blen v ≤ n * 32 := by
  apply blen_mono_le
  rw [← pow32]
  exact h.bound
theorem Made.nm {w w' : World} {v g c : Nat} {A : Option Addr} (h : Made w w' (limbs v) g A c) : Nm w' A (limbs v).length c v := ⟨g, h.1⟩
theorem Out.nm {w' : World} {v c : Nat} {A : Option Addr} (h : Out w' (limbs v) A c) : Nm w' A (limbs v).length c v := h

def P1 (w : World) (K v : Nat) (e : Ending) (w' : World) : Prop := ∃ A n c, e = .returned (.slice A n c) ∧ Nm w' A n c v ∧ n ≤ K ∧ Below w.heap.size w w'
def P1T (w : World) (K v : Nat) (e : Ending) (w' : World) : Prop := ∃ A n c, e = .returned (.tuple #[.slice A n c, .bool true]) ∧ Nm w' A n c v ∧ n ≤ K ∧ Below w.heap.size w w'
def P1B (w : World) (K v : Nat) (t : Bool) (e : Ending) (w' : World) : Prop := ∃ A n c, e = .returned (.tuple #[.slice A n c, .bool t]) ∧ Nm w' A n c v ∧ n ≤ K ∧ Below w.heap.size w w'
def P3 (w : World) (K q r : Nat) (e : Ending) (w' : World) : Prop :=
  ∃ A1 n1 c1 A2 n2 c2, e = .returned (.tuple #[.slice A1 n1 c1, .slice A2 n2 c2, .bool true]) ∧ Nm w' A1 n1 c1 q ∧ Nm w' A2 n2 c2 r ∧ n1 ≤ K ∧ n2 ≤ K ∧ Below w.heap.size w w'
def PI (w : World) (z : Int) (e : Ending) (w' : World) : Prop := e = .returned (.int .i64 z) ∧ Below w.heap.size w w'

theorem limbs_add_len {a b n m : Nat} (ha : a < 4294967296 ^ n) (hb : b < 4294967296 ^ m) : (limbs (a + b)).length ≤ n + m + 1 := by
  apply limbs_length_le
  have h1 := Nat.pow_le_pow_right (n := 4294967296) (by decide) (show n ≤ n + m by omega)
  have h2 := Nat.pow_le_pow_right (n := 4294967296) (by decide) (show m ≤ n + m by omega)
  rw [Nat.pow_succ]
  omega
theorem limbs_mul_len {a b n m : Nat} (ha : a < 4294967296 ^ n) (hb : b < 4294967296 ^ m) : (limbs (a * b)).length ≤ n + m := by
  apply limbs_length_le
  rw [Nat.pow_add]
  exact Nat.mul_lt_mul'' ha hb

section
variable {w : World} {A1 A2 : Option Addr} {n m c1 c2 a b : Nat}

theorem vTrim (h1 : Rd w A1 n c1 a) : Calls Try.prog 49 #[.slice A1 n c1] w (P1 w n a) := by
  have hl := h1.limbs_le
  obtain ⟨b1, xs, h1, rfl⟩ := h1
  refine (trim_any w b1 A1 n c1 xs h1).mono ?_
  rintro e w' ⟨g, A, c, rfl, hm, hb⟩
  exact ⟨A, _, c, rfl, hm.nm, hl, hb⟩

theorem vAdd (h1 : Rd w A1 n c1 a) (h2 : Rd w A2 m c2 b) (hn : n ≤ 1073741824) (hm : m ≤ 1073741824) : Calls Try.prog 44 #[.slice A1 n c1, .slice A2 m c2] w (P1 w (n + m + 1) (a + b)) := by
  have hl := limbs_add_len h1.bound h2.bound
  obtain ⟨b1, xs, h1, rfl⟩ := h1
  obtain ⟨b2, ys, h2, rfl⟩ := h2
  refine (add_any w b1 b2 A1 A2 n m c1 c2 xs ys h1 h2 (by omega) (by omega)).mono ?_
  rintro e w' ⟨g, A, c, rfl, hm, hb⟩
  exact ⟨A, _, c, rfl, hm.nm, hl, hb⟩

theorem vMul (h1 : Rd w A1 n c1 a) (h2 : Rd w A2 m c2 b) (hn : n ≤ 1073741824) (hm : m ≤ 1073741824) : Calls Try.prog 47 #[.slice A1 n c1, .slice A2 m c2] w (P1 w (n + m) (a * b)) := by
  have hl := limbs_mul_len h1.bound h2.bound
  obtain ⟨b1, xs, h1, rfl⟩ := h1
  obtain ⟨b2, ys, h2, rfl⟩ := h2
  refine (mul_any w b1 b2 A1 A2 n m c1 c2 xs ys h1 h2 (by omega) (by omega)).mono ?_
  rintro e w' ⟨g, A, c, rfl, hm, hb⟩
  exact ⟨A, _, c, rfl, hm.nm, hl, hb⟩

theorem vSub (h1 : Rd w A1 n c1 a) (h2 : Rd w A2 m c2 b) (h : b ≤ a) : Calls Try.prog 45 #[.slice A1 n c1, .slice A2 m c2] w (P1T w n (a - b)) := by
  have hl := Nat.le_trans (limbs_length_mono (Nat.sub_le a b)) h1.limbs_le
  obtain ⟨b1, xs, h1, rfl⟩ := h1
  obtain ⟨b2, ys, h2, rfl⟩ := h2
  refine (sub_ge w b1 b2 A1 A2 n m c1 c2 xs ys h1 h2 h).mono ?_
  rintro e w' ⟨g, A, c, rfl, hm, hb⟩
  exact ⟨A, _, c, rfl, hm.nm, hl, hb⟩

theorem vSub_lt (h1 : Rd w A1 n c1 a) (h2 : Rd w A2 m c2 b) (h : a < b) : Calls Try.prog 45 #[.slice A1 n c1, .slice A2 m c2] w fun e w' => e = .returned (.tuple #[.slice none 0 0, .bool false]) ∧ Below w.heap.size w w' := by
  obtain ⟨b1, xs, h1, rfl⟩ := h1
  obtain ⟨b2, ys, h2, rfl⟩ := h2
  refine (sub_lt w b1 b2 A1 A2 n m c1 c2 xs ys h1 h2 h).mono ?_
  rintro e w' ⟨rfl, q, rfl⟩
  exact ⟨rfl, below_drewN (Below.refl _ _) q⟩

theorem vCmp (h1 : Rd w A1 n c1 a) (h2 : Rd w A2 m c2 b) : Calls Try.prog 40 #[.slice A1 n c1, .slice A2 m c2] w (PI w (cmpI a b)) := by
  obtain ⟨b1, xs, h1, rfl⟩ := h1
  obtain ⟨b2, ys, h2, rfl⟩ := h2
  refine (cmp_any w b1 b2 A1 A2 n m c1 c2 xs ys h1 h2).mono ?_
  rintro e w' ⟨rfl, q, rfl⟩
  exact ⟨rfl, below_drewN (Below.refl _ _) q⟩

theorem vDiv (h1 : Rd w A1 n c1 a) (h2 : Rd w A2 m c2 b) (hn : n ≤ 1073741824) (h0 : b ≠ 0) : Calls Try.prog 42 #[.slice A1 n c1, .slice A2 m c2] w (P3 w n (a / b) (a % b)) := by
  have hl1 := Nat.le_trans (limbs_length_mono (Nat.div_le_self a b)) h1.limbs_le
  have hl2 := Nat.le_trans (limbs_length_mono (Nat.mod_le a b)) h1.limbs_le
  obtain ⟨b1, xs, h1, rfl⟩ := h1
  obtain ⟨b2, ys, h2, rfl⟩ := h2
  refine (div_any w b1 b2 A1 A2 n m c1 c2 xs ys h1 h2 (by omega) h0).mono ?_
  rintro e w' ⟨A3, c3, A4, c4, rfl, o3, o4, hb⟩
  exact ⟨A3, _, c3, A4, _, c4, rfl, o3.nm, o4.nm, hl1, hl2, hb⟩

theorem vDiv0 (h1 : Rd w A1 n c1 a) (h2 : Rd w A2 m c2 0) : Calls Try.prog 42 #[.slice A1 n c1, .slice A2 m c2] w fun e w' => e = .returned (.tuple #[.slice none 0 0, .slice none 0 0, .bool false]) ∧ Below w.heap.size w w' := by
  obtain ⟨b1, xs, h1, rfl⟩ := h1
  obtain ⟨b2, ys, h2, h0⟩ := h2
  refine (div_zero w b1 b2 A1 A2 n m c1 c2 xs ys h1 h2 h0).mono ?_
  rintro e w' ⟨rfl, rfl⟩
  exact ⟨rfl, Below.refl _ _⟩

theorem vShr (z : Int) (h1 : Rd w A1 n c1 a) (hz : z ≤ 9223372036854775807) : Calls Try.prog 72 #[.slice A1 n c1, .int .i64 z] w (P1 w n (a / 2 ^ z.toNat)) := by
  have hl := Nat.le_trans (limbs_length_mono (Nat.div_le_self a (2 ^ z.toNat))) h1.limbs_le
  obtain ⟨b1, xs, h1, rfl⟩ := h1
  refine (shr_any w b1 A1 n c1 xs z h1 hz).mono ?_
  rintro e w' ⟨g, A, c, rfl, hm, hb⟩
  exact ⟨A, _, c, rfl, hm.nm, hl, hb⟩


theorem vAddE {r : Nat} (h1 : Rd w A1 n c1 a) (h2 : Rd w A2 m c2 b) (hn : n ≤ 1073741824) (hm : m ≤ 1073741824) (hr : a + b = r) : Calls Try.prog 44 #[.slice A1 n c1, .slice A2 m c2] w (P1 w (n + m + 1) r) := hr ▸ vAdd h1 h2 hn hm
theorem vMulE {r : Nat} (h1 : Rd w A1 n c1 a) (h2 : Rd w A2 m c2 b) (hn : n ≤ 1073741824) (hm : m ≤ 1073741824) (hr : a * b = r) : Calls Try.prog 47 #[.slice A1 n c1, .slice A2 m c2] w (P1 w (n + m) r) := hr ▸ vMul h1 h2 hn hm
theorem vSubE {r : Nat} (h1 : Rd w A1 n c1 a) (h2 : Rd w A2 m c2 b) (h : b ≤ a) (hr : a - b = r) : Calls Try.prog 45 #[.slice A1 n c1, .slice A2 m c2] w (P1T w n r) := hr ▸ vSub h1 h2 h
theorem vCmpE {z : Int} (h1 : Rd w A1 n c1 a) (h2 : Rd w A2 m c2 b) (hz : cmpI (a : Int) (b : Int) = z) : Calls Try.prog 40 #[.slice A1 n c1, .slice A2 m c2] w (PI w z) := hz ▸ vCmp h1 h2
theorem vDivE {q r : Nat} (h1 : Rd w A1 n c1 a) (h2 : Rd w A2 m c2 b) (hn : n ≤ 1073741824) (h0 : b ≠ 0) (hq : a / b = q) (hr : a % b = r) : Calls Try.prog 42 #[.slice A1 n c1, .slice A2 m c2] w (P3 w n q r) := by
  subst hq; subst hr; exact vDiv h1 h2 hn h0
theorem vShrE {z : Int} {r : Nat} (h1 : Rd w A1 n c1 a) (hz : z ≤ 9223372036854775807) (hr : a / 2 ^ z.toNat = r) : Calls Try.prog 72 #[.slice A1 n c1, .int .i64 z] w (P1 w n r) := hr ▸ vShr z h1 hz
theorem vShrN {s r : Nat} (h1 : Rd w A1 n c1 a) (hs : s ≤ 9223372036854775807) (hr : a / 2 ^ s = r) : Calls Try.prog 72 #[.slice A1 n c1, .int .i64 (s : Int)] w (P1 w n r) :=
  vShrE h1 (by omega) (by rw [Int.toNat_natCast]; exact hr)
end

theorem one_rd (W : World) : Rd (W.alloc (.cells #[.int .u32 1] 54)) (some ⟨W.heap.size, 0, none⟩) 1 1 1 := ⟨_, _, one_limb W, by simp [val]⟩
end Go.Proofs.Ytbendmhcimadpaa

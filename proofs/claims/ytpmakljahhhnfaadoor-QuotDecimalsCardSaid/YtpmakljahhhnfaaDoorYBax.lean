/-
  Contracts and words that the statement's proof rests on, several texts in one: Sb, Sc, Ta.
-/
import Derived.Lib.FrozenHead2
import Derived.Lib.OthersKept
import Derived.Lib.UnsafeStr
import Derived.RegionTactic
import Derived.Test.YtpmakljahhhnfaaDoorYBah
import Derived.Test.YtpmakljahhhnfaaDoorYBav
/-
  What a builder's methods do (the library's Builder lies in a struct of its own), and what they leave alone.
-/
namespace Go.Proofs.YtpmakljahhhnfaaDoor
open Go.RowKit
set_option linter.unusedVariables false
set_option maxRecDepth 100000

/-- All blocks but the builder's and rows of bytes stand as they stood. -/
def Kp (b : Nat) (w w' : World) : Prop := Lib.OthersKept 5 (some b) w w'

end Go.Proofs.YtpmakljahhhnfaaDoor

/-
  What a builder's String answers; limbs in rows of their own, which a builder's writes leave alone.
-/
namespace Go.Proofs.YtpmakljahhhnfaaDoor
open Go.RowKit
set_option linter.unusedVariables false
set_option maxRecDepth 100000

/-- Just the limbs of v, in a row of limbs. -/
def Nt (w : World) (A : Option Addr) (n c v : Nat) : Prop := ∃ b, Sl w b A n c (limbs v) ∧ (0 < n → ∃ cs, w.heap[b]? = some (.cells cs 53 (0, 0)))
section
variable {w w' : World} {A : Option Addr} {n c v : Nat}
theorem Nt.nm (h : Nt w A n c v) : Nm w A n c v := by
  obtain ⟨b, h, _⟩ := h
  exact ⟨b, h⟩
theorem Nt.keep (h : Nt w A n c v) (hk : ∀ (b : Nat) (cs : Array Value), w.heap[b]? = some (Obj.cells cs 53 (0, 0)) → w'.heap[b]? = w.heap[b]?) : Nt w' A n c v := by
  obtain ⟨b, h, k⟩ := h
  refine ⟨b, h.keep fun hn => ?_, fun hn => ?_⟩
  · obtain ⟨cs, e⟩ := k hn
    exact hk b cs e
  · obtain ⟨cs, e⟩ := k hn
    exact ⟨cs, (hk b cs e).trans e⟩
theorem Nt.below (h : Nt w A n c v) (hb : Below w.heap.size w w') : Nt w' A n c v := h.keep fun b cs e => hb.block b (by
  exact (Array.getElem?_eq_some_iff.1 e).1)
theorem Made.nt {W : World} {g : Nat} (h : Made W w (limbs v) g A c) : Nt w A (limbs v).length c v := ⟨g, h.1, fun hn => ⟨_, (h.2 hn).2.2⟩⟩
theorem Out.nt (h : Out w (limbs v) A c) : Nt w A (limbs v).length c v := by
  obtain ⟨b, h, k⟩ := h
  exact ⟨b, h, k⟩
end
theorem Kp.trans {b : Nat} {a c d : World} (h : Kp b a c) (k : Kp b c d) : Kp b a d := Lib.OthersKept.trans h k
/-- The call answers limbs in a row of their own. -/
def P1N (w : World) (K v : Nat) (e : Ending) (w' : World) : Prop := ∃ A n c, e = .returned (.slice A n c) ∧ Nt w' A n c v ∧ n ≤ K ∧ Below w.heap.size w w'
def P3N (w : World) (K q r : Nat) (e : Ending) (w' : World) : Prop :=
  ∃ A n c B m d, e = .returned (.tuple #[.slice A n c, .slice B m d, .bool true]) ∧ Nt w' A n c q ∧ Nt w' B m d r ∧ n ≤ K ∧ m ≤ K ∧ Below w.heap.size w w'
section
variable {w : World} {A1 A2 : Option Addr} {n m c1 c2 a b : Nat}
theorem vMulN (h1 : Rd w A1 n c1 a) (h2 : Rd w A2 m c2 b) (hn : n ≤ 1073741824) (hm : m ≤ 1073741824) : Calls Tryd.prog 68 #[.slice A1 n c1, .slice A2 m c2] w (P1N w (n + m) (a * b)) := by
  have hl := limbs_mul_len h1.bound h2.bound
  obtain ⟨b1, xs, h1, rfl⟩ := h1
  obtain ⟨b2, ys, h2, rfl⟩ := h2
  refine (mul_any w b1 b2 A1 A2 n m c1 c2 xs ys h1 h2 (by omega) (by omega)).mono ?_
  rintro e w' ⟨g, A, c, rfl, hm, hb⟩
  exact ⟨A, _, c, rfl, hm.nt, hl, hb⟩
theorem vDivN (h1 : Rd w A1 n c1 a) (h2 : Rd w A2 m c2 b) (hn : n ≤ 1073741824) (h0 : b ≠ 0) : Calls Tryd.prog 62 #[.slice A1 n c1, .slice A2 m c2] w (P3N w n (a / b) (a % b)) := by
  have hl1 := Nat.le_trans (limbs_length_mono (Nat.div_le_self a b)) h1.limbs_le
  have hl2 := Nat.le_trans (limbs_length_mono (Nat.mod_le a b)) h1.limbs_le
  obtain ⟨b1, xs, h1, rfl⟩ := h1
  obtain ⟨b2, ys, h2, rfl⟩ := h2
  refine (div_any w b1 b2 A1 A2 n m c1 c2 xs ys h1 h2 (by omega) h0).mono ?_
  rintro e w' ⟨A3, c3, A4, c4, rfl, o3, o4, hb⟩
  exact ⟨A3, _, c3, A4, _, c4, rfl, o3.nt, o4.nt, hl1, hl2, hb⟩
end
end Go.Proofs.YtpmakljahhhnfaaDoor

/-
  What decimal.ten, power, multiple, within do.
-/
namespace Go.Proofs.YtpmakljahhhnfaaDoor
open Go.RowKit
set_option linter.unusedVariables false
set_option maxRecDepth 100000

theorem Nm.few {w : World} {A : Option Addr} {n c v K : Nat} (h : Nm w A n c v) (hv : v < 4294967296 ^ K) : n ≤ K := by
  have h1 := h.len
  have h2 := limbs_length_le hv
  omega
theorem limbs_one {x : Nat} (h0 : 0 < x) (h : x < 4294967296) : limbs x = [x] := by
  rw [limbs_pos (by omega), Nat.mod_eq_of_lt h, Nat.div_eq_of_lt h, limbs_zero]
theorem lit_nt (w : World) {g x : Nat} {z : Int} (hg : w.heap.size = g) (hz : z = x) (h0 : 0 < x) (h : x < 4294967296) : Nt (w.alloc (.cells #[.int .u32 z] 53)) (some ⟨g, 0, none⟩) 1 1 x := by
  subst hz; subst hg
  have hh := heap_alloc_new w (.cells #[.int .u32 (x : Int)] 53)
  refine ⟨w.heap.size, ?_, fun _ => ⟨_, hh⟩⟩
  rw [limbs_one h0 h]
  refine ⟨rfl, Nat.le_refl _, by decide, fun y hy => ?_, fun _ => ⟨0, rfl, fun k hk => ?_⟩⟩
  · simp at hy; subst hy; exact h
  · obtain rfl : k = 0 := by omega
    rw [cell_of_row _ _ _ _ _ _ hh]
    rfl
theorem ten_lt (n : Nat) : 10 ^ n < 4294967296 ^ (n + 1) := by
  have h1 : 10 ^ n ≤ 4294967296 ^ n := Nat.pow_le_pow_left (by decide) n
  have h2 : 4294967296 ^ n < 4294967296 ^ (n + 1) := Nat.pow_lt_pow_right (by decide) (by omega)
  omega
theorem few10 {w : World} {A : Option Addr} {m c n : Nat} (h : Nt w A m c (10 ^ n)) : m ≤ n + 1 := h.nm.few (ten_lt n)
theorem vTen (w : World) : Calls Tryd.prog 73 #[] w (P1N w 1 10) := by
  go_enter Tryd.func73, Tryd.ntmps73
  go_wp2
  go_ret
  exact ⟨_, _, _, rfl, lit_nt w rfl rfl (by decide) (by decide), Nat.le_refl _, bel1 _ _⟩
theorem vWithin (t : Int) (w : World) : Calls Tryd.prog 45 #[.int .i64 t] w fun e w' => e = .returned (.bool (decide (-400 ≤ t) && decide (t ≤ 400))) ∧ w' = w := by
  by_cases h1 : -400 ≤ t
  · by_cases h2 : t ≤ 400
    · have e1 : decide (-400 ≤ t) = true := by simpa using h1
      have e2 : decide (t ≤ 400) = true := by simpa using h2
      go_enter Tryd.func45, Tryd.ntmps45
      go_wp2
      go_ret
      exact ⟨by rw [e1, e2]; rfl, rfl⟩
    · have e1 : decide (-400 ≤ t) = true := by simpa using h1
      have e2 : decide (t ≤ 400) = false := by simpa using h2
      go_enter Tryd.func45, Tryd.ntmps45
      go_wp2
      go_ret
      exact ⟨rfl, rfl⟩
  · have e1 : decide (-400 ≤ t) = false := by simpa using h1
    go_enter Tryd.func45, Tryd.ntmps45
    go_wp2
    go_ret
    exact ⟨rfl, rfl⟩
theorem vMultiple {w : World} {A : Option Addr} {n c a : Nat} (h : Rd w A n c a) (hn : n ≤ 1073741824) : Calls Tryd.prog 48 #[.slice A n c] w (PB w (decide (a % 10 = 0))) := by
  go_enter Tryd.func48, Tryd.ntmps48
  go_wp2_with (first
    | (go_at_call 73; ((with_reducible refine (vTen _).mono ?_); rintro e w1 ⟨A1, n1, c1, rfl, h1, k1, B1⟩))
    | (go_at_call 62; ((with_reducible refine (vDivN (h.below B1) h1.nm.rd hn (by decide)).mono ?_); rintro e w2 ⟨A2, n2, c2, A3, n3, c3, rfl, h2, h3, k2, k3, B2⟩)))
  go_ret
  refine ⟨?_, bt B1 B2⟩
  have hp := h3.nm.pos
  congr 2
  by_cases e : a % 10 = 0
  · have : n3 = 0 := by omega
    simp [e, this]
  · have : n3 ≠ 0 := by omega
    simp [e, this]

set_option maxHeartbeats 1000000 in
theorem vPower : ∀ (n : Nat) (w : World), n ≤ 1000 → Calls Tryd.prog 47 #[.int .i64 n] w (P1N w (n + 1) (10 ^ n)) := by
  intro n
  induction n using Nat.strongRecOn with
  | _ n ih =>
    intro w hn
    by_cases h0 : n = 0
    · subst h0
      go_enter Tryd.func47, Tryd.ntmps47
      go_wp2
      go_ret
      exact ⟨_, _, _, rfl, lit_nt w rfl rfl (by decide) (by decide), Nat.le_refl _, bel1 _ _⟩
    · have IH0 := ih (n / 2) (by omega) w (by omega)
      rw [show ((n / 2 : Nat) : Int) = (n : Int) / 2 by omega] at IH0
      have IH := Lib.hid IH0
      have hsq : 10 ^ (n / 2) * 10 ^ (n / 2) = 10 ^ (n / 2 * 2) := by rw [← Nat.pow_add]; congr 1; omega
      have HS := Lib.hid hsq
      clear ih IH0 hsq
      have e0 : ((n : Int) == 0) = false := by simp; omega
      by_cases hp : n % 2 = 0
      · have e1 : ((n : Int) % 2 == 0) = true := by simp; omega
        go_enter Tryd.func47, Tryd.ntmps47
        go_wp2_with (first
          | (go_at_call 47; refine IH.out.mono ?_; rintro e w1 ⟨A1, n1, c1, rfl, h1, k1, B1⟩)
          | (go_at_call 68; ((with_reducible refine (vMulN h1.nm.rd h1.nm.rd (by omega) (by omega)).mono ?_); rintro e w2 ⟨A2, n2, c2, rfl, h2, k2, B2⟩)))
        go_ret
        rw [HS.out, show n / 2 * 2 = n by omega] at h2
        exact ⟨_, _, _, rfl, h2, few10 h2, bt B1 B2⟩
      · have e1 : ((n : Int) % 2 == 0) = false := by simp; omega
        go_enter Tryd.func47, Tryd.ntmps47
        go_wp2_with (first
          | (go_at_call 47; refine IH.out.mono ?_; rintro e w1 ⟨A1, n1, c1, rfl, h1, k1, B1⟩)
          | (go_at_call 73; ((with_reducible refine (vTen _).mono ?_); rintro e w3 ⟨A3, n3, c3, rfl, h3, k3, B3⟩))
          | (go_at_call 68; ((with_reducible refine (vMulN h1.nm.rd h1.nm.rd (by omega) (by omega)).mono ?_); rintro e w2 ⟨A2, n2, c2, rfl, h2, k2, B2⟩))
          | (go_at_call 68; ((with_reducible refine (vMulN (h2.nm.rd.below B3) h3.nm.rd (by omega) (by omega)).mono ?_); rintro e w4 ⟨A4, n4, c4, rfl, h4, k4, B4⟩)))
        go_ret
        rw [HS.out, ← Nat.pow_succ, show (n / 2 * 2).succ = n by omega] at h4
        exact ⟨_, _, _, rfl, h4, few10 h4, bt B1 (bt B2 (bt B3 B4))⟩
end Go.Proofs.YtpmakljahhhnfaaDoor

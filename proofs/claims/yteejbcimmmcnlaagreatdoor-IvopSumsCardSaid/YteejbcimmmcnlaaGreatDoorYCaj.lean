/-
  Contracts and words that the statement's proof rests on, several texts in one: Wa, Vall, We, Valr.
-/
import Derived.Below
import Derived.BigQuiet
import Derived.Carry
import Derived.Deep.Draws
import Derived.Deep.MidRow
import Derived.Deep.QuietTactic
import Derived.Deep.RegionWith
import Derived.Laws.CopyOwn
import Derived.Laws.MakeOwn
import Derived.Laws.OwnMore
import Derived.Laws.Rows
import Derived.Lib.BitFns
import Derived.Lib.Hide
import Derived.Test.YteejbcimmmcnlaaGreatDoorRows
import Derived.WalkKit
import Derived.WalkLawsBesides
import Derived.WalkSpells
import Derived.Test.YteejbcimmmcnlaaGreatDoorYCae
import Derived.Test.YteejbcimmmcnlaaGreatDoorYCag
import Derived.Test.YteejbcimmmcnlaaGreatDoorYCai
/-
  What whole.signed, Make and Neg do.
-/
namespace Go.Proofs.YteejbcimmmcnlaaGreatDoor
open Go.RowKit
set_option linter.unusedVariables false

set_option maxHeartbeats 400000 in
theorem wSigned {w : World} {A : Option Addr} {n c a : Nat} (s : Bool) (h : Nm w A n c a) : Calls Tryz.prog 119 #[.bool s, .slice A n c] w (W1 w n (sg s a)) := by
  have HW := Lib.hid (h.wn s); have hbig := h.rd.big; clear h
  cases s
  · go_enter Tryz.func119, Tryz.ntmps119
    go_wp2; exact bodyPost_ret (v := .agg #[.bool false, .slice A n c]) (by simp [results, Tryz.results119, go_sem]) rfl ⟨false, A, n, c, rfl, HW.out.below (bel1 _ _), Nat.le_refl _, bel1 _ _⟩
  · by_cases h0 : 0 < n
    · have e : decide (0 < n) = true := by simpa using h0
      go_enter Tryz.func119, Tryz.ntmps119
      go_wp2; exact bodyPost_ret (v := .agg #[.bool true, .slice A n c]) (by simp [results, Tryz.results119, go_sem]) rfl ⟨true, A, n, c, rfl, by have := HW.out; rw [e] at this; exact this.below (bel1 _ _), Nat.le_refl _, bel1 _ _⟩
    · obtain rfl : n = 0 := by omega
      go_enter Tryz.func119, Tryz.ntmps119
      go_wp2; exact bodyPost_ret (v := .agg #[.bool false, .slice A 0 c]) (by simp [results, Tryz.results119, go_sem]) rfl ⟨false, A, 0, c, rfl, HW.out.below (bel1 _ _), Nat.le_refl _, bel1 _ _⟩

set_option maxHeartbeats 400000 in
theorem wMake {w : World} {A : Option Addr} {n c a : Nat} (s : Bool) (h : Rd w A n c a) : Calls Tryz.prog 76 #[.bool s, .slice A n c] w (W1 w n (sg s a)) := by
  go_enter Tryz.func76, Tryz.ntmps76
  go_wp2_with (first
    | (go_at_call 120; ((with_reducible refine (vTrim (h.below (bel1 _ _))).mono ?_); rintro e w1 ⟨A1, n1, c1, rfl, h1, k1, B1⟩))
    | (go_at_call 119; ((with_reducible refine (wSigned s h1).mono ?_); rintro e w2 ⟨s2, A2, n2, c2, rfl, h2, k2, B2⟩; obtain ⟨hc, hf⟩ := bcell (bt B1 B2))))
  have X := (Bx.new w false none 0 0).below (bt B1 B2); exact bodyPost_ret (v := .agg #[.bool s2, .slice A2 n2 c2]) (by simp [results, Tryz.results76, go_sem, X.cell0, X.cell1]) rfl ⟨s2, A2, n2, c2, rfl, h2.st X _ _, by omega, st2 (bt (bel1 _ _) (bt B1 B2)) (Nat.le_refl _) _ _⟩

end Go.Proofs.YteejbcimmmcnlaaGreatDoor

/-
  What nat.Len does, said of numbers; and the order of two numbers.
-/
namespace Go.Proofs.YteejbcimmmcnlaaGreatDoor
open Go.RowKit
set_option linter.unusedVariables false

section
variable {w : World} {A1 A2 : Option Addr} {n m c1 c2 a b : Nat}
theorem vLen (h1 : Rd w A1 n c1 a) : Calls Tryz.prog 144 #[.slice A1 n c1] w (PI w (blen a : Nat)) := by
  obtain ⟨b1, xs, h1, rfl⟩ := h1; refine (len_any w b1 A1 n c1 xs h1).mono ?_; rintro e w' ⟨rfl, rfl⟩; exact ⟨rfl, Below.refl _ _⟩

theorem vLenE {z : Int} (h1 : Rd w A1 n c1 a) (hz : ((blen a : Nat) : Int) = z) : Calls Tryz.prog 144 #[.slice A1 n c1] w (PI w z) := hz ▸ vLen h1
end
theorem cmpI_self (a : Nat) : cmpI (a : Int) (a : Int) = 0 := cmpI_eq rfl
theorem cmpI_bd (a b : Int) : -1 ≤ cmpI a b ∧ cmpI a b ≤ 1 := by unfold cmpI; split <;> (try split) <;> omega
theorem blen_eq_zero {a : Nat} : blen a = 0 ↔ a = 0 := by
  constructor
  · intro h
    have := blen_lt a
    rw [h] at this
    simpa using this
  · rintro rfl; rfl
end Go.Proofs.YteejbcimmmcnlaaGreatDoor

/-
  What whole.May does.
-/
namespace Go.Proofs.YteejbcimmmcnlaaGreatDoor
open Go.RowKit
set_option linter.unusedVariables false

/-- May a number be that has the sign s and n limbs, and whose limbs are the number a? -/
def mayB (s : Bool) (n a : Nat) : Bool := decide ((limbs a).length = n) && (decide (0 < n) || !s)
theorem mayB_zero (s : Bool) {a : Nat} (h : a < 4294967296 ^ 0) : mayB s 0 a = !s := by
  obtain rfl : a = 0 := by simpa using h
  simp [mayB, limbs_zero]
theorem mayB_pos (s : Bool) {n : Nat} {xs : List Nat} (hl : Lim xs) (h : xs.length = n) (hn : 0 < n) : mayB s n (val xs) = (((xs.getD (n - 1) 0 : Nat) : Int) != 0) := by
  have h1 : decide (0 < n) = true := by simpa using hn
  unfold mayB
  rw [h1, Bool.true_or, Bool.and_true]
  by_cases e : xs.getD (n - 1) 0 = 0
  · rw [e]
    have : (limbs (val xs)).length ≤ n - 1 := by
      apply limbs_length_le
      have e3 : val (xs.drop (n - 1)) = 0 := by rw [val_drop (by omega), e, show n - 1 + 1 = n by omega, List.drop_of_length_le (by omega)]; rfl
      have e2 := val_take_drop xs (k := n - 1) (by omega); rw [e3, Nat.mul_zero, Nat.add_zero] at e2; rw [e2]
      have := val_lt (hl.take (n - 1))
      rwa [List.length_take, h, Nat.min_eq_left (by omega)] at this
    simp
    omega
  · have := take_eq_limbs hl (k := n) (by omega) (by rw [List.drop_of_length_le (by omega)]; rfl) (fun _ => e)
    have hlen : (limbs (val xs)).length = n := by rw [← this, List.length_take]; omega
    rw [hlen]
    have e' : ((xs.getD (n - 1) 0 : Nat) : Int) ≠ 0 := by omega
    simp only [decide_true]; exact (bne_iff_ne.2 e').symm
set_option maxHeartbeats 400000 in
theorem wMay {w : World} {A : Option Addr} {n c a : Nat} {s : Bool} {r : Bool} (h : Rd w A n c a) (hr : mayB s n a = r) : Calls Tryz.prog 162 #[.agg #[.bool s, .slice A n c]] w (PB w r) := by
  rcases Nat.eq_zero_or_pos n with e | hn
  · subst e; rw [mayB_zero s h.bound] at hr; subst hr
    go_enter Tryz.func162, Tryz.ntmps162
    go_wp2
    go_ret
    exact ⟨rfl, bel1 _ _⟩
  · obtain ⟨b, xs, h, rfl⟩ := h; rw [mayB_pos s h.lim h.len hn] at hr; have hbig := h.big; have hcap := h.cap; have hlt := h.lt hn; obtain ⟨o, rfl, hcell⟩ := h.at hn; have hck := hcell (n - 1) (by omega); clear hcell h
    have hi : ((n : Int) - 1).toNat = n - 1 := by omega
    revert hr hck
    generalize xs.getD (n - 1) 0 = x
    intro hr hck
    have HR := Lib.hid hr
    have hq : ((n : Int) == 0) = false := by have : (n : Int) ≠ 0 := by omega
                                             simpa using this
    have hne : b ≠ w.heap.size := by omega
    clear hr
    go_enter Tryz.func162, Tryz.ntmps162
    go_wp2
    go_ret
    exact ⟨ret_bool HR.out, bel1 _ _⟩
end Go.Proofs.YteejbcimmmcnlaaGreatDoor

/-
  What nat.Shl and nat.Root do, said of numbers.
-/
namespace Go.Proofs.YteejbcimmmcnlaaGreatDoor
open Go.RowKit
set_option linter.unusedVariables false

section
variable {w : World} {A1 A2 : Option Addr} {n m c1 c2 a b : Nat}
theorem limbs_shl_len {a n s : Nat} (ha : a < 4294967296 ^ n) : (limbs (a * 2 ^ s)).length ≤ n + s / 32 + 1 := by
  have := limbs_mul_len (m := s / 32 + 1) (b := 2 ^ s) ha (by rw [pow32]; exact Nat.pow_lt_pow_right (by decide) (by omega))
  omega
theorem vShl (s : Nat) (h1 : Rd w A1 n c1 a) (hn : n ≤ 1073741824) (hs : s ≤ 16777216) : Calls Tryz.prog 147 #[.slice A1 n c1, .int .i64 (s : Int)] w (P1 w (n + s / 32 + 1) (a * 2 ^ s)) := by
  have hl := limbs_shl_len (s := s) h1.bound; obtain ⟨b1, xs, h1, rfl⟩ := h1; refine (shl_any w b1 A1 n c1 xs s h1 hs (by omega)).mono ?_; rintro e w' ⟨g, A, c, rfl, hm, hb⟩; exact ⟨A, _, c, rfl, hm.nm, hl, hb⟩
theorem vShl_low (z : Int) (h1 : Rd w A1 n c1 a) (hz : z < 1) : Calls Tryz.prog 147 #[.slice A1 n c1, .int .i64 z] w (P1 w n a) := by
  have hl := h1.limbs_le; obtain ⟨b1, xs, h1, rfl⟩ := h1; refine (shl_low w b1 A1 n c1 xs z h1 hz).mono ?_; rintro e w' ⟨g, A, c, rfl, hm, hb⟩; exact ⟨A, _, c, rfl, hm.nm, hl, hb⟩
theorem vShlE {s r : Nat} (h1 : Rd w A1 n c1 a) (hn : n ≤ 1073741824) (hs : s ≤ 16777216) (hr : a * 2 ^ s = r) : Calls Tryz.prog 147 #[.slice A1 n c1, .int .i64 (s : Int)] w (P1 w (n + s / 32 + 1) r) := hr ▸ vShl s h1 hn hs
end

theorem blen_shl {a s : Nat} (ha : a ≠ 0) : blen (a * 2 ^ s) = blen a + s := by
  have h1 := blen_lt a; have h2 := blen_le ha
  have h3 : blen a ≠ 0 := fun e => by rw [e] at h1; simp at h1; exact ha h1
  have hp := Nat.two_pow_pos s
  have := blen_uniq (n := a * 2 ^ s) (k := blen a - 1 + s) (by have := Nat.mul_pos (Nat.pos_of_ne_zero ha) hp; omega)
    (by rw [Nat.pow_add]; exact Nat.mul_le_mul_right _ h2)
    (by rw [show blen a - 1 + s + 1 = blen a + s by omega, Nat.pow_add]; exact Nat.mul_lt_mul_of_pos_right h1 hp)
  omega
theorem blen_pow (s : Nat) : blen (2 ^ s) = s + 1 := by
  have := blen_shl (a := 1) (s := s) (by decide)
  rw [Nat.one_mul] at this; rw [this]
  have : blen 1 = 1 := by decide
  omega
end Go.Proofs.YteejbcimmmcnlaaGreatDoor

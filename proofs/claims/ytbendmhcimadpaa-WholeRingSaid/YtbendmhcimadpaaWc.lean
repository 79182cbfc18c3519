/-
  What whole.Sign, Cmp, Same and May do.
-/
import Derived.Test.YtbendmhcimadpaaWa
import Derived.Test.YtbendmhcimadpaaVall
import Derived.IntWalk
namespace Go.Proofs.Ytbendmhcimadpaa
open Go.RowKit
set_option linter.unusedVariables false

theorem sg_cases (s : Bool) (a : Nat) : (a = 0 ∧ cmpI (sg s a) 0 = 0) ∨ (0 < a ∧ s = true ∧ cmpI (sg s a) 0 = -1) ∨ (0 < a ∧ s = false ∧ cmpI (sg s a) 0 = 1) := by
  rcases Nat.eq_zero_or_pos a with e | e
  · subst e; exact .inl ⟨rfl, by rw [sg_zero]; exact cmpI_eq rfl⟩
  · cases s
    · exact .inr (.inr ⟨e, rfl, cmpI_gt (by simp [sg]; omega)⟩)
    · exact .inr (.inl ⟨e, rfl, cmpI_lt (by simp [sg]; omega)⟩)

set_option maxHeartbeats 400000 in
theorem wSign {w : World} {A : Option Addr} {n c : Nat} {s : Bool} {x r : Int} (h : Wr w s A n c x) (hr : cmpI x 0 = r) : Calls Try.prog 21 #[.agg #[.bool s, .slice A n c]] w (PI w r) := by
  obtain ⟨a, h, e1⟩ := h
  subst e1
  have hb : blen a ≤ 35184372088832 := by have := h.blen_le; have := h.big; omega
  rcases sg_cases s a with ⟨rfl, e⟩ | ⟨ha, rfl, e⟩ | ⟨ha, rfl, e⟩
  · rw [e] at hr
    subst hr
    clear e hb
    go_enter Try.func21, Try.ntmps21
    go_wp2_with (first
      | (go_at_call 41; ((with_reducible refine (vLenE (z := 0) (h.below (bel1 _ _)) rfl).mono ?_); rintro e w1 ⟨rfl, B1⟩)))
    go_ret
    exact ⟨rfl, bt (bel1 _ _) B1⟩
  all_goals
    rw [e] at hr
    subst hr
    have hz : ((blen a : Nat) : Int) ≠ 0 := by have := blen_eq_zero (a := a); omega
    have hq : (((blen a : Nat) : Int) == 0) = false := by simpa using hz
    clear e hz
    go_enter Try.func21, Try.ntmps21
    go_wp2_with (first
      | (go_at_call 41; ((with_reducible refine (vLen (h.below (bel1 _ _))).mono ?_); rintro e w1 ⟨rfl, B1⟩; obtain ⟨hc, hf⟩ := bcell B1)))
    go_ret
    exact ⟨rfl, bt (bel1 _ _) B1⟩

theorem cmp_signs {x y : Int} (h : cmpI x 0 ≠ cmpI y 0) : cmpI (cmpI x 0) (cmpI y 0) = cmpI x y := by
  unfold cmpI at h ⊢
  split <;> split <;> split <;> (try split) <;> (try split) <;> (try split) <;> simp_all <;> omega
theorem cmp_same {s t : Bool} {a b : Nat} (h : cmpI (sg s a) 0 = cmpI (sg t b) 0) : cmpI (sg s a) 0 * cmpI (a : Int) (b : Int) = cmpI (sg s a) (sg t b) := by
  rcases sg_cases s a with ⟨rfl, e⟩ | ⟨ha, rfl, e⟩ | ⟨ha, rfl, e⟩ <;> rcases sg_cases t b with ⟨rfl, e'⟩ | ⟨hb, rfl, e'⟩ | ⟨hb, rfl, e'⟩ <;> rw [e, e'] at h <;> first | (exfalso; revert h; decide) | skip
  · rw [e, sg_zero, sg_zero, Int.zero_mul]; exact (cmpI_eq rfl).symm
  · rw [e]
    rcases Nat.lt_trichotomy a b with q | q | q
    · rw [cmpI_lt (by omega), cmpI_gt (by simp [sg]; omega)]; rfl
    · subst q; rw [cmpI_self, cmpI_eq rfl]; rfl
    · rw [cmpI_gt (by omega), cmpI_lt (by simp [sg]; omega)]; rfl
  · rw [e]
    rcases Nat.lt_trichotomy a b with q | q | q
    · rw [cmpI_lt (by omega), cmpI_lt (by simp [sg]; omega)]; rfl
    · subst q; rw [cmpI_self, cmpI_eq rfl]; rfl
    · rw [cmpI_gt (by omega), cmpI_gt (by simp [sg]; omega)]; rfl

set_option maxHeartbeats 1000000 in
theorem wCmp {w : World} {A B : Option Addr} {n c m d : Nat} {s t : Bool} {x y r : Int} (h : Wr w s A n c x) (k : Wr w t B m d y) (hr : cmpI x y = r) :
    Calls Try.prog 19 #[.agg #[.bool s, .slice A n c], .agg #[.bool t, .slice B m d]] w (PI w r) := by
  obtain ⟨a, h', e1⟩ := id h
  obtain ⟨b, k', e2⟩ := id k
  have b1 := cmpI_bd x 0
  have b2 := cmpI_bd y 0
  have b3 := cmpI_bd a b
  by_cases hs : cmpI x 0 = cmpI y 0
  · have HM : Hid (cmpI x 0 * cmpI (a : Int) (b : Int) = r) := Lib.hid (by rw [← hr, ← e1, ← e2]; exact cmp_same (by rw [e1, e2]; exact hs))
    have HX := Lib.hid (rfl : cmpI x 0 = cmpI x 0)
    have HY := Lib.hid hs.symm
    have HZ := Lib.hid (rfl : cmpI (a : Int) (b : Int) = cmpI (a : Int) (b : Int))
    clear hr e1 e2 hs b2
    revert b1 b3 HM HX HY HZ
    generalize hp : cmpI x 0 = p
    generalize hq : cmpI (a : Int) (b : Int) = q
    intro b1 b3 HM HX HY HZ
    have HP := Lib.hid hp
    have HQ := Lib.hid hq
    clear hp hq HX HZ
    have hb : -1 ≤ p * q ∧ p * q ≤ 1 := by
      rcases (by omega : p = -1 ∨ p = 0 ∨ p = 1) with rfl | rfl | rfl <;> omega
    obtain ⟨hb1, hb2⟩ := hb
    obtain ⟨b11, b12⟩ := b1
    obtain ⟨b31, b32⟩ := b3
    have hw : IntKind.i64.wrap (p * q) = p * q := IntWalk.i64_in _ (by omega)
    have hpp : (p != p) = false := by simp
    go_enter Try.func19, Try.ntmps19
    go_wp2_with (first
      | (go_at_call 21; ((with_reducible refine (wSign (h.below (bel2 _ _ _)) HP.out).mono ?_); rintro e w1 ⟨rfl, B1⟩; obtain ⟨hc, hf⟩ := bcell B1))
      | (go_at_call 21; ((with_reducible refine (wSign (k.below (bt (bel2 _ _ _) B1)) HY.out).mono ?_); rintro e w2 ⟨rfl, B2⟩; clear hc hf; obtain ⟨hc, hf⟩ := bcell (bt B1 B2)))
      | (go_at_call 40; ((with_reducible refine (vCmpE (h'.below (bt (bel2 _ _ _) (bt B1 B2))) (k'.below (bt (bel2 _ _ _) (bt B1 B2))) HQ.out).mono ?_); rintro e w3 ⟨rfl, B3⟩)))
    go_ret
    exact ⟨ret_int HM.out, bt (bel2 _ _ _) (bt B1 (bt B2 B3))⟩
  · have HM : Hid (cmpI (cmpI x 0) (cmpI y 0) = r) := Lib.hid (by rw [← hr]; exact cmp_signs hs)
    have HX := Lib.hid (rfl : cmpI x 0 = cmpI x 0)
    clear hr e1 e2 b3
    revert b1 b2 HM hs
    generalize hp : cmpI x 0 = p
    generalize hq : cmpI y 0 = q
    intro b1 b2 hs HM
    have HP := Lib.hid hp
    have HQ := Lib.hid hq
    clear hp hq HX
    obtain ⟨b11, b12⟩ := b1
    obtain ⟨b31, b32⟩ := b2
    have hne : (p != q) = true := by simpa using hs
    have HS := Lib.hid hs
    clear hs
    go_enter Try.func19, Try.ntmps19
    go_wp2_with (first
      | (go_at_call 21; ((with_reducible refine (wSign (h.below (bel2 _ _ _)) HP.out).mono ?_); rintro e w1 ⟨rfl, B1⟩; obtain ⟨hc, hf⟩ := bcell B1))
      | (go_at_call 21; ((with_reducible refine (wSign (k.below (bt (bel2 _ _ _) B1)) HQ.out).mono ?_); rintro e w2 ⟨rfl, B2⟩; clear hc hf; obtain ⟨hc, hf⟩ := bcell (bt B1 B2)))
      | (go_at_call 39; ((with_reducible refine (compareInt_any _ _ _).mono ?_); rintro e w3 ⟨rfl, rfl⟩)))
    go_ret
    exact ⟨ret_int HM.out, bt (bel2 _ _ _) (bt B1 B2)⟩

theorem cmpI_zero {x y : Int} : cmpI x y = 0 ↔ x = y := by unfold cmpI; split <;> (try split) <;> omega

set_option maxHeartbeats 400000 in
theorem wSame {w : World} {A B : Option Addr} {n c m d : Nat} {s t : Bool} {x y : Int} {r : Bool} (h : Wr w s A n c x) (k : Wr w t B m d y) (hr : decide (x = y) = r) :
    Calls Try.prog 20 #[.agg #[.bool s, .slice A n c], .agg #[.bool t, .slice B m d]] w (PB w r) := by
  have hd := cmpI_zero (x := x) (y := y)
  have HR : Hid ((cmpI x y == 0) = r) := Lib.hid (by rw [← hr, Bool.eq_iff_iff]; simpa using hd)
  clear hr hd
  revert HR
  generalize hp : cmpI x y = p
  intro HR
  have HP := Lib.hid hp
  clear hp
  go_enter Try.func20, Try.ntmps20
  go_wp2_with (first
    | (go_at_call 19; ((with_reducible refine (wCmp (h.below (bel2 _ _ _)) (k.below (bel2 _ _ _)) HP.out).mono ?_); rintro e w1 ⟨rfl, B1⟩)))
  go_ret
  exact ⟨ret_bool HR.out, bt (bel2 _ _ _) B1⟩
end Go.Proofs.Ytbendmhcimadpaa

/-
  What nat.Cmp and nat.Len do, for all slices of limbs.
-/
import Derived.Test.YtbendmhcimadpaaCut
import Derived.Test.YtbendmhcimadpaaBits
namespace Go.Proofs.Ytbendmhcimadpaa
open Go.RowKit
set_option linter.unusedVariables false

theorem cmpI_symm_lt {a b : Nat} (h : a < b) : cmpI (a : Int) (b : Int) = -1 := cmpI_lt (by omega)

set_option maxHeartbeats 1000000 in
theorem cmp_core (w : World) (b1 b2 : Nat) (A1 A2 : Option Addr) (n m c1 c2 : Nat) (xs ys : List Nat) (n' m' : Nat) (h1 : Sl w b1 A1 n' c1 xs) (h2 : Sl w b2 A2 m' c2 ys)
    (HC1 : Hid (Calls Try.prog 55 #[.slice A1 n c1] w fun e w' => e = .returned (.slice A1 n' c1) ∧ w = w'))
    (HC2 : Hid (Calls Try.prog 55 #[.slice A2 m c2] w fun e w' => e = .returned (.slice A2 m' c2) ∧ w = w'))
    (hne : n' ≠ m' → cmpI (n' : Int) (m' : Int) = cmpI (val xs : Nat) (val ys : Nat)) :
    Calls Try.prog 40 #[.slice A1 n c1, .slice A2 m c2] w fun e w' => e = .returned (.int .i64 (cmpI (val xs : Nat) (val ys : Nat))) ∧ ∃ q, w' = w.drewN q := by
  have hb1 := h1.big
  have hb2 := h2.big
  have hl1 := Lib.hid h1.len
  have hl2 := Lib.hid h2.len
  by_cases heq : n' = m'
  · subst heq
    clear hne
    have hne' : ((n' : Int) != (n' : Int)) = false := by simp
    go_enter Try.func40, Try.ntmps40
    go_wp2_with (first
      | (go_at_call 55; ((with_reducible refine HC1.out.mono ?_); rintro e w' ⟨rfl, rfl⟩))
      | (go_at_call 55; ((with_reducible refine HC2.out.mono ?_); rintro e w' ⟨rfl, rfl⟩)))
    clear HC1 HC2
    go_loopw [23] (fun i wr => ∃ k q : Nat, k ≤ n' ∧ i = .int .i64 k ∧ wr = w.drewN q ∧ val (xs.drop (n' - k)) = val (ys.drop (n' - k))) (fun i _ => n' - (intOf i).toNat)
    case atStart => exact ⟨0, 0, Nat.zero_le _, rfl, rfl, by rw [List.drop_of_length_le (by rw [hl1.out]; omega), List.drop_of_length_le (by rw [hl2.out]; omega)]⟩
    case round =>
      obtain ⟨k, q, hk, rfl, rfl, hz⟩ := hrel
      have HZ := Lib.hid hz
      clear hz
      by_cases hlt : k < n'
      · obtain ⟨o1, rfl, hc1⟩ := h1.at (by omega)
        obtain ⟨o2, rfl, hc2⟩ := h2.at (by omega)
        have g1 := hc1 (n' - 1 - k) (by omega)
        have g2 := hc2 (n' - 1 - k) (by omega)
        clear hc1 hc2
        have HX := Lib.hid (val_limb_cases h1.lim h2.lim hl1.out hl2.out hlt HZ.out)
        revert g1 g2 HX
        generalize xs.getD (n' - 1 - k) 0 = x
        generalize ys.getD (n' - 1 - k) 0 = y
        intro g1 g2 HX
        have i1 : ((n' : Int) - 1 - k).toNat = n' - 1 - k := by omega
        by_cases hxy : x = y
        · subst hxy
          go_wp2
          go_quiet (fail)
          go_wp2
          go_roundw
          case rel => exact ⟨k + 1, _, by omega, by go_num, rfl, by rw [show n' - (k + 1) = n' - 1 - k by omega]; exact HX.out.2.2 (by first | trivial | rfl)⟩
          case measure => simp [intOf]; omega
        · have HR : Hid (cmpI (x : Int) (y : Int) = cmpI (val xs : Nat) (val ys : Nat)) := by
            rcases Nat.lt_or_gt_of_ne hxy with h | h
            · exact (cmpI_lt (by omega)).trans (cmpI_lt (by have := HX.out.1 h; omega)).symm
            · exact (cmpI_gt (by omega)).trans (cmpI_gt (by have := HX.out.2.1 h; omega)).symm
          have hxy' : ((x : Int) != (y : Int)) = true := by simp; omega
          clear hxy HX
          go_wp2
          go_quiet (fail)
          go_wp2
          go_quiet ((go_at_call 56; first | exact quiet_add_left (compareU_any _ _ _) | exact quiet_left (compareU_any _ _ _)))
          go_wp2
          go_ret
          exact ⟨ret_int HR.out, _, by rw [World.drewN_drewN, World.drewN_drewN]⟩
      · go_wp2
        go_ret
        have hkn : k = n' := by omega
        subst hkn
        have e := HZ.out
        rw [Nat.sub_self, List.drop_zero, List.drop_zero] at e
        exact ⟨ret_int (cmpI_eq (by omega)).symm, _, rfl⟩
  · have hne' : ((n' : Int) != (m' : Int)) = true := by simp; omega
    have HN := Lib.hid (hne heq)
    clear hne heq
    go_enter Try.func40, Try.ntmps40
    go_wp2_with (first
      | (go_at_call 55; ((with_reducible refine HC1.out.mono ?_); rintro e w' ⟨rfl, rfl⟩))
      | (go_at_call 55; ((with_reducible refine HC2.out.mono ?_); rintro e w' ⟨rfl, rfl⟩))
      | (go_at_call 39; ((with_reducible refine (compareInt_any _ _ _).mono ?_); rintro e w' ⟨rfl, rfl⟩)))
    go_ret
    exact ⟨ret_int HN.out, 0, rfl⟩

theorem cmp_any (w : World) (b1 b2 : Nat) (A1 A2 : Option Addr) (n m c1 c2 : Nat) (xs ys : List Nat) (h1 : Sl w b1 A1 n c1 xs) (h2 : Sl w b2 A2 m c2 ys) :
    Calls Try.prog 40 #[.slice A1 n c1, .slice A2 m c2] w fun e w' => e = .returned (.int .i64 (cmpI (val xs : Nat) (val ys : Nat))) ∧ ∃ q, w' = w.drewN q := by
  have s1 := h1.take (k := (limbs (val xs)).length) (by have := val_limbs_le h1.lim; have := h1.len; omega)
  have s2 := h2.take (k := (limbs (val ys)).length) (by have := val_limbs_le h2.lim; have := h2.len; omega)
  rw [limbs_prefix h1.lim] at s1
  rw [limbs_prefix h2.lim] at s2
  have := cmp_core w b1 b2 A1 A2 n m c1 c2 _ _ _ _ s1 s2 (cut_any w b1 A1 n c1 xs h1) (cut_any w b2 A2 m c2 ys h2) (fun hne => by
    rw [val_limbs, val_limbs]
    rcases Nat.lt_or_gt_of_ne hne with h | h
    · exact (cmpI_lt (by omega)).trans (cmpI_lt (by have := limbs_length_lt_of_lt h; omega)).symm
    · exact (cmpI_gt (by omega)).trans (cmpI_gt (by have := limbs_length_lt_of_lt h; omega)).symm)
  rw [val_limbs, val_limbs] at this
  exact this

end Go.Proofs.Ytbendmhcimadpaa

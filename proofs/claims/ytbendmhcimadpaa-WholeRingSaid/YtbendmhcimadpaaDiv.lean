/-
  What nat.Div does, for all slices of limbs that are not too long for any machine.
-/
import Derived.Test.YtbendmhcimadpaaLong
namespace Go.Proofs.Ytbendmhcimadpaa
open Go.RowKit
set_option linter.unusedVariables false

/-- A quotient, what is left, and true. -/
def Ret3 (w : World) (lq lr : List Nat) (e : Ending) (w' : World) : Prop :=
  ∃ A1 c1 A2 c2, e = .returned (.tuple #[.slice A1 lq.length c1, .slice A2 lr.length c2, .bool true]) ∧ Out w' lq A1 c1 ∧ Out w' lr A2 c2 ∧ Below w.heap.size w w'

set_option maxHeartbeats 400000 in
theorem div_zero (w : World) (b1 b2 : Nat) (A1 A2 : Option Addr) (n m c1 c2 : Nat) (xs ys : List Nat) (h1 : Sl w b1 A1 n c1 xs) (h2 : Sl w b2 A2 m c2 ys) (h0 : val ys = 0) :
    Calls Try.prog 42 #[.slice A1 n c1, .slice A2 m c2] w fun e w' => e = .returned (.tuple #[.slice none 0 0, .slice none 0 0, .bool false]) ∧ w = w' := by
  have HC1 := Lib.hid (cut_any w b1 A1 n c1 xs h1)
  have HC2 := cut_any w b2 A2 m c2 ys h2
  rw [h0, limbs_zero] at HC2
  have HC2 := Lib.hid HC2
  clear h1 h2 h0
  go_enter Try.func42, Try.ntmps42
  go_wp2_with (first
    | (go_at_call 55; ((with_reducible refine HC1.out.mono ?_); rintro e w' ⟨rfl, rfl⟩))
    | (go_at_call 55; ((with_reducible refine HC2.out.mono ?_); rintro e w' ⟨rfl, rfl⟩)))
  go_ret3
  exact ⟨rfl, rfl⟩

set_option maxHeartbeats 1000000 in
theorem div_core (w : World) (b1 b2 : Nat) (A1 A2 : Option Addr) (n m c1 c2 p q : Nat) (la lb : List Nat) (h1 : Sl w b1 A1 p c1 la) (h2 : Sl w b2 A2 q c2 lb)
    (HC1 : Hid (Calls Try.prog 55 #[.slice A1 n c1] w fun e w' => e = .returned (.slice A1 p c1) ∧ w = w'))
    (HC2 : Hid (Calls Try.prog 55 #[.slice A2 m c2] w fun e w' => e = .returned (.slice A2 q c2) ∧ w = w'))
    (hp : p ≤ 549755813888) (hq : 0 < q) (hy : lb.getD (q - 1) 0 ≠ 0) (hpq : ¬ val la < val lb → q ≤ p) :
    Calls Try.prog 42 #[.slice A1 n c1, .slice A2 m c2] w (Ret3 w (limbs (val la / val lb)) (limbs (val la % val lb))) := by
  have hqb := h2.big
  have hq0 : ((q : Int) == 0) = false := by simp; omega
  have HM := Lib.hid (cmp_any w b1 b2 A1 A2 p q c1 c2 la lb h1 h2)
  by_cases hlt : val la < val lb
  · have HQ : Hid (val la / val lb = 0) := Nat.div_eq_of_lt hlt
    have HR : Hid (val la % val lb = val la) := Nat.mod_eq_of_lt hlt
    have hm := HM.out
    rw [cmpI_lt (by omega)] at hm
    clear HM
    have HM := Lib.hid hm
    clear hm hlt hpq hy
    go_enter Try.func42, Try.ntmps42
    go_wp2_with (first
      | (go_at_call 55; ((with_reducible refine HC1.out.mono ?_); rintro e w' ⟨rfl, rfl⟩))
      | (go_at_call 55; ((with_reducible refine HC2.out.mono ?_); rintro e w' ⟨rfl, rfl⟩))
      | (go_at_call 40; ((with_reducible refine HM.out.mono ?_); rintro e w' ⟨rfl, t, rfl⟩))
      | (go_at_call 49; ((with_reducible refine (trim_any _ b1 A1 p c1 la (h1.drewN _)).mono ?_); rintro e w2 ⟨g, A, c, rfl, hm2, hb2⟩)))
    go_ret3
    rw [HQ.out, HR.out, limbs_zero]
    exact ⟨none, 0, A, c, rfl, ⟨0, Sl.nil⟩, ⟨g, hm2.1⟩, (below_drewN (Below.refl _ _) _).trans hb2⟩
  · obtain ⟨z, hz, hz0⟩ := cmpI_ge (a := val la) (b := val lb) (by omega)
    have hm := HM.out
    rw [hz] at hm
    clear HM hz
    have HM := Lib.hid hm
    have hle := hpq hlt
    clear hm hpq hlt
    by_cases hq1 : q = 1
    · subst hq1
      obtain ⟨o2, rfl, hc2⟩ := h2.at (by omega)
      have hcell := hc2 0 (by omega)
      rw [Nat.add_zero] at hcell
      have bx := h2.lim.getD 0
      have HV : Hid (val lb = lb.getD 0 0) := by
        have := val_take_succ (xs := lb) (k := 0) (by rw [h2.len]; omega)
        rw [val_take_all (by rw [h2.len]; omega)] at this
        show _ = _
        rw [this]; simp [val]
      have hd0 : 0 < lb.getD 0 0 := Nat.pos_of_ne_zero hy
      have hk := fun W hW => divLimb_any W b1 p c1 A1 la (lb.getD 0 0) hW hd0 bx
      rw [← HV.out] at hk
      have HK := Lib.hid hk
      clear hk hc2 hy bx hd0
      rw [HV.out] at HK
      revert hcell HK HV
      generalize lb.getD 0 0 = d
      intro hcell HV HK
      have hq1' : (((1 : Nat) : Int) == 1) = true := rfl
      go_enter Try.func42, Try.ntmps42
      go_wp2_with (first
        | (go_at_call 55; ((with_reducible refine HC1.out.mono ?_); rintro e w' ⟨rfl, rfl⟩))
        | (go_at_call 55; ((with_reducible refine HC2.out.mono ?_); rintro e w' ⟨rfl, rfl⟩))
        | (go_at_call 40; ((with_reducible refine HM.out.mono ?_); rintro e w' ⟨rfl, t, rfl⟩))
        | (go_at_call 58; ((with_reducible refine (HK.out _ (h1.drewN _)).mono ?_); rintro e w2 ⟨A3, c3, A4, c4, rfl, hm3, hm4, hb2⟩)))
      go_ret3
      rw [HV.out]
      exact ⟨A3, c3, A4, c4, rfl, hm3, hm4, (below_drewN (Below.refl _ _) _).trans hb2⟩
    · obtain ⟨k, rfl⟩ : ∃ k, p = k + q := ⟨p - q, by omega⟩
      have hq1' : ((q : Int) == 1) = false := by simp; omega
      have HK := Lib.hid (fun W hW1 hW2 => divLong_any W b1 b2 A1 A2 k q c1 c2 la lb hW1 hW2 (by omega) hy hp)
      clear hy hq1
      go_enter Try.func42, Try.ntmps42
      go_wp2_with (first
        | (go_at_call 55; ((with_reducible refine HC1.out.mono ?_); rintro e w' ⟨rfl, rfl⟩))
        | (go_at_call 55; ((with_reducible refine HC2.out.mono ?_); rintro e w' ⟨rfl, rfl⟩))
        | (go_at_call 40; ((with_reducible refine HM.out.mono ?_); rintro e w' ⟨rfl, t, rfl⟩))
        | (go_at_call 59; ((with_reducible refine (HK.out _ (h1.drewN _) (h2.drewN _)).mono ?_); rintro e w2 ⟨A3, c3, A4, c4, rfl, hm3, hm4, hb2⟩)))
      go_ret3
      exact ⟨A3, c3, A4, c4, rfl, hm3, hm4, (below_drewN (Below.refl _ _) _).trans hb2⟩

theorem div_any (w : World) (b1 b2 : Nat) (A1 A2 : Option Addr) (n m c1 c2 : Nat) (xs ys : List Nat) (h1 : Sl w b1 A1 n c1 xs) (h2 : Sl w b2 A2 m c2 ys) (hn : n ≤ 549755813888) (h0 : val ys ≠ 0) :
    Calls Try.prog 42 #[.slice A1 n c1, .slice A2 m c2] w (Ret3 w (limbs (val xs / val ys)) (limbs (val xs % val ys))) := by
  have hpos : 0 < (limbs (val ys)).length := Nat.pos_of_ne_zero fun e => h0 (limbs_length_zero.1 e)
  have := div_core w b1 b2 A1 A2 n m c1 c2 _ _ _ _ (cut_sl h1) (cut_sl h2) (cut_any w b1 A1 n c1 xs h1) (cut_any w b2 A2 m c2 ys h2)
    (by have := val_limbs_le h1.lim; have := h1.len; omega) hpos (limbs_last h0) (fun h => by rw [val_limbs, val_limbs] at h; exact limbs_length_mono (by omega))
  rwa [val_limbs, val_limbs] at this
end Go.Proofs.Ytbendmhcimadpaa

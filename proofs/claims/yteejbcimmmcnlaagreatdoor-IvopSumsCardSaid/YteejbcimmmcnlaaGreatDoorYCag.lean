/-
  Contracts and words that the statement's proof rests on, several texts in one: Len, Shl.
-/
import Derived.Test.YteejbcimmmcnlaaGreatDoorYCad
import Derived.Test.YteejbcimmmcnlaaGreatDoorYCaf
/-
  What nat.Len does, for every slice of limbs.
-/
namespace Go.Proofs.YteejbcimmmcnlaaGreatDoor
open Go.RowKit
set_option linter.unusedVariables false

set_option maxHeartbeats 400000 in
theorem len_core (w : World) (b o n k c x L : Nat) (HC : Hid (Calls Tryz.prog 159 #[.slice (some ⟨b, o, none⟩) n c] w fun e w' => e = .returned (.slice (some ⟨b, o, none⟩) k c) ∧ w = w'))
    (hbig : k ≤ 1099511627776) (hpos : k ≠ 0) (hck : w.cell? ⟨b, o + (k - 1), none⟩ = some (.int .u32 (x : Int))) (hlt : x < 4294967296) (HB : Hid (L = (k - 1) * 32 + blen x)) :
    Calls Tryz.prog 144 #[.slice (some ⟨b, o, none⟩) n c] w fun e w' => e = .returned (.int .i64 (L : Int)) ∧ w = w' := by
  have hx := blen_mono_le (n := x) (k := 32) hlt
  have hk0 : ((k : Int) == 0) = false := by simpa using hpos
  have i1 : ((k : Int) - 1).toNat = k - 1 := by omega
  go_enter Tryz.func144, Tryz.ntmps144
  go_wp2_with (first
    | (go_at_call 159; ((with_reducible refine HC.out.mono ?_); rintro e w' ⟨rfl, rfl⟩))
    | (go_at_call 175; ((with_reducible refine (len32_any x hlt _).mono ?_); rintro e w' ⟨rfl, rfl⟩)))
  go_ret
  have e := HB.out; exact ⟨ret_int (by omega), rfl⟩

set_option maxHeartbeats 400000 in
theorem len_any (w : World) (b : Nat) (A : Option Addr) (n c : Nat) (xs : List Nat) (h : Sl w b A n c xs) :
    Calls Tryz.prog 144 #[.slice A n c] w fun e w' => e = .returned (.int .i64 (blen (val xs) : Int)) ∧ w = w' := by
  have hle := val_limbs_le h.lim; have hlen := h.len; have hsl := h.take (k := (limbs (val xs)).length) (by omega); rw [limbs_prefix h.lim] at hsl; have HC := Lib.hid (cut_any w b A n c xs h); have hbig := hsl.big
  by_cases h0 : val xs = 0
  · rw [h0] at HC ⊢; rw [limbs_zero] at HC; clear hbig hsl hlen hle h h0
    go_enter Tryz.func144, Tryz.ntmps144
    go_wp2_with (go_at_call 159; ((with_reducible refine HC.out.mono ?_); rintro e w' ⟨rfl, rfl⟩))
    go_ret
    exact ⟨ret_int (by rw [blen_zero]; rfl), rfl⟩
  · have HB := Lib.hid (blen_limbs h0)
    have hpos : (limbs (val xs)).length ≠ 0 := fun e => h0 (limbs_length_zero.1 e)
    obtain ⟨o, rfl, hc⟩ := hsl.at (by omega); exact len_core w b o n _ c _ _ HC hbig hpos (hc _ (by omega)) ((lim_limbs (val xs)).getD _) HB
end Go.Proofs.YteejbcimmmcnlaaGreatDoor

/-
  What nat.Shl does, for all slices of limbs that are not too long for any machine.
-/
namespace Go.Proofs.YteejbcimmmcnlaaGreatDoor
open Go.RowKit
set_option linter.unusedVariables false

set_option maxHeartbeats 400000 in
theorem shl_low (w : World) (b : Nat) (A : Option Addr) (n c : Nat) (xs : List Nat) (z : Int) (h : Sl w b A n c xs) (hz : z < 1) :
    Calls Tryz.prog 147 #[.slice A n c, .int .i64 z] w (Ret1 w (limbs (val xs))) := by
  have HT := Lib.hid (trim_any w b A n c xs h)
  go_enter Tryz.func147, Tryz.ntmps147
  go_wp2_with (go_at_call 120; ((with_reducible refine HT.out.mono ?_); rintro e w4 ⟨g4, A4, c4, rfl, hm4, hb4⟩))
  go_ret
  exact ⟨g4, A4, c4, rfl, hm4, hb4⟩

set_option maxHeartbeats 400000 in
theorem shl_mid (w : World) (b : Nat) (A : Option Addr) (n c : Nat) (xs : List Nat) (z : Int) (h : Sl w b A n c xs) (hz : 1 ≤ z) (hz2 : z ≤ 16777216) (hn : n ≤ 549755813888) :
    Calls Tryz.prog 147 #[.slice A n c, .int .i64 z] w (Ret1 w (limbs (val xs * 2 ^ z.toNat))) := by
  have HT := Lib.hid (raised_any w b n c A xs z (z / 32).toNat (z % 32).toNat h (by omega) (by omega) (by omega) (by omega) (by omega))
  have e : 32 * (z / 32).toNat + (z % 32).toNat = z.toNat := by omega
  unfold RaisedPost at HT
  rw [e] at HT; clear e
  have hs : n + (z / 32).toNat + 1 ≤ 1099511627776 := by omega
  revert HT hs
  generalize n + (z / 32).toNat + 1 = L
  intro HT hs
  go_enter Tryz.func147, Tryz.ntmps147
  go_wp2_with (go_at_call 178; ((with_reducible refine HT.out.mono ?_); rintro e w3 ⟨g, l, rfl, hg, hown, hlen, hlim, hv, hb⟩))
  have hS := hown.all hlim (by omega) (c := L) (by omega); rw [hlen] at hS; have HV := Lib.hid hv; have HB := Lib.hid hb; clear hown hlen hlim hv hb HT
  go_wp2_with (go_at_call 120; ((with_reducible refine (trim_any w3 g _ L L l hS).mono ?_); rintro e w4 ⟨g4, A4, c4, rfl, hm4, hb4⟩))
  go_ret
  rw [HV.out] at hm4; rw [HV.out]; exact Ret1.of hm4 hb4 HB.out

/-- Any shift that may be. -/
theorem shl_any (w : World) (b : Nat) (A : Option Addr) (n c : Nat) (xs : List Nat) (s : Nat) (h : Sl w b A n c xs) (hz2 : s ≤ 16777216) (hn : n ≤ 549755813888) :
    Calls Tryz.prog 147 #[.slice A n c, .int .i64 (s : Int)] w (Ret1 w (limbs (val xs * 2 ^ s))) := by
  by_cases h0 : s = 0
  · subst h0; rw [Nat.pow_zero, Nat.mul_one]; exact shl_low w b A n c xs _ h (by omega)
  · have := shl_mid w b A n c xs (s : Int) h (by omega) (by omega) hn
    rwa [Int.toNat_natCast] at this
end Go.Proofs.YteejbcimmmcnlaaGreatDoor

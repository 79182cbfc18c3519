/-
  What nat.raised does, for all slices of limbs that are not too long for any machine.
-/
import Derived.Test.YtbendmhcimadpaaSum
namespace Go.Proofs.Ytbendmhcimadpaa
open Go.RowKit
set_option linter.unusedVariables false

/-- A block that holds the first i limbs, raised, and noughts behind them. -/
def RaiseInv (w : World) (g n sk lo : Nat) (xs : List Nat) (i : Nat) (wr : World) : Prop :=
  ∃ hs : List Nat, ∃ t : Nat, hs.length = i + sk ∧ Lim hs ∧ t < 2 ^ lo ∧ Own wr g (hs ++ [t] ++ List.replicate (n - i) 0) ∧ w.grownBy wr (some g) ∧ val (hs ++ [t]) = val (xs.take i) * 2 ^ (32 * sk + lo)

theorem pow_split (sk lo : Nat) : 2 ^ (32 * sk + lo) = 4294967296 ^ sk * 2 ^ lo := by rw [Nat.pow_add, Nat.pow_mul]

theorem lo_dvd {lo x : Nat} (hlo : lo < 32) : x * 2 ^ lo % 4294967296 % 2 ^ lo = 0 := by
  have e : 4294967296 = 2 ^ lo * 2 ^ (32 - lo) := by rw [← Nat.pow_add, show lo + (32 - lo) = 32 by omega]
  rw [e, Nat.mod_mul_right_mod, Nat.mul_mod_left]

theorem lo_sum {lo x t : Nat} (hlo : lo < 32) (ht : t < 2 ^ lo) : t + x * 2 ^ lo % 4294967296 < 4294967296 := by
  have e : 4294967296 = 2 ^ lo * 2 ^ (32 - lo) := by rw [← Nat.pow_add, show lo + (32 - lo) = 32 by omega]
  have h1 : x * 2 ^ lo % 4294967296 < 4294967296 := Nat.mod_lt _ (by decide)
  have h2 := lo_dvd (x := x) hlo
  obtain ⟨q, hq⟩ := Nat.dvd_of_mod_eq_zero h2
  rw [hq] at h1 ⊢
  rw [e] at h1
  have h3 : q < 2 ^ (32 - lo) := Nat.lt_of_mul_lt_mul_left h1
  have h4 := Nat.mul_le_mul_left (2 ^ lo) (show q + 1 ≤ 2 ^ (32 - lo) from h3)
  rw [← e, Nat.mul_add, Nat.mul_one] at h4
  omega

/-- The numbers of a round. -/
theorem raise_nums {x t lo : Nat} (hlo : lo < 32) (ht : t < 2 ^ lo) (hx : x < 4294967296) :
    ∃ p pl ph v : Nat, Hid (p = x * 2 ^ lo) ∧ Hid (pl = p % 4294967296) ∧ Hid (ph = p / 4294967296) ∧ Hid (v = t + pl) ∧ Hid (v < 4294967296) ∧ Hid (ph < 2 ^ lo) ∧ IntKind.u64.wrap ((x : Int) * 2 ^ lo) = p ∧ (p : Int) % 4294967296 = pl ∧
      (p : Int) / 4294967296 % 4294967296 = ph ∧ bits BinOp.or IntKind.u32 (t : Int) (pl : Int) = v := by
  have hp : 2 ^ lo ≤ 2147483648 := Nat.pow_le_pow_right (n := 2) (by decide) (show lo ≤ 31 by omega)
  have hb : x * 2 ^ lo ≤ 4294967295 * 2147483648 := Nat.mul_le_mul (by omega) hp
  have hl := lo_sum (x := x) hlo ht
  have hph : x * 2 ^ lo / 4294967296 < 2 ^ lo := by
    rw [Nat.div_lt_iff_lt_mul (by decide), Nat.mul_comm]
    exact Nat.mul_lt_mul_of_pos_left hx (Nat.two_pow_pos lo)
  refine ⟨x * 2 ^ lo, x * 2 ^ lo % 4294967296, x * 2 ^ lo / 4294967296, t + x * 2 ^ lo % 4294967296, rfl, rfl, rfl, rfl, hl, hph, ?_, by omega, by omega, ?_⟩
  · have := wrap_u64_nat (x * 2 ^ lo) (by omega)
    simpa using this
  · rw [u32_or_nat _ _ (by omega) (by omega), Nat.or_comm, nat_join lo _ _ (lo_dvd hlo) ht, Nat.add_comm]

/-- One round. -/
theorem raise_step {w wr : World} {g n sk lo k x : Nat} {xs hs : List Nat} {t p pl ph v : Nat} (hk : k < n) (hl : xs.length = n) (hhs : hs.length = k + sk) (hsl : Lim hs) (hown : Own wr g (hs ++ [t] ++ List.replicate (n - k) 0)) (hgr : w.grownBy wr (some g))
    (hv : val (hs ++ [t]) = val (xs.take k) * 2 ^ (32 * sk + lo)) (hx : xs.getD k 0 = x) (hp : p = x * 2 ^ lo) (hpl : pl = p % 4294967296) (hph : ph = p / 4294967296) (hvv : v = t + pl) (hvb : v < 4294967296) (hpb : ph < 2 ^ lo) :
    RaiseInv w g n sk lo xs (k + 1) ((wr.setCell ⟨g, k + sk, none⟩ (.int .u32 (v : Int))).setCell ⟨g, k + sk + 1, none⟩ (.int .u32 (ph : Int))) := by
  refine ⟨hs ++ [v], ph, by simp; omega, hsl.append (Lim.cons hvb Lim.nil), hpb, ?_, grown_set (grown_set hgr _) _, ?_⟩
  · have h1 := (hown.set (k + sk) v).set (k + sk + 1) ph
    have e : ((hs ++ [t] ++ List.replicate (n - k) 0).set (k + sk) v).set (k + sk + 1) ph = hs ++ [v] ++ [ph] ++ List.replicate (n - (k + 1)) 0 := by
      rw [List.append_assoc, List.set_append_right _ _ (by omega), List.set_append_right _ _ (by omega), hhs, Nat.sub_self, show k + sk + 1 - (k + sk) = 1 by omega, show n - k = n - (k + 1) + 1 by omega, List.replicate_succ]
      simp
    rw [e] at h1
    exact h1
  · have e := Nat.mod_add_div p 4294967296
    rw [← hpl, ← hph] at e
    rw [val_take_succ (by omega), hx, pow_split] at *
    rw [val_snoc] at hv ⊢
    rw [val_snoc, List.length_append, List.length_singleton, hhs, Nat.pow_succ]
    rw [hhs] at hv
    have e1 : 4294967296 ^ (k + sk) * (pl + 4294967296 * ph) = 4294967296 ^ (k + sk) * (x * 2 ^ lo) := by rw [e, hp]
    rw [Nat.pow_add] at *
    rw [hvv]
    grind

/-- What raised answers. -/
def RaisedPost (w : World) (n sk lo : Nat) (xs : List Nat) (e : Ending) (w' : World) : Prop :=
  ∃ g l, e = .returned (.slice (some ⟨g, 0, none⟩) (n + sk + 1) (n + sk + 1)) ∧ w.heap.size ≤ g ∧ Own w' g l ∧ l.length = n + sk + 1 ∧ Lim l ∧ val l = val xs * 2 ^ (32 * sk + lo) ∧ Below w.heap.size w w'

set_option maxHeartbeats 1000000 in
theorem raised_any (w : World) (b n c : Nat) (A : Option Addr) (xs : List Nat) (z : Int) (sk lo : Nat) (h : Sl w b A n c xs) (hz0 : 0 ≤ z) (hq : z / 32 = (sk : Int)) (hr : z % 32 = (lo : Int)) (hlo : lo < 32) (hbig : n + sk + 1 ≤ 1099511627776) :
    Calls Try.prog 70 #[.slice A n c, .int .i64 z] w (RaisedPost w n sk lo xs) := by
  have H1 := Lib.hid h.len
  have hmk := fun W => run_make32' (n + sk + 1) ((n : Int) + sk + 1) (by omega) (by omega) W
  have hal : Below w.heap.size w (w.alloc (.cells (arr (List.replicate (n + sk + 1) 0)) 54)) := (Below.refl _ _).alloc (Nat.le_refl _) _
  go_enter Try.func70, Try.ntmps70
  go_wp2
  clear hmk
  go_loopw [22] (fun i wr => ∃ k : Nat, k ≤ n ∧ i = .int .i64 k ∧ RaiseInv (w.alloc (.cells (arr (List.replicate (n + sk + 1) 0)) 54)) w.heap.size n sk lo xs k wr) (fun i _ => n - (intOf i).toNat)
  case atStart =>
    refine ⟨0, Nat.zero_le _, rfl, List.replicate sk 0, 0, by simp, Lim.replicate _, Nat.two_pow_pos lo, ?_, grown_refl _ _, by rw [val_snoc, val_zeros]; simp [val]⟩
    have := Own.new w (List.replicate (n + sk + 1) 0)
    rwa [show n + sk + 1 = sk + 1 + (n - 0) by omega, ← List.replicate_append_replicate, ← List.replicate_append_replicate] at this ⊢
  case round =>
    obtain ⟨k, hk, rfl, hI⟩ := hrel
    have HI := Lib.hid hI
    clear hI
    by_cases hlt : k < n
    · obtain ⟨hs, t, hhs, hsl, ht, hown, hgr, hv⟩ := HI.out
      have hbw := grown_of_new hal hgr
      obtain ⟨o1, rfl, hc1⟩ := (h.below hbw).at (by omega)
      have hcell := hc1 k hlt
      have bx := h.lim.getD k
      have hlen : (hs ++ [t] ++ List.replicate (n - k) 0).length = n + sk + 1 := by simp; omega
      have hcg := hown.cell (i := k + sk) (by omega)
      have e0 : (hs ++ [t] ++ List.replicate (n - k) 0).getD (k + sk) 0 = t := by
        rw [List.append_assoc, List.getD_eq_getElem?_getD, List.getElem?_append_right (by omega), hhs, Nat.sub_self]; rfl
      rw [e0] at hcg
      have hcf := hown.frozen (k + sk)
      have hcg2 := hown.cell (i := k + sk + 1) (by omega)
      have hcf2 := hown.frozen (k + sk + 1)
      obtain ⟨q, hq2⟩ : ∃ q, (hs ++ [t] ++ List.replicate (n - k) 0).getD (k + sk + 1) 0 = q := ⟨_, rfl⟩
      rw [hq2] at hcg2
      obtain ⟨p, pl, ph, v, E1, E2, E3, E4, E5, E6, e1, e2, e3, e4⟩ := raise_nums hlo ht bx
      have HS := Lib.hid (raise_step hlt H1.out hhs hsl hown hgr hv rfl E1.out E2.out E3.out E4.out E5.out E6.out)
      clear hc1 hv hown hgr hhs hsl hlen e0 E1 E2 E3 E4 E5 E6 ht hq2 HI
      revert hcell bx e1
      generalize xs.getD k 0 = x
      intro hcell bx e1
      go_wp2
      go_roundw
      case rel => exact ⟨k + 1, by omega, by go_num, HS.out⟩
      case measure => simp [intOf]; omega
    · have hkn : k = n := by omega
      subst hkn
      obtain ⟨hs, t, hhs, hsl, ht, hown, hgr, hv⟩ := HI.out
      rw [Nat.sub_self, List.replicate_zero, List.append_nil] at hown
      rw [val_take_all (xs := xs) (by rw [H1.out]; omega)] at hv
      have ht' : t < 4294967296 := Nat.lt_of_lt_of_le ht (Nat.pow_le_pow_right (n := 2) (by decide) (show lo ≤ 32 by omega))
      have HP : Hid (RaisedPost w k sk lo xs (.returned (.slice (some ⟨w.heap.size, 0, none⟩) (k + sk + 1) (k + sk + 1))) wr) := ⟨w.heap.size, hs ++ [t], rfl, Nat.le_refl _, hown, by simp; omega, hsl.append (Lim.cons ht' Lim.nil), hv, grown_of_new hal hgr⟩
      clear hown hgr hv hhs hsl ht ht' HI
      go_wp2
      go_ret
      exact HP.out
end Go.Proofs.Ytbendmhcimadpaa

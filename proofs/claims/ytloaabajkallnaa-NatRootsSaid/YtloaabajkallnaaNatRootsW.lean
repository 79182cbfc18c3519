/-
  The walk of NatRoots: for all arguments, the call answers true, and nothing that was there has turned.
-/
import Derived.Test.YtloaabajkallnaaLaw
namespace Go.Proofs.Ytloaabajkallnaa
open Go.RowKit
set_option linter.unusedVariables false

set_option maxHeartbeats 4000000 in
theorem natRoots_walk (a0 : Option Addr) (len0 cap0 : Nat) (z0 : List Int) (w : World) (w0 : RowIn w a0 len0 cap0 z0) :
    Calls Try.prog 8 #[.slice a0 len0 cap0] w fun e w' => e = .returned (.bool true) ∧ Below w.heap.size w w' := by
  have l0 := w0.len
  by_cases hf : len0 ≤ 20
  · obtain ⟨a, sa⟩ := w0.rd (by omega)
    have ht : decide ((20 : Int) < len0) = false := by simp; omega
    clear w0
    obtain ⟨k1, k2⟩ := rt_spec a
    have HK : Hid (rt a * rt a ≤ a ∧ a < (rt a + 1) * (rt a + 1)) := ⟨k1, k2⟩
    have HR2 : Hid (rt (a * a) = a) := (rt_uniq (Nat.le_refl _) (by rw [Nat.add_mul, Nat.mul_add]; omega)).symm

    clear k1 k2
    obtain ⟨s, hs⟩ : ∃ s, rt a = s := ⟨_, rfl⟩
    rw [hs] at HK
    have HS := Lib.hid hs
    clear hs
    have HG : Hid (cmpI (((s + 1) * (s + 1) : Nat) : Int) (a : Int) = 1) := cmpI_gt (by have := HK.out.2; omega)
    obtain ⟨t, ht2⟩ : ∃ t : Bool, decide (s * s = a) = t := ⟨_, rfl⟩
    obtain ⟨z, hz, hz0, hzt⟩ : ∃ z : Int, cmpI ((s * s : Nat) : Int) (a : Int) = z ∧ z ≤ 0 ∧ (z == 0) = t := by
      rw [← ht2]
      rcases Nat.lt_or_ge (s * s) a with e | e
      · exact ⟨-1, cmpI_lt (by omega), by omega, by simp; omega⟩
      · have : s * s = a := by have := HK.out.1; omega
        exact ⟨0, cmpI_eq (by omega), by omega, by simp [this]⟩
    have HT := Lib.hid ht2
    have HZ := Lib.hid hz
    clear ht2 hz HK
    have HL1 : Hid (∀ W : World, Rd (W.alloc (.cells #[.int .u32 1] 36)) (some ⟨W.heap.size, 0, none⟩) 1 1 1) := fun W => ⟨_, _, one_limb W, by simp [val]⟩
    go_enter Try.func8, Try.ntmps8
    go_wp2_with (first
      | (go_at_call 12; ((with_reducible refine (awake_any _).mono ?_); rintro e w1 ⟨rfl, B⟩; replace sa := sa.below B; have HB := Lib.hid B; clear B))
      | (go_at_call 33; ((with_reducible refine (vRootE sa (by omega) HS.out HT.out).mono ?_); rintro e w2 ⟨As, ns, cs, rfl, ss, ks, B⟩; replace sa := sa.below B; replace HB := Lib.hid (HB.out.trans (B.mono HB.out.size)); clear B))
      | (go_at_call 17; ((with_reducible refine (vAdd (ss.below (alloc_below w2 (.cells #[.int .u32 1] 36))).rd (HL1.out w2) (by omega) (by omega)).mono ?_); rintro e w3 ⟨At, nt, ct, rfl, st, kt, B⟩; replace sa := sa.below (alloc_below w2 (.cells #[.int .u32 1] 36)); replace ss := ss.below (alloc_below w2 (.cells #[.int .u32 1] 36)); replace HB := Lib.hid (HB.out.alloc HB.out.size (.cells #[.int .u32 1] 36)); replace sa := sa.below B; replace ss := ss.below B; replace HB := Lib.hid (HB.out.trans (B.mono HB.out.size)); clear B))
      | (go_at_call 19; ((with_reducible refine (vMul ss.rd ss.rd (by omega) (by omega)).mono ?_); rintro e w4 ⟨Am, nm, cm, rfl, sm, km, B⟩; replace sa := sa.below B; replace ss := ss.below B; replace st := st.below B; replace HB := Lib.hid (HB.out.trans (B.mono HB.out.size)); clear B))
      | (go_at_call 23; ((with_reducible refine (vCmpE sm.rd sa HZ.out).mono ?_); rintro e w5 ⟨rfl, B⟩; replace sa := sa.below B; replace ss := ss.below B; replace st := st.below B; replace HB := Lib.hid (HB.out.trans (B.mono HB.out.size)); clear B))
      | (go_at_call 19; ((with_reducible refine (vMul sa sa (by omega) (by omega)).mono ?_); rintro e w6 ⟨Ao, no, co, rfl, so, ko, B⟩; replace sa := sa.below B; replace ss := ss.below B; replace st := st.below B; replace HB := Lib.hid (HB.out.trans (B.mono HB.out.size)); clear B))
      | (go_at_call 33; ((with_reducible refine (vRootE (t := true) so.rd (by omega) HR2.out (decide_eq_true rfl)).mono ?_); rintro e w7 ⟨Ar, nr, cr, rfl, sr, kr, B⟩; replace sa := sa.below B; replace ss := ss.below B; replace st := st.below B; replace HB := Lib.hid (HB.out.trans (B.mono HB.out.size)); clear B))
      | (go_at_call 19; ((with_reducible refine (vMul st.rd st.rd (by omega) (by omega)).mono ?_); rintro e w8 ⟨Ap, np, cp, rfl, sp, kp, B⟩; replace sa := sa.below B; replace sr := sr.below B; replace st := st.below B; replace HB := Lib.hid (HB.out.trans (B.mono HB.out.size)); clear B))
      | (go_at_call 23; ((with_reducible refine (vCmpE sp.rd sa HG.out).mono ?_); rintro e w9 ⟨rfl, B⟩; replace sa := sa.below B; replace sr := sr.below B; replace HB := Lib.hid (HB.out.trans (B.mono HB.out.size)); clear B))
      | (go_at_call 23; ((with_reducible refine (vCmpE sr.rd sa (cmpI_self a)).mono ?_); rintro e w10 ⟨rfl, B⟩; replace sa := sa.below B; replace sr := sr.below B; replace HB := Lib.hid (HB.out.trans (B.mono HB.out.size)); clear B)))
    go_ret
    exact ⟨rfl, HB.out⟩
  · have ht : decide ((20 : Int) < len0) = true := by simp; omega
    clear w0
    go_enter Try.func8, Try.ntmps8
    go_wp2_with (first
      | (go_at_call 12; ((with_reducible refine (awake_any _).mono ?_); rintro e w1 ⟨rfl, B⟩; have HB := Lib.hid B; clear B)))
    go_ret
    exact ⟨rfl, HB.out⟩
end Go.Proofs.Ytloaabajkallnaa

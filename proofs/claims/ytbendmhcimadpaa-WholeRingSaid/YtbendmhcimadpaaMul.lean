/-
  What nat.Mul does, for all slices of limbs that are not too long for any machine.
-/
import Derived.Test.YtbendmhcimadpaaSum
import Derived.Deep.RegionWith
namespace Go.Proofs.Ytbendmhcimadpaa
open Go.RowKit
set_option linter.unusedVariables false

/-- A block that holds the first i rounds' sum, and noughts behind it. -/
def MulsInv (w : World) (g p q : Nat) (la lb : List Nat) (i : Nat) (wr : World) : Prop :=
  ∃ hs : List Nat, hs.length = i + q ∧ Lim hs ∧ Own wr g (hs ++ List.replicate (p - i) 0) ∧ w.grownBy wr (some g) ∧ val hs = val (la.take i) * val lb

/-- One round of a product. -/
theorem mul_round {w wr w3 : World} {g p q k x : Nat} {la lb : List Nat} {hs : List Nat} {e : Ending} (hhs : hs.length = k + q) (hsl : Lim hs) (hown : Own wr g (hs ++ List.replicate (p - k) 0)) (hgr : w.grownBy wr (some g)) (hv : val hs = val (la.take k) * val lb)
    (hk : k < p) (hx : la.getD k 0 = x) (hla : la.length = p) (hp : MulPost wr.drew g k q (hs ++ List.replicate (p - k) 0) lb x e w3) :
    ∃ cy : Nat, e = .returned (.int .u32 (cy : Int)) ∧ w3.cell? ⟨g, k + q, none⟩ = some (.int .u32 0) ∧ w3.frozen? ⟨g, k + q, none⟩ = false ∧
      Hid (MulsInv w g p q la lb (k + 1) (w3.setCell ⟨g, k + q, none⟩ (.int .u32 (cy : Int)))) := by
  obtain ⟨cy, rfl, zs, hz, ht, hcy, hv2⟩ := hp
  have hlen : (hs ++ List.replicate (p - k) 0).length = q + p := by simp; omega
  have hcell := ht.cell (by omega)
  rw [hz] at hcell
  have e0 : (hs ++ List.replicate (p - k) 0).getD (k + q) 0 = 0 := by
    rw [List.getD_eq_getElem?_getD, List.getElem?_append_right (by omega), hhs, Nat.sub_self, List.getElem?_replicate]
    split <;> rfl
  rw [e0] at hcell
  refine ⟨cy, rfl, hcell, ht.1.frozen _, hs.take k ++ zs ++ [cy], by simp; omega, ((hsl.take k).append ht.2.2).append (Lim.cons hcy Lim.nil), ?_, ?_, ?_⟩
  · have h1 := ht.1.set (k + q) cy
    rw [← hz, mid_set (by omega)] at h1
    have e1 : mid (hs ++ List.replicate (p - k) 0) k (zs ++ [cy]) = hs.take k ++ zs ++ [cy] ++ List.replicate (p - (k + 1)) 0 := by
      unfold mid
      rw [List.take_append_of_le_length (by omega), List.drop_append, List.drop_eq_nil_of_le (by simp; omega), List.drop_replicate, List.length_append, hz, hhs]
      simp
      omega
    rw [e1, hz] at h1
    exact h1
  · have := grown_trans hgr (grown_trans (grown_drew (grown_refl wr (some g))) ht.2.1)
    exact grown_set this _
  · have e2 : ((hs ++ List.replicate (p - k) 0).drop k).take q = hs.drop k := by
      rw [List.drop_append_of_le_length (by omega), List.take_append_of_le_length (by simp; omega), List.take_of_length_le (by simp; omega)]
    rw [e2] at hv2
    have e3 := val_take_drop hs (k := k) (by omega)
    have e4 : (hs.take k ++ zs).length = k + q := by simp; omega
    have e5 : (hs.take k).length = k := by simp; omega
    rw [val_snoc, val_append, e4, e5, val_take_succ (by omega), hx, Nat.add_mul, ← hv, e3, Nat.pow_add]
    have e6 : 4294967296 ^ k * (val zs + cy * 4294967296 ^ q) = 4294967296 ^ k * (val (hs.drop k) + x * val lb) := by rw [hv2]
    grind

set_option maxHeartbeats 1000000 in
theorem mul_core (w : World) (b1 b2 : Nat) (A1 A2 : Option Addr) (n m c1 c2 p q : Nat) (la lb : List Nat) (h1 : Sl w b1 A1 p c1 la) (h2 : Sl w b2 A2 q c2 lb)
    (HC1 : Hid (Calls Try.prog 55 #[.slice A1 n c1] w fun e w' => e = .returned (.slice A1 p c1) ∧ w = w'))
    (HC2 : Hid (Calls Try.prog 55 #[.slice A2 m c2] w fun e w' => e = .returned (.slice A2 q c2) ∧ w = w'))
    (hp : p ≤ 549755813888) (hq : q ≤ 549755813888) :
    Calls Try.prog 47 #[.slice A1 n c1, .slice A2 m c2] w (Ret1 w (limbs (val la * val lb))) := by
  have H1 := Lib.hid h1.len
  have H2 := Lib.hid h2.len
  have hmk := fun W => run_make32' (p + q) ((p : Int) + q) (by omega) (by omega) W
  have hal : Below w.heap.size w (w.alloc (.cells (arr (List.replicate (p + q) 0)) 54)) := (Below.refl _ _).alloc (Nat.le_refl _) _
  go_enter Try.func47, Try.ntmps47
  go_wp2_with (first
    | (go_at_call 55; ((with_reducible refine HC1.out.mono ?_); rintro e w' ⟨rfl, rfl⟩))
    | (go_at_call 55; ((with_reducible refine HC2.out.mono ?_); rintro e w' ⟨rfl, rfl⟩)))
  clear HC1 HC2 hmk
  go_loopw [19] (fun i wr => ∃ k : Nat, k ≤ p ∧ i = .int .i64 k ∧ MulsInv (w.alloc (.cells (arr (List.replicate (p + q) 0)) 54)) w.heap.size p q la lb k wr) (fun i _ => p - (intOf i).toNat)
  case atStart => exact ⟨0, Nat.zero_le _, rfl, List.replicate q 0, by simp, Lim.replicate _, by have := Own.new w (List.replicate (p + q) 0); rw [List.replicate_append_replicate, Nat.sub_zero, Nat.add_comm q p]; exact this, grown_refl _ _, by rw [val_zeros]; simp [val]⟩
  case round =>
    obtain ⟨k, hk, rfl, hI⟩ := hrel
    have HI := Lib.hid hI
    clear hI
    by_cases hlt : k < p
    · obtain ⟨hs, hhs, hsl, hown, hgr, hv⟩ := HI.out
      have hbw := grown_of_new hal hgr
      have hsl1 := h1.below hbw
      have hsl2 := h2.below hbw
      obtain ⟨o1, rfl, hc1⟩ := hsl1.at (by omega)
      have hcell := hc1 k hlt
      have bx := h1.lim.getD k
      have hlen : (hs ++ List.replicate (p - k) 0).length = q + p := by simp; omega
      have HA := Lib.hid ((addTimes_any wr.drew w.heap.size k q (p + q - k) b2 c2 (la.getD k 0) A2 (hs ++ List.replicate (p - k) 0) lb hown (hsl.append (Lim.replicate _)) (by omega) (by omega) hsl2 (fun h => by have := h2.lt h; omega) bx).mono
        fun e w3 h3 => mul_round hhs hsl hown hgr hv hlt rfl H1.out h3)
      clear hown hsl hhs hgr hv hc1 hbw hlen hsl1 hsl2
      revert hcell HA
      generalize la.getD k 0 = x
      intro hcell HA
      have hcap : ¬ (p + q = k) := by omega
      have hs3 : (k : Int) + q ≤ (p : Int) + q := by omega
      have hs4 : (0 : Int) ≤ (k : Int) + q := by omega
      have hs5 : (k : Int) ≤ (k : Int) + q := by omega
      have hs2 : ((k : Int) + q).toNat = k + q := by omega
      have hs1 : IntKind.i64.wrap ((k : Int) + q) = (k : Int) + q := IntWalk.i64_in _ (by omega)
      go_wp2
      go_region_with ((go_at_call 65; ((with_reducible refine HA.out.mono ?_); (rintro e w3 ⟨cy, rfl, hc3, hf3, H3⟩))))
      clear hs1 hs2 hs3 hs4 hs5
      go_wp2
      go_roundw
      case rel => exact ⟨k + 1, by omega, by go_num, H3.out⟩
      case measure => simp [intOf]; omega
    · have hkp : k = p := by omega
      subst hkp
      obtain ⟨hs, hhs, hsl, hown, hgr, hv⟩ := HI.out
      rw [Nat.sub_self, List.replicate_zero, List.append_nil] at hown
      rw [val_take_all (xs := la) (by rw [H1.out]; omega)] at hv
      have hS := hown.all hsl (by omega) (c := k + q) (by omega)
      rw [hhs] at hS
      have HV := Lib.hid hv
      have HB := Lib.hid (grown_of_new hal hgr)
      clear hown hgr hv hhs hsl
      go_wp2_with (go_at_call 49; ((with_reducible refine (trim_any wr w.heap.size _ (k + q) (k + q) hs hS).mono ?_); rintro e w4 ⟨g4, A4, c4, rfl, hm4, hb4⟩))
      go_ret
      rw [HV.out] at hm4
      rw [HV.out]
      exact Ret1.of hm4 hb4 HB.out

theorem mul_any (w : World) (b1 b2 : Nat) (A1 A2 : Option Addr) (n m c1 c2 : Nat) (xs ys : List Nat) (h1 : Sl w b1 A1 n c1 xs) (h2 : Sl w b2 A2 m c2 ys) (hn : n ≤ 549755813888) (hm : m ≤ 549755813888) :
    Calls Try.prog 47 #[.slice A1 n c1, .slice A2 m c2] w (Ret1 w (limbs (val xs * val ys))) := by
  have := mul_core w b1 b2 A1 A2 n m c1 c2 _ _ _ _ (cut_sl h1) (cut_sl h2) (cut_any w b1 A1 n c1 xs h1) (cut_any w b2 A2 m c2 ys h2)
    (by have := val_limbs_le h1.lim; have := h1.len; omega) (by have := val_limbs_le h2.lim; have := h2.len; omega)
  rwa [val_limbs, val_limbs] at this
end Go.Proofs.Ytbendmhcimadpaa

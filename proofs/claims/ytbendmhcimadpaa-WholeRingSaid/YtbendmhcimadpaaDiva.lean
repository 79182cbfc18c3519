/-
  What nat.divLimb does, for every slice of limbs and every limb that is not nought.
-/
import Derived.Test.YtbendmhcimadpaaSum
namespace Go.Proofs.Ytbendmhcimadpaa
open Go.RowKit
set_option linter.unusedVariables false

/-- A slice that a call answered, as limbs. -/
def Out (w : World) (l : List Nat) (A : Option Addr) (c : Nat) : Prop := ∃ b, Sl w b A l.length c l

theorem Out.below {w w' : World} {l : List Nat} {A : Option Addr} {c : Nat} (h : Out w l A c) (hb : Below w.heap.size w w') : Out w' l A c := by
  obtain ⟨b, h⟩ := h
  exact ⟨b, h.below hb⟩

/-- A quotient and what is left. -/
def Ret2 (w : World) (lq lr : List Nat) (e : Ending) (w' : World) : Prop :=
  ∃ A1 c1 A2 c2, e = .returned (.tuple #[.slice A1 lq.length c1, .slice A2 lr.length c2]) ∧ Out w' lq A1 c1 ∧ Out w' lr A2 c2 ∧ Below w.heap.size w w'

def LimbInv (w : World) (g n d : Nat) (xs : List Nat) (k r : Nat) (wr : World) : Prop :=
  ∃ hs : List Nat, hs.length = k ∧ Lim hs ∧ r < d ∧ Own wr g (List.replicate (n - k) 0 ++ hs) ∧ w.grownBy wr (some g) ∧ val hs * d + r = val (xs.drop (n - k))

theorem limb_step {w wr : World} {g n d k r x : Nat} {xs hs : List Nat} (hd : d < 4294967296) (hl : Lim xs) (hn : xs.length = n) (hk : k < n) (hhs : hs.length = k) (hsl : Lim hs) (hr : r < d) (hown : Own wr g (List.replicate (n - k) 0 ++ hs)) (hgr : w.grownBy wr (some g))
    (hv : val hs * d + r = val (xs.drop (n - k))) (hx : xs.getD (n - 1 - k) 0 = x) (q : Nat) :
    LimbInv w g n d xs (k + 1) ((r * 4294967296 + x) % d) ((wr.drewN q).setCell ⟨g, n - 1 - k, none⟩ (.int .u32 (((r * 4294967296 + x) / d : Nat) : Int))) := by
  have hd0 : 0 < d := by omega
  have bx : x < 4294967296 := by rw [← hx]; exact hl.getD _
  have hq : (r * 4294967296 + x) / d < 4294967296 := by
    rw [Nat.div_lt_iff_lt_mul hd0, Nat.mul_comm 4294967296 d]
    have := Nat.mul_le_mul_right 4294967296 (show r + 1 ≤ d from hr)
    omega
  refine ⟨(r * 4294967296 + x) / d :: hs, by simp; omega, Lim.cons hq hsl, Nat.mod_lt _ hd0, ?_, grown_set (grown_drewN hgr q) _, ?_⟩
  · have h2 : Own ((wr.drewN q).setCell ⟨g, n - 1 - k, none⟩ (.int .u32 (((r * 4294967296 + x) / d : Nat) : Int))) g ((List.replicate (n - k) 0 ++ hs).set (n - 1 - k) ((r * 4294967296 + x) / d)) := Own.set (w := wr.drewN q) hown _ _
    have e : (List.replicate (n - k) 0 ++ hs).set (n - 1 - k) ((r * 4294967296 + x) / d) = List.replicate (n - (k + 1)) 0 ++ ((r * 4294967296 + x) / d :: hs) := by
      rw [show n - k = n - (k + 1) + 1 by omega, ← List.replicate_append_replicate, List.append_assoc, List.set_append_right _ _ (by simp; omega), List.length_replicate, show n - 1 - k - (n - (k + 1)) = 0 by omega]
      simp
    rwa [e] at h2
  · rw [show n - (k + 1) = n - 1 - k by omega, val_drop (by omega), hx, show n - 1 - k + 1 = n - k by omega, ← hv, val_cons]
    have e := Nat.mod_add_div (r * 4294967296 + x) d
    have e2 : (r * 4294967296 + x) / d * d = d * ((r * 4294967296 + x) / d) := Nat.mul_comm _ _
    rw [Nat.add_mul, e2, Nat.mul_assoc]
    generalize d * ((r * 4294967296 + x) / d) = t at *
    generalize (r * 4294967296 + x) % d = u at *
    generalize val hs * d = v at *
    omega

set_option maxHeartbeats 1000000 in
theorem divLimb_any (w : World) (b n c : Nat) (A : Option Addr) (xs : List Nat) (d : Nat) (h : Sl w b A n c xs) (hd0 : 0 < d) (hd : d < 4294967296) :
    Calls Try.prog 58 #[.slice A n c, .int .u32 (d : Int)] w (Ret2 w (limbs (val xs / d)) (limbs (val xs % d))) := by
  have H1 := Lib.hid h.len
  have hbig := h.big
  have hmk := fun W => run_make32' n (n : Int) rfl (by omega) W
  have hal : Below w.heap.size w (w.alloc (.cells (arr (List.replicate n 0)) 54)) := (Below.refl _ _).alloc (Nat.le_refl _) _
  go_enter Try.func58, Try.ntmps58
  go_wp2
  clear hmk
  go_loopw [7, 15] (fun u i wr => ∃ k r : Nat, k ≤ n ∧ i = .int .i64 k ∧ u = .int .u32 r ∧ LimbInv (w.alloc (.cells (arr (List.replicate n 0)) 54)) w.heap.size n d xs k r wr) (fun _ i _ => n - (intOf i).toNat)
  case atStart => exact ⟨0, 0, Nat.zero_le _, rfl, rfl, [], rfl, Lim.nil, hd0, by rw [List.append_nil]; exact Own.new w _, grown_refl _ _, by rw [List.drop_of_length_le (by rw [H1.out]; omega)]; simp [val]⟩
  case round =>
    obtain ⟨k, r, hk, rfl, rfl, hI⟩ := hrel
    have HI := Lib.hid hI
    clear hI
    by_cases hlt : k < n
    · obtain ⟨hs, hhs, hsl, hr, hown, hgr, hv⟩ := HI.out
      have hbw := grown_of_new hal hgr
      obtain ⟨o1, rfl, hc1⟩ := (h.below hbw).at (by omega)
      have hcell := hc1 (n - 1 - k) (by omega)
      have b0 := h.lim.getD (n - 1 - k)
      have hlen : (List.replicate (n - k) 0 ++ hs).length = n := by simp; omega
      have hcg := hown.cell (i := n - 1 - k) (by omega)
      have hcf := hown.frozen (n - 1 - k)
      obtain ⟨q, hq2⟩ : ∃ q, (List.replicate (n - k) 0 ++ hs).getD (n - 1 - k) 0 = q := ⟨_, rfl⟩
      rw [hq2] at hcg
      have HS := Lib.hid (limb_step hd h.lim H1.out hlt hhs hsl hr hown hgr hv rfl)
      clear hc1 hv hown hgr hhs hsl hlen hq2 HI
      revert hcell b0 HS
      generalize xs.getD (n - 1 - k) 0 = x
      intro hcell b0 HS
      have i1 : ((n : Int) - 1 - k).toNat = n - 1 - k := by omega
      go_wp2_with (go_at_call 68; ((with_reducible refine (div32_any r x d hr b0 hd _).mono ?_); rintro e w' ⟨rfl, q2, rfl⟩))
      go_roundw
      case rel => exact ⟨k + 1, _, by omega, by go_num, rfl, HS.out _⟩
      case measure => simp [intOf]; omega
    · have hkn : k = n := by omega
      subst hkn
      obtain ⟨hs, hhs, hsl, hr, hown, hgr, hv⟩ := HI.out
      rw [Nat.sub_self, List.replicate_zero, List.nil_append] at hown
      rw [Nat.sub_self, List.drop_zero] at hv
      have hS := hown.all hsl (by omega) (c := k) (by omega)
      rw [hhs] at hS
      have hq : val xs / d = val hs := by
        rw [← hv, Nat.mul_comm, Nat.mul_add_div hd0, Nat.div_eq_of_lt hr, Nat.add_zero]
      have hm : val xs % d = r := by
        rw [← hv, Nat.mul_comm, Nat.mul_add_mod, Nat.mod_eq_of_lt hr]
      have HM := Lib.hid hm
      have HV := Lib.hid hq
      have HB := Lib.hid (grown_of_new hal hgr)
      clear hown hgr hv hhs hsl HI hq hm
      go_wp2_with (go_at_call 49; ((with_reducible refine (trim_any wr w.heap.size _ k k hs hS).mono ?_); rintro e w4 ⟨g4, A4, c4, rfl, hm4, hb4⟩))
      have hS2 : Sl (w4.alloc (.cells #[.int .u32 (r : Int)] 54)) w4.heap.size (some ⟨w4.heap.size, 0, none⟩) 1 1 [r] := (Own.new w4 [r]).all (Lim.cons (by omega) Lim.nil) (by simp) (Nat.le_refl _)
      have hal4 : Below w4.heap.size w4 (w4.alloc (.cells #[.int .u32 (r : Int)] 54)) := (Below.refl _ _).alloc (Nat.le_refl _) _
      have HB4 := Lib.hid (HB.out.trans (hb4.mono HB.out.size))
      have HO4 : Hid (Out w4 (limbs (val hs)) A4 c4) := ⟨g4, hm4.1⟩
      clear hm4 hb4 HB
      refine (trim_any _ w4.heap.size _ 1 1 [r] hS2).mono ?_
      rintro e w5 ⟨g5, A5, c5, rfl, hm5, hb5⟩
      have e1 : val [r] = r := by simp [val]
      rw [e1] at hm5 ⊢
      have hb5' : Below w4.heap.size w4 w5 := hal4.trans (hb5.mono hal4.size)
      have HO5 : Hid (Out w5 (limbs r) A5 c5) := ⟨g5, hm5.1⟩
      clear hm5 hb5 hal4 hS2 e1
      go_wp2
      go_ret2
      rw [HV.out, HM.out]
      exact ⟨A4, c4, A5, c5, rfl, HO4.out.below hb5', HO5.out, HB4.out.trans (hb5'.mono HB4.out.size)⟩
end Go.Proofs.Ytbendmhcimadpaa

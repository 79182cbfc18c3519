/-
  What nat.Add, nat.Sub and nat.Mul do, for all slices of limbs that are not too long for any machine.
-/
import Derived.Test.YtbendmhcimadpaaCut
import Derived.Test.YtbendmhcimadpaaCmp
import Derived.Test.YtbendmhcimadpaaAcc
namespace Go.Proofs.Ytbendmhcimadpaa
open Go.RowKit
set_option linter.unusedVariables false

/-- The facts of a slice that is cut. -/
theorem cut_sl {w : World} {b : Nat} {A : Option Addr} {n c : Nat} {xs : List Nat} (h : Sl w b A n c xs) : Sl w b A (limbs (val xs)).length c (limbs (val xs)) := by
  have := h.take (k := (limbs (val xs)).length) (by have := val_limbs_le h.lim; have := h.len; omega)
  rwa [limbs_prefix h.lim] at this

theorem lim_made {la : List Nat} (h : Lim la) (n k : Nat) : Lim (la ++ (List.replicate n 0).drop k) := h.append ((Lim.replicate n).drop k)

theorem made_len {la : List Nat} {n : Nat} (h : la.length ≤ n) : (la ++ (List.replicate n 0).drop la.length).length = n := by simp; omega

theorem val_made (la : List Nat) (n k : Nat) : val (la ++ (List.replicate n 0).drop k) = val la := by
  rw [val_append, List.drop_replicate, val_zeros]; simp

theorem grown_of_new {w w1 w2 : World} (h1 : Below w.heap.size w w1) (h2 : w1.grownBy w2 (some w.heap.size)) : Below w.heap.size w w2 := h1.trans (below_grown h2 (Nat.le_refl _) h1.size)

/-- The end of a sum. -/
theorem add_end {la lb zs : List Nat} {cy p : Nat} (hp : la.length = p) (hq : lb.length ≤ p) (ha : Lim la) (hb : Lim lb) (hz : zs.length = p + 1) (hv : val zs + cy * 4294967296 ^ (p + 1) = val la + val lb) : val zs = val la + val lb := by
  have h1 := val_lt ha
  have h2 := val_lt hb
  have h3 := Nat.pow_le_pow_right (n := 4294967296) (by decide) hq
  rw [hp] at h1
  rw [Nat.pow_succ] at hv
  rcases Nat.eq_zero_or_pos cy with e | e
  · subst e; omega
  · have := Nat.mul_le_mul_right (4294967296 ^ p * 4294967296) e
    omega

theorem Ret1.of {w w1 w' : World} {l : List Nat} {g c : Nat} {A : Option Addr} (h : Made w1 w' l g A c) (hb : Below w1.heap.size w1 w') (hw : Below w.heap.size w w1) : Ret1 w l (.returned (.slice A l.length c)) w' :=
  ⟨g, A, c, rfl, ⟨h.1, fun h0 => ⟨Nat.le_trans hw.size (h.2 h0).1, (h.2 h0).2⟩⟩, hw.trans (hb.mono hw.size)⟩

/-- What addTo leaves in a block of the call's own, as a slice. -/
theorem Turned.all {w w' : World} {g : Nat} {l zs : List Nat} (h : Turned w g 0 l zs w') (hz : zs.length = l.length) : Own w' g zs := by
  have := h.1
  unfold mid at this
  rw [hz] at this
  simpa using this

set_option maxHeartbeats 1000000 in
theorem add_core (w : World) (b1 b2 : Nat) (A1 A2 : Option Addr) (n m c1 c2 p q : Nat) (la lb : List Nat) (h1 : Sl w b1 A1 p c1 la) (h2 : Sl w b2 A2 q c2 lb)
    (HC1 : Hid (Calls Try.prog 55 #[.slice A1 n c1] w fun e w' => e = .returned (.slice A1 p c1) ∧ w = w'))
    (HC2 : Hid (Calls Try.prog 55 #[.slice A2 m c2] w fun e w' => e = .returned (.slice A2 q c2) ∧ w = w'))
    (hp : p ≤ 549755813888) (hq : q ≤ 549755813888) :
    Calls Try.prog 44 #[.slice A1 n c1, .slice A2 m c2] w (Ret1 w (limbs (val la + val lb))) := by
  have H1 := Lib.hid h1.len
  have H2 := Lib.hid h2.len
  by_cases hpq : p < q
  · have hmk := fun W => run_make32' (q + 1) ((q : Int) + 1) (by omega) (by omega) W
    have hal : Below w.heap.size w (w.alloc (.cells (arr (List.replicate (q + 1) 0)) 54)) := (Below.refl _ _).alloc (Nat.le_refl _) _
    go_enter Try.func44, Try.ntmps44
    go_wp2_with (first
      | (go_at_call 55; ((with_reducible refine HC1.out.mono ?_); rintro e w' ⟨rfl, rfl⟩))
      | (go_at_call 55; ((with_reducible refine HC2.out.mono ?_); rintro e w' ⟨rfl, rfl⟩))
      | (with_reducible refine wpList_copy32 rfl (.tmp 21) (.tmp 22) 22 rfl 54 Try.underlying22 size32 w.heap.size (q + 1) (q + 1) b2 A2 q c2 (List.replicate (q + 1) 0) lb rfl rfl (Own.new w _) (h2.below hal) (by simp) (by omega) ?_; intro w2 ho2 hg2; have HO2 := Lib.hid ho2; clear ho2))
    have HB2 := Lib.hid (grown_of_new hal hg2)
    have hlen : (lb ++ (List.replicate (q + 1) 0).drop q).length = q + 1 := by have := H2.out; simp; omega
    refine (addTo_any w2 w.heap.size 0 (q + 1) (q + 1) b1 p c1 A1 _ la HO2.out (lim_made h2.lim _ _) (by omega) (by omega) (h1.below HB2.out) (fun h => by have := h1.lt h; omega) (by omega)).mono ?_
    rintro e w3 ⟨rfl, zs, cy, hz, ht, hcy, hv⟩
    rw [List.drop_zero, List.take_of_length_le (by omega), val_made] at hv
    have HV := Lib.hid (add_end H2.out (by rw [H1.out]; omega) h2.lim h1.lim hz hv)
    have HO3 := Lib.hid (ht.all (by omega))
    have HB3 := Lib.hid (HB2.out.trans (below_grown ht.2.1 (Nat.le_refl _) HB2.out.size))
    have HL := Lib.hid ht.2.2
    have HZ := Lib.hid hz
    clear hv ht hlen hg2 hmk hal hz HC1 HC2
    have hs := HO3.out.all HL.out (by rw [HZ.out]; omega) (c := q + 1) (by rw [HZ.out]; omega)
    rw [HZ.out] at hs
    go_wp2_with (go_at_call 49; ((with_reducible refine (trim_any w3 w.heap.size _ (q + 1) (q + 1) zs hs).mono ?_); rintro e w4 ⟨g4, A4, c4, rfl, hm4, hb4⟩))
    go_ret
    rw [HV.out] at hm4
    rw [HV.out, Nat.add_comm (val la)]
    rw [Nat.add_comm] at hm4 ⊢
    exact Ret1.of hm4 hb4 HB3.out
  · have hmk := fun W => run_make32' (p + 1) ((p : Int) + 1) (by omega) (by omega) W
    have hal : Below w.heap.size w (w.alloc (.cells (arr (List.replicate (p + 1) 0)) 54)) := (Below.refl _ _).alloc (Nat.le_refl _) _
    go_enter Try.func44, Try.ntmps44
    go_wp2_with (first
      | (go_at_call 55; ((with_reducible refine HC1.out.mono ?_); rintro e w' ⟨rfl, rfl⟩))
      | (go_at_call 55; ((with_reducible refine HC2.out.mono ?_); rintro e w' ⟨rfl, rfl⟩))
      | (with_reducible refine wpList_copy32 rfl (.tmp 21) (.tmp 22) 22 rfl 54 Try.underlying22 size32 w.heap.size (p + 1) (p + 1) b1 A1 p c1 (List.replicate (p + 1) 0) la rfl rfl (Own.new w _) (h1.below hal) (by simp) (by omega) ?_; intro w2 ho2 hg2; have HO2 := Lib.hid ho2; clear ho2))
    have HB2 := Lib.hid (grown_of_new hal hg2)
    have hlen : (la ++ (List.replicate (p + 1) 0).drop p).length = p + 1 := by have := H1.out; simp; omega
    refine (addTo_any w2 w.heap.size 0 (p + 1) (p + 1) b2 q c2 A2 _ lb HO2.out (lim_made h1.lim _ _) (by omega) (by omega) (h2.below HB2.out) (fun h => by have := h2.lt h; omega) (by omega)).mono ?_
    rintro e w3 ⟨rfl, zs, cy, hz, ht, hcy, hv⟩
    rw [List.drop_zero, List.take_of_length_le (by omega), val_made] at hv
    have HV := Lib.hid (add_end H1.out (by rw [H2.out]; omega) h1.lim h2.lim hz hv)
    have HO3 := Lib.hid (ht.all (by omega))
    have HB3 := Lib.hid (HB2.out.trans (below_grown ht.2.1 (Nat.le_refl _) HB2.out.size))
    have HL := Lib.hid ht.2.2
    have HZ := Lib.hid hz
    clear hv ht hlen hg2 hmk hal hz HC1 HC2
    have hs := HO3.out.all HL.out (by rw [HZ.out]; omega) (c := p + 1) (by rw [HZ.out]; omega)
    rw [HZ.out] at hs
    go_wp2_with (go_at_call 49; ((with_reducible refine (trim_any w3 w.heap.size _ (p + 1) (p + 1) zs hs).mono ?_); rintro e w4 ⟨g4, A4, c4, rfl, hm4, hb4⟩))
    go_ret
    rw [HV.out] at hm4
    rw [HV.out]
    exact Ret1.of hm4 hb4 HB3.out

theorem add_any (w : World) (b1 b2 : Nat) (A1 A2 : Option Addr) (n m c1 c2 : Nat) (xs ys : List Nat) (h1 : Sl w b1 A1 n c1 xs) (h2 : Sl w b2 A2 m c2 ys) (hn : n ≤ 549755813888) (hm : m ≤ 549755813888) :
    Calls Try.prog 44 #[.slice A1 n c1, .slice A2 m c2] w (Ret1 w (limbs (val xs + val ys))) := by
  have := add_core w b1 b2 A1 A2 n m c1 c2 _ _ _ _ (cut_sl h1) (cut_sl h2) (cut_any w b1 A1 n c1 xs h1) (cut_any w b2 A2 m c2 ys h2)
    (by have := val_limbs_le h1.lim; have := h1.len; omega) (by have := val_limbs_le h2.lim; have := h2.len; omega)
  rwa [val_limbs, val_limbs] at this

set_option maxHeartbeats 400000 in
theorem sub_lt (w : World) (b1 b2 : Nat) (A1 A2 : Option Addr) (n m c1 c2 : Nat) (xs ys : List Nat) (h1 : Sl w b1 A1 n c1 xs) (h2 : Sl w b2 A2 m c2 ys) (hlt : val xs < val ys) :
    Calls Try.prog 45 #[.slice A1 n c1, .slice A2 m c2] w fun e w' => e = .returned (.tuple #[.slice none 0 0, .bool false]) ∧ ∃ q, w' = w.drewN q := by
  have HC := cmp_any w b1 b2 A1 A2 n m c1 c2 xs ys h1 h2
  rw [cmpI_lt (by omega)] at HC
  have HC := Lib.hid HC
  clear h1 h2 hlt
  go_enter Try.func45, Try.ntmps45
  go_wp2_with (go_at_call 40; ((with_reducible refine HC.out.mono ?_); rintro e w' ⟨rfl, q, rfl⟩))
  go_ret2
  exact ⟨rfl, _, rfl⟩

/-- What a call answers, if it answers a list of limbs in memory of its own, and true. -/
def Ret1T (w : World) (l : List Nat) (e : Ending) (w' : World) : Prop :=
  ∃ g A c, e = .returned (.tuple #[.slice A l.length c, .bool true]) ∧ Made w w' l g A c ∧ Below w.heap.size w w'

theorem Made.of {w w1 w' : World} {l : List Nat} {g c : Nat} {A : Option Addr} (h : Made w1 w' l g A c) (hw : Below w.heap.size w w1) : Made w w' l g A c :=
  ⟨h.1, fun h0 => ⟨Nat.le_trans hw.size (h.2 h0).1, (h.2 h0).2⟩⟩

theorem cmpI_ge {a b : Nat} (h : b ≤ a) : ∃ z : Int, cmpI (a : Int) (b : Int) = z ∧ 0 ≤ z := by
  rcases Nat.lt_or_ge b a with h1 | h1
  · exact ⟨_, cmpI_gt (by omega), by omega⟩
  · exact ⟨_, cmpI_eq (by omega), by omega⟩

theorem sub_end {a b z q p : Nat} (hv : a + q * p = z + 1 * b) (hz : z < p) (h : b ≤ a) : z = a - b := by
  rcases Nat.eq_zero_or_pos q with e | e
  · subst e; omega
  · have := Nat.mul_le_mul_right p e
    omega

set_option maxHeartbeats 1000000 in
theorem sub_ge (w : World) (b1 b2 : Nat) (A1 A2 : Option Addr) (n m c1 c2 : Nat) (xs ys : List Nat) (h1 : Sl w b1 A1 n c1 xs) (h2 : Sl w b2 A2 m c2 ys) (hge : val ys ≤ val xs) :
    Calls Try.prog 45 #[.slice A1 n c1, .slice A2 m c2] w (Ret1T w (limbs (val xs - val ys))) := by
  have HC := cmp_any w b1 b2 A1 A2 n m c1 c2 xs ys h1 h2
  obtain ⟨z, hz, hz0⟩ := cmpI_ge hge
  rw [hz] at HC
  have HC := Lib.hid HC
  clear hz
  have HG := Lib.hid hge
  clear hge
  go_enter Try.func45, Try.ntmps45
  go_wp2_with (first
    | (go_at_call 40; ((with_reducible refine HC.out.mono ?_); rintro e w' ⟨rfl, q, rfl⟩))
    | (go_at_call 49; ((with_reducible refine (trim_any _ b1 A1 n c1 xs (h1.drewN _)).mono ?_); rintro e w2 ⟨g, A, c, rfl, hm2, hb2⟩)))
  have hsl2 : Sl w2 b2 A2 m c2 ys := (h2.drewN _).below hb2
  have hb2' : Below w.heap.size w w2 := (below_drewN (Below.refl _ _) _).trans hb2
  clear HC hb2
  refine (cut_any w2 b2 A2 m c2 ys hsl2).mono ?_
  rintro e w3 ⟨rfl, rfl⟩
  have hcs := Lib.hid (cut_sl hsl2)
  by_cases h0 : val xs = 0
  · have hy0 : val ys = 0 := by have := HG.out; omega
    have HE : Hid (limbs (val xs - val ys) = []) := by show _ = _; rw [h0, Nat.zero_sub, limbs_zero]
    rw [h0, limbs_zero] at hm2
    rw [h0, hy0]
    simp only [limbs_zero, List.length_nil]
    have hz : Sl w2 g A 0 c [] := hm2.1
    clear hm2 h0 hy0 hcs HG
    go_wp2_with (first
      | (go_at_call 61; ((with_reducible refine (takeFrom_none1 _ _ _ _ _ _).mono ?_); rintro e w4 ⟨rfl, rfl⟩))
      | (go_at_call 49; ((with_reducible refine (trim_any w2 g A 0 c [] hz).mono ?_); rintro e w4 ⟨g4, A4, c4, rfl, hm4, hb4⟩)))
    go_ret2
    have e : limbs (val []) = [] := limbs_zero
    rw [e] at hm4
    rw [e, HE.out]
    exact ⟨g4, A4, c4, rfl, hm4.of hb2', hb2'.trans (hb4.mono hb2'.size)⟩
  · have hpos : 0 < (limbs (val xs)).length := Nat.pos_of_ne_zero fun e => h0 (limbs_length_zero.1 e)
    obtain ⟨hg, rfl, hown⟩ := hm2.2 hpos
    have hge := HG.out
    have hbig := hm2.1.big
    have hcap := hm2.1.cap
    have hlen := limbs_length_mono hge
    have HOWN := Lib.hid hown
    have hgw : w.heap.size ≤ g := hg
    clear hown hm2 hg h0
    go_wp2_with fail
    refine (takeFrom_one w2 g 0 _ c b2 _ c2 A2 _ _ HOWN.out (lim_limbs _) (by omega) hbig hcs.out (fun h => by have := h2.lt (by have := val_limbs_le h2.lim; have := h2.len; omega); omega) hlen).mono ?_
    rintro e w4 ⟨q4, rfl, zs, hz, ht, hv⟩
    rw [List.drop_zero, List.take_length, val_limbs, val_limbs] at hv
    have HV := Lib.hid (sub_end hv (by have := val_lt ht.2.2; rwa [hz] at this) hge)
    have HO4 := Lib.hid (ht.all hz)
    have HB4 := Lib.hid (hb2'.trans (below_grown ht.2.1 hgw hb2'.size))
    have hs := ((ht.all hz).all ht.2.2 (by omega) (c := c) (by rw [hz]; exact hcap))
    rw [hz] at hs
    clear hv ht HOWN hge HG hcs hz hlen hpos
    go_wp2_with (go_at_call 49; ((with_reducible refine (trim_any w4 g _ _ _ zs hs).mono ?_); rintro e w5 ⟨g5, A5, c5, rfl, hm5, hb5⟩))
    go_ret2
    rw [HV.out] at hm5
    rw [HV.out]
    exact ⟨g5, A5, c5, rfl, hm5.of HB4.out, HB4.out.trans (hb5.mono HB4.out.size)⟩
end Go.Proofs.Ytbendmhcimadpaa

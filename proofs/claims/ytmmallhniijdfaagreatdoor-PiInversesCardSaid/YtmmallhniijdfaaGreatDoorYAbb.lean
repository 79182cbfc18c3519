/-
 Contracts that the proof rests on.
-/
import Derived.Test.YtmmallhniijdfaaGreatDoorYAba
namespace Go.Proofs.YtmmallhniijdfaaGreatDoor
set_option maxHeartbeats 2000000
open Go.RowKit
set_option linter.unusedVariables false
theorem sgi_mul (s : Bool) (x y : Int) : sgi s x * y = sgi s (x * y) := by
 cases s
 · rfl
 · exact Int.neg_mul _ _
theorem vp_vr {x : Int} (s : Bool) (h : 0 < x) : vr (sgi s x) = sgi s (vp x) := by
 rw [vr_sgi]
 congr 1
 unfold vr
 rw [if_neg (by omega)]
theorem exq_vl {D : Int} {s : Bool} {M E r : Int} (q : Fq D s M E r) (h1 : -19342822337206103650074625 < r) (h2 : r < 19342822337206103650074625) : exb D s M E = true ∧ vl (exq D s M E) = vr r := by
 have hb : exb D s M E = true := by
   unfold exb
   rw [decide_eq_true q.1, Bool.true_and]
   rcases q.cases with ⟨rfl, rfl, rfl, rfl, h0⟩ | ⟨rfl, _⟩ | ⟨rfl, rfl, rfl, ⟨rfl, h5⟩ | ⟨rfl, h5⟩⟩
   · rfl
   · rfl
   · omega
   · omega
 refine ⟨hb, ?_⟩
 unfold exq
 rw [if_pos hb]; have hr := q.2.2
 rcases q.1 with ⟨rfl, rfl, rfl, rfl⟩ | ⟨rfl, g1, g2, g3⟩ | ⟨rfl, rfl, rfl⟩
 · obtain rfl : 0 = r := hr
   have e0 : sgi false 0 = 0 := if_neg (by decide)
   rw [e0, mk_zero, vl_zero]
   rfl
 · have hM := q.2.1
   have hpl : plc 1 M E = M - 9223372036854775808 + 1 + (E + 1048576) * 9223372036854775808 := rfl
   rw [hpl] at hr
   have ha : (sgi s M).natAbs = M.toNat := by
     cases s
     · show M.natAbs = M.toNat; omega
     · show (-M).natAbs = M.toNat; omega
   obtain ⟨η, hη⟩ : ∃ η : Nat, 4194304 = η := ⟨_, rfl⟩
   have hf := mk_fit (z := sgi s M) (e := E) (h := η) (by omega) (by omega) (by
     rw [ha]
     have : M.toNat < 2 ^ 64 := by omega
     have := Nat.mul_lt_mul_of_pos_right this (Nat.pow_pos (n := (E + (η : Int)).toNat) (show 0 < 2 by decide))
     rw [← Nat.pow_add] at this; exact Nat.lt_of_lt_of_le this (Nat.pow_le_pow_right (by decide) (by omega)))
   rw [hf.2, ← hr, vp_vr s (by omega), vp_fin g1 hM (by omega), sgi_mul]
 · exfalso
   have : r = sgi s TP := hr.symm
   have := TP_eq
   cases s
   · have e : sgi false TP = TP := if_neg (by decide)
     omega
   · have e : sgi true TP = -TP := if_pos rfl
     omega
theorem rnd_nought (up : Bool) : rnd up 0 0 = 0 := by
 rw [rnd_ext rfl]
 rfl
def opl (n : Int) : Int := sgi (decide (n < 0)) (lo n.natAbs 0)
theorem opl_zero : opl 0 = 0 := rfl
theorem opl_vr {n : Int} (h1 : -9223372036854775808 ≤ n) (h2 : n ≤ 9223372036854775807) : vr (opl n) = n * 2 ^ KK := by
 by_cases h0 : n = 0
 · subst h0; rw [opl_zero, Int.zero_mul]
   rfl
 · have q := of_fq h0 h1 h2; have hs := of_shl h0 h1 h2; have a3 := blen_mono_le (n := n.natAbs) (k := 64) (by omega)
   have hr : _ = opl n := q.2.2
   have g := q.plc (by decide)
   rcases g with ⟨_, g1, g2, g3, g4, g5⟩ | ⟨g, _⟩
   · rw [← hr, vp_vr _ (by rw [g5]; omega), g5, vp_fin g1 g2 (by omega), ← hs, Int.mul_assoc, ← Int.pow_add, show (64 - (blen n.natAbs : Int)).toNat + (-(64 - (blen n.natAbs : Int)) + (KK : Int)).toNat = KK by rw [KK_eq]; omega, ← sgi_mul]
     congr 1
     by_cases hn : n < 0
     · rw [decide_eq_true hn]; show -(n.natAbs : Int) = n; omega
     · rw [decide_eq_false hn]; show (n.natAbs : Int) = n; omega
   · exact absurd g (by decide)
theorem opl_cmp {a b : Int} (h1 : -9223372036854775808 ≤ a) (h2 : a ≤ 9223372036854775807) (k1 : -9223372036854775808 ≤ b) (k2 : b ≤ 9223372036854775807) : cmpI (opl a) (opl b) = cmpI a b := by
 rw [← vr_cmp, opl_vr h1 h2, opl_vr k1 k2, cmpI_scale (p2pos KK)]
theorem sgi_not {n : Int} (h0 : n ≠ 0) (l : Int) : sgi (decide (-n < 0)) l = -sgi (decide (n < 0)) l := by
 by_cases hn : n < 0
 · rw [decide_eq_true hn, decide_eq_false (show ¬ -n < 0 by omega), show sgi false l = l from if_neg (by decide), show sgi true l = -l from if_pos rfl, Int.neg_neg]
 · rw [decide_eq_false hn, decide_eq_true (show -n < 0 by omega), show sgi false l = l from if_neg (by decide), show sgi true l = -l from if_pos rfl]
theorem opl_neg (n : Int) : opl (-n) = -opl n := by
 by_cases h0 : n = 0
 · rw [h0, Int.neg_zero, opl_zero, Int.neg_zero]
 · unfold opl
   rw [Int.natAbs_neg]; exact sgi_not h0 _
def Dn (X r : Int) : Prop := -19342822337206103650074625 ≤ r ∧ r ≤ 19342822337206103650074624 ∧ (-19342822337206103650074625 < r → vr r ≤ X) ∧ (r < 19342822337206103650074624 → X < vr (r + 1))
def Up (X r : Int) : Prop := Dn (-X) (-r)
theorem Dn.mono {X Y r t : Int} (h : Dn X r) (k : Dn Y t) (hXY : X ≤ Y) : r ≤ t := by
 obtain ⟨h1, h2, h3, h4⟩ := h; obtain ⟨k1, k2, k3, k4⟩ := k
 rcases Int.lt_or_le t r with q | q
 · exfalso
   have a := h3 (by omega); have b := k4 (by omega)
   rcases Int.lt_or_eq_of_le (show t + 1 ≤ r by omega) with q | q
   · have := vr_lt q
     omega
   · rw [q] at b
     omega
 · exact q
theorem Dn.uniq {X r t : Int} (h : Dn X r) (k : Dn X t) : r = t := by
 have a := h.mono k (Int.le_refl _); have b := k.mono h (Int.le_refl _)
 omega
theorem Up.mono {X Y r t : Int} (h : Up X r) (k : Up Y t) (hXY : X ≤ Y) : r ≤ t := by
 have := Dn.mono k h (by omega)
 omega
theorem Up.uniq {X r t : Int} (h : Up X r) (k : Up X t) : r = t := by
 have := Dn.uniq h k
 omega
theorem dn_self {r : Int} (h1 : -19342822337206103650074625 < r) (h2 : r < 19342822337206103650074625) : Dn (vr r) r := ⟨by omega, by omega, fun _ => Int.le_refl _, fun _ => vr_succ r⟩
theorem up_self {r : Int} (h1 : -19342822337206103650074625 < r) (h2 : r < 19342822337206103650074625) : Up (vr r) r := by
 unfold Up
 rw [← vr_neg]; exact dn_self (by omega) (by omega)
theorem m_lt (m : Nat) {a b : Int} (ha : 0 ≤ a) (hb : 0 ≤ b) (h : (blen m : Int) + a ≤ b) : (m : Int) * 2 ^ a.toNat < 2 ^ b.toNat := by
 have h1 := Nat.mul_lt_mul_of_pos_right (blen_lt m) (Nat.pow_pos (n := a.toNat) (show 0 < 2 by decide))
 rw [← Nat.pow_add] at h1
 have h2 := Nat.lt_of_lt_of_le h1 (Nat.pow_le_pow_right (show 0 < 2 by decide) (show blen m + a.toNat ≤ b.toNat by omega))
 exact_mod_cast h2
theorem m_ge {m : Nat} (h0 : m ≠ 0) {a b : Int} (ha : 0 ≤ a) (hb : 0 ≤ b) (h : b ≤ (blen m : Int) - 1 + a) : (2 : Int) ^ b.toNat ≤ (m : Int) * 2 ^ a.toNat := by
 have hl : blen m ≠ 0 := fun e => h0 (blen_eq_zero.1 e)
 have h1 := Nat.mul_le_mul_right (2 ^ a.toNat) (blen_le h0); rw [← Nat.pow_add] at h1
 have h2 := Nat.le_trans (Nat.pow_le_pow_right (show 0 < 2 by decide) (show b.toNat ≤ blen m - 1 + a.toNat by omega)) h1
 exact_mod_cast h2
theorem vp_one : vp 1 = 2 ^ (63 - 1048576 + (KK : Int)).toNat := by
 have := vp_fin (M := 9223372036854775808) (E := -1048576) (by decide) (by decide) (by decide)
 rw [show (9223372036854775808 : Int) - 9223372036854775808 + 1 + (-1048576 + 1048576) * 9223372036854775808 = 1 by decide] at this
 rw [this, show (63 - 1048576 + (KK : Int)).toNat = 63 + (-1048576 + (KK : Int)).toNat by rw [KK_eq]; omega, Int.pow_add]
 rfl
theorem vp_top : vp 19342822337206103650074624 < 2 ^ (64 + 1048576 + (KK : Int)).toNat := by
 have := vp_fin (M := 18446744073709551615) (E := 1048576) (by decide) (by decide) (by decide)
 rw [show (18446744073709551615 : Int) - 9223372036854775808 + 1 + (1048576 + 1048576) * 9223372036854775808 = 19342822337206103650074624 by decide] at this
 rw [this, show (64 + 1048576 + (KK : Int)).toNat = 64 + (1048576 + (KK : Int)).toNat by rw [KK_eq]; omega, Int.pow_add]
 exact Int.mul_lt_mul_of_pos_right (by decide) (p2pos _)
theorem lo_dn {m : Nat} {E : Int} (h0 : m ≠ 0) (hE1 : -4194304 ≤ E) (hE2 : E ≤ 4194304) (ho : m % 2 = 1) : Dn ((m : Int) * 2 ^ (E + KK).toNat) (lo m E) ∧ Up ((m : Int) * 2 ^ (E + KK).toNat) (hi m E) ∧ 0 ≤ lo m E ∧ 0 ≤ hi m E := by
 have hk := KK_eq; obtain ⟨b1, b2⟩ := lo_bd m E
 have hl : blen m ≠ 0 := fun e => h0 (blen_eq_zero.1 e)
 have hx : xp m E = E + (blen m : Nat) - 64 := rfl
 have e0 : (m == 0) = false := by simpa using h0
 have hpos : 0 < (m : Int) * 2 ^ (E + KK).toNat := Int.mul_pos (by omega) (p2pos _)
 by_cases c1 : 1048576 < xp m E
 · have el : lo m E = 19342822337206103650074624 := by
     unfold lo
     rw [if_neg h0, if_pos c1]
   have ex : ext m E = false := by
     unfold ext
     rw [e0, decide_eq_false (show ¬ xp m E ≤ 1048576 by omega)]
     rfl
   have eh : hi m E = lo m E + 1 := by
     unfold hi
     rw [ex, if_neg (by decide)]
   have g := m_ge h0 (a := E + KK) (b := 64 + 1048576 + KK) (by omega) (by omega) (by omega); have ht := vp_top
   have ev : vr 19342822337206103650074624 = vp 19342822337206103650074624 := by
     unfold vr
     rw [if_neg (by decide)]
   rw [eh, el]
   refine ⟨⟨by decide, by decide, fun _ => by omega, fun h => absurd h (by decide)⟩, ⟨by decide, by decide, fun h => absurd h (by decide), fun _ => ?_⟩, by decide, by decide⟩
   have en : vr (-(19342822337206103650074624 + 1) + 1) = -vr 19342822337206103650074624 := vr_neg 19342822337206103650074624
   omega
 · by_cases c2 : xp m E < -1048576
   · have el : lo m E = 0 := by
       unfold lo
       rw [if_neg h0, if_neg c1, if_pos c2]
     have ex : ext m E = false := by
       unfold ext
       rw [e0, decide_eq_false (show ¬ -1048576 ≤ xp m E by omega)]
       simp
     have eh : hi m E = lo m E + 1 := by
       unfold hi
       rw [ex, if_neg (by decide)]
     have g := m_lt m (a := E + KK) (b := 63 - 1048576 + KK) (by omega) (by omega) (by omega); have h1 := vp_one
     have ev : vr 1 = vp 1 := by
       unfold vr
       rw [if_neg (by decide)]
     have ez : vr 0 = 0 := rfl
     rw [eh, el]
     have en : vr (-(0 + 1)) = -vr 1 := vr_neg 1
     refine ⟨⟨by decide, by decide, fun _ => by omega, fun _ => ?_⟩, ⟨by decide, by decide, fun _ => by omega, fun _ => ?_⟩, by decide, by decide⟩
     · rw [show (0 : Int) + 1 = 1 from rfl]
       omega
     · rw [show (-(0 + 1) + 1 : Int) = 0 from rfl]
       omega
   · obtain ⟨v1, v2, v3, v4⟩ := lo_vr (m := m) (E := E) h0 (by omega) (by omega) (by omega) ho
     revert v1 v2 v3 v4
     have hh : hi m E = if ext m E = true then lo m E else lo m E + 1 := rfl
     cases hx : ext m E
     · rw [hx, if_neg (by decide)] at hh; rw [hh]
       revert b1 b2
       generalize lo m E = l
       intro b1 b2 v1 v2 v3 v4
       have v5 := v4 rfl; have n1 := vr_neg (l + 1); have n2 := vr_neg l
       refine ⟨⟨by omega, by omega, fun _ => v1, fun _ => v2⟩, ⟨by omega, by omega, fun _ => by omega, fun _ => ?_⟩, b1, by omega⟩
       rw [show -(l + 1) + 1 = -l by omega]
       omega
     · rw [hx, if_pos rfl] at hh; rw [hh]
       revert b1 b2
       generalize lo m E = l
       intro b1 b2 v1 v2 v3 v4
       have v5 := v3 rfl; have n1 := vr_neg l; have n2 := vr_succ (-l)
       refine ⟨⟨by omega, by omega, fun _ => v1, fun _ => v2⟩, ⟨by omega, by omega, fun _ => by omega, fun _ => by omega⟩, b1, b1⟩
theorem up_of_dn {X r : Int} (h : Dn X r) : Up (-X) (-r) := by
 unfold Up
 rw [Int.neg_neg, Int.neg_neg]; exact h
theorem dn_of_up {X r : Int} (h : Up X r) : Dn (-X) (-r) := h
theorem rnd_spec {P : Int × Int} (hP : Nf P) : Dn (vl P) (rnd false P.1 P.2) ∧ Up (vl P) (rnd true P.1 P.2) := by
 rcases hP.cases with e | ⟨h0, ho, e1, e2⟩
 · subst e; rw [rnd_nought, rnd_nought, vl_zero]; have h := dn_self (r := 0) (by decide) (by decide); have k := up_self (r := 0) (by decide) (by decide)
   rw [show vr 0 = 0 from rfl] at h k
   exact ⟨h, k⟩
 · obtain ⟨d, u, _, _⟩ := lo_dn (m := P.1.natAbs) (E := P.2) (by omega) e1 e2 ho
   have hvl : vl P = P.1 * 2 ^ (P.2 + KK).toNat := rfl
   rcases Int.lt_or_lt_of_ne h0 with hn | hp
   · have hs : true = decide (P.1 < 0) := (decide_eq_true hn).symm
     have r1 := rnd_diff (E := P.2) hs; have r2 := rnd_same (up := true) (E := P.2) hs rfl
     rw [show (!true) = false from rfl] at r1
     have ev : vl P = -((P.1.natAbs : Int) * 2 ^ (P.2 + KK).toNat) := by
       rw [hvl, ← Int.neg_mul]
       congr 1
       omega
     have s1 : ∀ x, sgi true x = -x := fun x => if_pos rfl
     rw [r1, r2, ev, s1, s1]; exact ⟨dn_of_up u, up_of_dn d⟩
   · have hs : false = decide (P.1 < 0) := (decide_eq_false (by omega)).symm
     have r1 := rnd_same (up := false) (E := P.2) hs rfl; have r2 := rnd_diff (E := P.2) hs
     rw [show (!false) = true from rfl] at r2
     have ev : vl P = (P.1.natAbs : Int) * 2 ^ (P.2 + KK).toNat := by
       rw [hvl]
       congr 1
       omega
     have s1 : ∀ x, sgi false x = x := fun x => if_neg (by decide)
     rw [r1, r2, ev, s1, s1]; exact ⟨d, u⟩
theorem rnd_turn {P : Int × Int} (hP : Nf P) (up : Bool) : rnd (!up) (-P.1) P.2 = -rnd up P.1 P.2 := by
 have hn : Nf (ng P) := ng_nf hP
 have hv := vl_ng P; obtain ⟨a, b⟩ := rnd_spec hP; obtain ⟨c, d⟩ := rnd_spec hn; rw [hv] at c d
 cases up
 · have := d.uniq (up_of_dn a)
   exact this
 · have := c.uniq (dn_of_up b)
   exact this
def ep (r : Int) : Int × Int := if r = 0 then (0, 0) else mk (sgi (decide (r < 0)) (((r.natAbs : Int) - 1) % 9223372036854775808 + 9223372036854775808)) (((r.natAbs : Int) - 1) / 9223372036854775808 - 1048576)
theorem ep_nf (r : Int) : Nf (ep r) := by
 unfold ep
 split
 · exact mk_zero 0
 · exact mk_nf _ _
def infp (x : Int) : Bool := x == TP || x == -TP
def addp (up : Bool) (x y : Int) : Int :=
 if infp x = true then (if infp y = true ∧ x ≠ y then sgi (!up) TP else x) else if infp y = true then y else rnd up (pl (ep x) (ep y)).1 (pl (ep x) (ep y)).2
def mulp (up : Bool) (x y : Int) : Int :=
 if x = 0 ∨ y = 0 then 0 else if infp x = true ∨ infp y = true then sgi (decide (x < 0) != decide (y < 0)) TP else rnd up (ml (ep x) (ep y)).1 (ml (ep x) (ep y)).2
theorem infp_true {x : Int} (h : infp x = true) : x = 19342822337206103650074625 ∨ x = -19342822337206103650074625 := by
 unfold infp at h
 simp [TP_eq] at h
 omega
theorem ff : ¬ (false = true) := Bool.false_ne_true
theorem addp_ff {x y : Int} (up : Bool) (hx : infp x = false) (hy : infp y = false) : addp up x y = rnd up (pl (ep x) (ep y)).1 (pl (ep x) (ep y)).2 := by
 unfold addp
 rw [hx, hy, if_neg ff, if_neg ff]
theorem addp_ft {x y : Int} (up : Bool) (hx : infp x = false) (hy : infp y = true) : addp up x y = y := by
 unfold addp
 rw [hx, hy, if_neg ff, if_pos rfl]
theorem addp_tf {x y : Int} (up : Bool) (hx : infp x = true) (hy : infp y = false) : addp up x y = x := by
 unfold addp
 rw [hx, hy, if_pos rfl, if_neg (fun c => ff c.1)]
theorem addp_diff {x y : Int} (up : Bool) (hx : infp x = true) (hy : infp y = true) (h : x ≠ y) : addp up x y = sgi (!up) TP := by
 unfold addp
 rw [hx, hy, if_pos rfl, if_pos ⟨rfl, h⟩]
theorem addp_comm {x y : Int} (up : Bool) : addp up x y = addp up y x := by
 cases hx : infp x <;> cases hy : infp y
 · rw [addp_ff up hx hy, addp_ff up hy hx, pl_comm (ep_nf x) (ep_nf y)]
 · rw [addp_ft up hx hy, addp_tf up hy hx]
 · rw [addp_tf up hx hy, addp_ft up hy hx]
 · by_cases h : x = y
   · rw [h]
   · rw [addp_diff up hx hy h, addp_diff up hy hx (fun e => h e.symm)]
theorem mulp_zero {x y : Int} (up : Bool) (h : x = 0 ∨ y = 0) : mulp up x y = 0 := by
 unfold mulp
 rw [if_pos h]
theorem mulp_inf {x y : Int} (up : Bool) (h : ¬ (x = 0 ∨ y = 0)) (hi : infp x = true ∨ infp y = true) : mulp up x y = sgi (decide (x < 0) != decide (y < 0)) TP := by
 unfold mulp
 rw [if_neg h, if_pos hi]
theorem mulp_fin {x y : Int} (up : Bool) (h : ¬ (x = 0 ∨ y = 0)) (hi : ¬ (infp x = true ∨ infp y = true)) : mulp up x y = rnd up (ml (ep x) (ep y)).1 (ml (ep x) (ep y)).2 := by
 unfold mulp
 rw [if_neg h, if_neg hi]
theorem mulp_comm {x y : Int} (up : Bool) : mulp up x y = mulp up y x := by
 by_cases h0 : x = 0 ∨ y = 0
 · rw [mulp_zero up h0, mulp_zero up h0.symm]
 · have h0' : ¬ (y = 0 ∨ x = 0) := fun c => h0 c.symm
   by_cases h1 : infp x = true ∨ infp y = true
   · rw [mulp_inf up h0 h1, mulp_inf up h0' h1.symm]
     cases decide (x < 0) <;> cases decide (y < 0) <;> rfl
   · rw [mulp_fin up h0 h1, mulp_fin up h0' (fun c => h1 c.symm), ml_comm (ep x) (ep y)]
theorem vr_pos {x : Int} (h : 0 < x) : 0 < vr x := by
 have := vr_lt h
 rwa [show vr 0 = 0 from rfl] at this
theorem vr_nn {x : Int} (h : 0 ≤ x) : 0 ≤ vr x := by
 rcases Int.lt_or_eq_of_le h with q | q
 · exact Int.le_of_lt (vr_pos q)
 · rw [← q]; decide
theorem vr_le {x y : Int} (h : x ≤ y) : vr x ≤ vr y := by
 rcases Int.lt_or_eq_of_le h with q | q
 · exact Int.le_of_lt (vr_lt q)
 · rw [q]; exact Int.le_refl _
theorem sgT (s : Bool) : sgi s TP = TP ∨ sgi s TP = -TP := by
 cases s
 · exact .inl (if_neg (by decide))
 · exact .inr (if_pos rfl)
theorem ep_zero : ep 0 = (0, 0) := if_pos rfl
theorem opl_pos {n : Int} (h : 0 < n) (h1 : n ≤ 9223372036854775807) : 0 < opl n ∧ opl n < 19342822337206103650074625 := by
 have e : opl n = lo n.natAbs 0 := by
   unfold opl
   rw [decide_eq_false (show ¬ n < 0 by omega)]
   exact if_neg (by decide)
 have hc := opl_cmp (a := n) (b := 0) (by omega) h1 (by decide) (by decide); rw [opl_zero, cmpI_gt h] at hc
 have := (lo_bd n.natAbs 0).2
 rw [← e] at this; refine ⟨?_, by omega⟩
 rcases cmpI_tri (opl n) 0 with ⟨a, b⟩ | ⟨a, b⟩ | ⟨a, b⟩
 · rw [b] at hc; exact absurd hc (by decide)
 · rw [b] at hc; exact absurd hc (by decide)
 · exact a
theorem infp_fin {x : Int} (h1 : -19342822337206103650074625 < x) (h2 : x < 19342822337206103650074625) : infp x = false := by
 cases h : infp x
 · rfl
 · have := infp_true h; omega
theorem wsg_f (x : Int) : sgi false x = x := if_neg (by decide)
theorem wsg_t (x : Int) : sgi true x = -x := if_pos rfl
theorem mk_vl {z e : Int} (h : z.natAbs < 2 ^ 128) (h1 : -3000000 ≤ e) (h2 : e ≤ 3000000) : vl (mk z e) = z * 2 ^ (e + KK).toNat := by
 obtain ⟨η, hη⟩ : ∃ η : Nat, η = 4000000 := ⟨_, rfl⟩; refine (mk_fit (h := η) (by omega) (by omega) ?_).2
 have := Nat.mul_lt_mul_of_pos_right h (Nat.pow_pos (n := (e + (η : Int)).toNat) (show 0 < 2 by decide))
 rw [← Nat.pow_add] at this; exact Nat.lt_of_lt_of_le this (Nat.pow_le_pow_right (by decide) (by omega))
theorem div_le_self {M p : Int} (h0 : 0 ≤ M) (hp : 0 < p) : 0 ≤ M / p ∧ M / p ≤ M := ⟨Int.ediv_nonneg h0 (Int.le_of_lt hp), Int.ediv_le_self _ h0⟩
set_option linter.unusedSimpArgs false
set_option maxRecDepth 100000
theorem gFair {w : World} {D M E : Int} {s : Bool} {r : Int} (hM : LQ M) (hr : rk D s M E = r) : Calls Tryz.prog 45 #[VQ D s M E] w (PN w r) := by
 delta VQ
 by_cases hm : MayQ D s M E
 · have HQ := rk_fq hM hm; rw [hr] at HQ
   have HC := Lib.hid (show decide (MayQ D s M E) = true from decide_eq_true hm)
   clear hm hr hM
   go_enter Tryz.func45, Tryz.ntmps45
   go_upto_region 1 with (fail)
   generalize hW1 : (w.alloc _).alloc _ = w1 at *; obtain ⟨X1, XR, HB⟩ := Bo.en2 hW1; clear hW1; have xX1 := X1.cell
   go_wp2_with fail
   refine (yMay HC.out).mono ?_; rintro ee w2 ⟨rfl, B⟩; clear xX1; replace X1 := X1.below B; replace XR := XR.below B; replace HB := Hqb HB B; clear B; have xXR := XR.cell; have zXR0 := XR.frozen; have xX1 := X1.cell; go_wp2; clear xXR zXR0 xX1; have SX := StN.mk4 XR (.int .i64 D) (.bool s) (.int .u64 M) (.int .i64 E)
   exact bodyPost_ret (by simp [results, Tryz.results45, go_sem, SX.box.cell]) rfl ⟨D, s, M, E, rfl, HQ, (SX.below HB.out (by omega))⟩
 · rw [rk_not hm] at hr; subst hr
   have HC := Lib.hid (show decide (MayQ D s M E) = false from decide_eq_false hm)
   clear hm hM
   go_enter Tryz.func45, Tryz.ntmps45
   go_upto_region 1 with (fail)
   generalize hW1 : (w.alloc _).alloc _ = w1 at *; obtain ⟨X1, XR, HB⟩ := Bo.en2 hW1; clear hW1; have xX1 := X1.cell
   go_wp2_with fail
   refine (yMay HC.out).mono ?_; rintro ee w2 ⟨rfl, B⟩; clear xX1; replace X1 := X1.below B; replace XR := XR.below B; replace HB := Hqb HB B; clear B; have xXR := XR.cell; have zXR0 := XR.frozen; have xX1 := X1.cell; go_wp2; clear xXR zXR0 xX1; have SX := StN.mk4 XR (.int .i64 0) (.bool false) (.int .u64 0) (.int .i64 0)
   exact bodyPost_ret (by simp [results, Tryz.results45, go_sem, SX.box.cell]) rfl ⟨_, _, _, _, rfl, Fq.nought, (SX.below HB.out (by omega))⟩
abbrev Sp := Option (Int × Int)
def mkI (a b : Int) : Sp := if a ≤ b ∧ a < 19342822337206103650074625 ∧ -19342822337206103650074625 < b then some (a, b) else none
def SpOk : Sp → Prop
 | none => True
 | some (a, b) => -19342822337206103650074625 ≤ a ∧ a ≤ b ∧ b ≤ 19342822337206103650074625 ∧ a < 19342822337206103650074625 ∧ -19342822337206103650074625 < b
theorem mkI_some {a b : Int} (h : a ≤ b) (h1 : a < 19342822337206103650074625) (h2 : -19342822337206103650074625 < b) : mkI a b = some (a, b) := by
 unfold mkI
 rw [if_pos ⟨h, h1, h2⟩]
theorem mkI_none {a b : Int} (h : ¬ (a ≤ b ∧ a < 19342822337206103650074625 ∧ -19342822337206103650074625 < b)) : mkI a b = none := by
 unfold mkI
 rw [if_neg h]
theorem mkI_ok {a b : Int} (h1 : -19342822337206103650074625 ≤ a) (h2 : b ≤ 19342822337206103650074625) : SpOk (mkI a b) := by
 by_cases h : a ≤ b ∧ a < 19342822337206103650074625 ∧ -19342822337206103650074625 < b
 · rw [mkI_some h.1 h.2.1 h.2.2]; exact ⟨h1, h.1, h2, h.2.1, h.2.2⟩
 · rw [mkI_none h]; exact trivial
def mvs (p : Int × Int) (k : Int) : Int × Int := mk p.1 (p.2 + k)
theorem dMove {w : World} {A : Option Addr} {n c : Nat} {s : Bool} {z e k N E : Int} (hT : Tab w) (h : Wr w s A n c z) (hn : n ≤ 100000) (k1 : -2000 ≤ k) (k2 : k ≤ 2000) (hN : (mvs (mk z e) k).1 = N) (hE : (mvs (mk z e) k).2 = E) :
   Calls Tryz.prog 44 #[.agg #[.bool s, .slice A n c, .int .i64 e], .int .i64 k] w (D1 w n N E) := by
 obtain ⟨b1, b2⟩ := mk_bd z e
 have hv : mvs (mk z e) k = mk (mk z e).1 (IntKind.i64.wrap ((mk z e).2 + k)) := by rw [IntWalk.i64_in _ (by omega)]; rfl
 rw [hv] at hN hE; exact dMoveW hT h hn hN hE
theorem qmoved_up {w : World} {A : Option Addr} {n c α k r : Nat} (h : Rd w A n c α) (hn : n ≤ 8000) (hk : k ≤ 200000) (hr : α * 2 ^ k = r) : Calls Tryz.prog 118 #[.slice A n c, .int .i64 (k : Int)] w (P1B w 15000 r true) := by
 have HR := Lib.hid hr; clear hr
 have hd : decide ((0 : Int) ≤ (k : Int)) = true := decide_eq_true (Int.natCast_nonneg k)
 go_enter Tryz.func118, Tryz.ntmps118
 go_wp2_with fail
 refine (vShlE h (by omega) (by omega) HR.out).mono ?_; rintro ee w2 ⟨A2, n2, c2, rfl, p2, k2, B2⟩; go_wp2; exact bodyPost_ret (v := .tuple #[.slice A2 n2 c2, .bool true]) (by simp [results, Tryz.results118, go_sem]) rfl ⟨A2, n2, c2, rfl, p2, by omega, B2⟩
theorem qmoved_dn {w : World} {A : Option Addr} {n c α k d r : Nat} {z y : Int} {t : Bool} (h : Rd w A n c α) (hn : n ≤ 8000) (hk : k ≤ 200000) (h0 : 0 < k) (hz : -z = (k : Int)) (hr : α / 2 ^ k = r) (hd : r * 2 ^ k = d) (hy : cmpI (d : Int) (α : Int) = y) (ht : (y == 0) = t) : Calls Tryz.prog 118 #[.slice A n c, .int .i64 z] w (P1B w 15000 r t) := by
 have HR : Hid (α / 2 ^ (k : Int).toNat = r) := Lib.hid (by rw [Int.toNat_natCast]; exact hr)
 have HD := Lib.hid hd; have HY := Lib.hid hy
 have hlt : decide (0 ≤ z) = false := decide_eq_false (by omega)
 have hlt2 : ¬ (0 ≤ z) := by omega
 have hw : IntKind.i64.wrap (-z) = (k : Int) := by rw [hz]; exact IntWalk.i64_in _ (by omega)
 clear hr hd hy
 go_enter Tryz.func118, Tryz.ntmps118
 go_wp2_with fail
 refine (vShrE (z := (k : Int)) h (by omega) HR.out).mono ?_; rintro ee w2 ⟨A2, n2, c2, rfl, p2, k2, B2⟩
 go_wp2_with fail
 refine (vShlE p2.rd (by omega) (by omega) HD.out).mono ?_; rintro ee w3 ⟨A3, n3, c3, rfl, p3, k3, B3⟩
 go_wp2_with fail
 refine (vCmpE p3.rd ((h.below B2).below B3) HY.out).mono ?_; rintro ee w4 ⟨rfl, B4⟩; go_wp2; exact bodyPost_ret (v := .tuple #[.slice A2 n2 c2, .bool t]) (by simp [results, Tryz.results118, go_sem]) rfl ⟨A2, n2, c2, rfl, (p2.below B3).below B4, by omega, bt B2 (bt B3 B4)⟩
theorem qAway {w : World} {up : Bool} {r : Int} (hr : sgi (!up) TP = r) : Calls Tryz.prog 92 #[.bool up] w (PN w r) := by
 have HR := Lib.hid hr; clear hr
 go_enter Tryz.func92, Tryz.ntmps92
 go_upto_region 1 with (fail)
 generalize hW1 : w.alloc _ = w1 at *; obtain ⟨XR, HB⟩ := Bo.en1 hW1; clear hW1
 go_wp2_with fail
 refine (nInf (s := !up) HR.out).mono ?_; rintro ee w2 ⟨K1, s1, M1, E1, rfl, q1, B⟩; replace XR := XR.below B; replace HB := Hqb HB B; clear B; have xXR := XR.cell; have zXR0 := XR.frozen; go_wp2; clear xXR zXR0; have SX := StN.mk4 XR (.int .i64 K1) (.bool s1) (.int .u64 M1) (.int .i64 E1); exact bodyPost_ret (by simp [results, Tryz.results92, go_sem, SX.box.cell]) rfl ⟨_, _, _, _, rfl, q1, (SX.below HB.out (by omega))⟩
end Go.Proofs.YtmmallhniijdfaaGreatDoor

/-
 Contracts that the proof rests on.
-/
import Derived.Test.YtmmallhniijdfaaDoorYAaq
namespace Go.Proofs.YtmmallhniijdfaaDoor
open Go.RowKit
set_option linter.unusedVariables false
def TP : Int := 19342822337206103650074625
theorem TP_eq : TP = 19342822337206103650074625 := rfl
def MayQ (K : Int) (s : Bool) (M E : Int) : Prop := (K = 0 ∧ s = false ∧ M = 0 ∧ E = 0) ∨ (K = 1 ∧ 9223372036854775808 ≤ M ∧ -1048576 ≤ E ∧ E ≤ 1048576) ∨ (K = 2 ∧ M = 0 ∧ E = 0)
instance (K : Int) (s : Bool) (M E : Int) : Decidable (MayQ K s M E) := by unfold MayQ; infer_instance
def plc (K M E : Int) : Int := if K = 0 then 0 else if K = 1 then M - 9223372036854775808 + 1 + (E + 1048576) * 9223372036854775808 else TP
def sgi (s : Bool) (x : Int) : Int := if s = true then -x else x
def rk (K : Int) (s : Bool) (M E : Int) : Int := if MayQ K s M E then sgi s (plc K M E) else 0
def Fq (K : Int) (s : Bool) (M E r : Int) : Prop := MayQ K s M E ∧ M < 18446744073709551616 ∧ sgi s (plc K M E) = r
theorem Fq.cases {K : Int} {s : Bool} {M E r : Int} (h : Fq K s M E r) : (K = 0 ∧ s = false ∧ M = 0 ∧ E = 0 ∧ r = 0) ∨ (K = 1 ∧ 9223372036854775808 ≤ M ∧ M < 18446744073709551616 ∧ -1048576 ≤ E ∧ E ≤ 1048576 ∧ ((s = false ∧ r = M - 9223372036854775808 + 1 + (E + 1048576) * 9223372036854775808) ∨ (s = true ∧ -r = M - 9223372036854775808 + 1 + (E + 1048576) * 9223372036854775808)))
   ∨ (K = 2 ∧ M = 0 ∧ E = 0 ∧ ((s = false ∧ r = 19342822337206103650074625) ∨ (s = true ∧ r = -19342822337206103650074625))) := by
 obtain ⟨h1, h2, h3⟩ := h
 rcases h1 with ⟨rfl, rfl, rfl, rfl⟩ | ⟨rfl, h4, h5, h6⟩ | ⟨rfl, rfl, rfl⟩
 · left
   exact ⟨rfl, rfl, rfl, rfl, by rw [← h3]; rfl⟩
 · right; left
   refine ⟨rfl, h4, h2, h5, h6, ?_⟩
   cases s
   · left
     exact ⟨rfl, h3.symm⟩
   · right
     have h3' : -(M - 9223372036854775808 + 1 + (E + 1048576) * 9223372036854775808) = r := h3
     exact ⟨rfl, by rw [← h3', Int.neg_neg]⟩
 · right; right
   refine ⟨rfl, rfl, rfl, ?_⟩
   cases s
   · left
     exact ⟨rfl, h3.symm⟩
   · right
     exact ⟨rfl, h3.symm⟩
theorem Fq.fin {s : Bool} {M E r : Int} (h1 : 9223372036854775808 ≤ M) (h2 : M < 18446744073709551616) (h3 : -1048576 ≤ E) (h4 : E ≤ 1048576) (hr : sgi s (M - 9223372036854775808 + 1 + (E + 1048576) * 9223372036854775808) = r) : Fq 1 s M E r :=
 ⟨Or.inr (Or.inl ⟨rfl, h1, h3, h4⟩), h2, hr⟩
theorem Fq.nought : Fq 0 false 0 0 0 := ⟨Or.inl ⟨rfl, rfl, rfl, rfl⟩, by decide, rfl⟩
theorem Fq.inf (s : Bool) : Fq 2 s 0 0 (sgi s TP) := ⟨Or.inr (Or.inr ⟨rfl, rfl, rfl⟩), by decide, rfl⟩
theorem Fq.uniq {K K' : Int} {s s' : Bool} {M M' E E' r : Int} (h : Fq K s M E r) (k : Fq K' s' M' E' r) : K = K' ∧ s = s' ∧ M = M' ∧ E = E' := by
 rcases h.cases with ⟨rfl, rfl, rfl, rfl, h0⟩ | ⟨rfl, h1, h2, h3, h4, ⟨rfl, h5⟩ | ⟨rfl, h5⟩⟩ | ⟨rfl, rfl, rfl, ⟨rfl, h5⟩ | ⟨rfl, h5⟩⟩ <;>
   rcases k.cases with ⟨rfl, rfl, rfl, rfl, k0⟩ | ⟨rfl, k1, k2, k3, k4, ⟨rfl, k5⟩ | ⟨rfl, k5⟩⟩ | ⟨rfl, rfl, rfl, ⟨rfl, k5⟩ | ⟨rfl, k5⟩⟩ <;>
   first | exact ⟨rfl, rfl, rfl, rfl⟩ | (exfalso; omega) | exact ⟨rfl, rfl, by omega, by omega⟩
theorem Fq.bd {K : Int} {s : Bool} {M E r : Int} (h : Fq K s M E r) : -19342822337206103650074625 ≤ r ∧ r ≤ 19342822337206103650074625 := by
 rcases h.cases with ⟨rfl, rfl, rfl, rfl, h0⟩ | ⟨rfl, h1, h2, h3, h4, ⟨rfl, h5⟩ | ⟨rfl, h5⟩⟩ | ⟨rfl, rfl, rfl, ⟨rfl, h5⟩ | ⟨rfl, h5⟩⟩ <;> omega
theorem Fq.top {K : Int} {s : Bool} {M E r : Int} (h : Fq K s M E r) : M < 18446744073709551616 := h.2.1
theorem Fq.rk {K : Int} {s : Bool} {M E r : Int} (h : Fq K s M E r) : rk K s M E = r := by
 unfold Go.Proofs.YtmmallhniijdfaaDoor.rk
 rw [if_pos h.1]; exact h.2.2
theorem rk_not {K : Int} {s : Bool} {M E : Int} (h : ¬ MayQ K s M E) : rk K s M E = 0 := by
 unfold rk
 rw [if_neg h]
theorem rk_fq {K : Int} {s : Bool} {M E : Int} (hM : M < 18446744073709551616) (h : MayQ K s M E) : Fq K s M E (rk K s M E) := ⟨h, hM, by unfold rk; rw [if_pos h]⟩
theorem rk_bd {K : Int} {s : Bool} {M E : Int} (hM : LQ M) : -19342822337206103650074625 ≤ rk K s M E ∧ rk K s M E ≤ 19342822337206103650074625 := by
 by_cases h : MayQ K s M E
 · exact (rk_fq hM h).bd
 · rw [rk_not h]; decide
theorem rk_neg {K : Int} {s : Bool} {M E r : Int} (h : Fq K s M E r) (hK : K ≠ 0) : Fq K (!s) M E (-r) := by
 rcases h.cases with ⟨rfl, rfl, rfl, rfl, h0⟩ | ⟨rfl, h1, h2, h3, h4, ⟨rfl, h5⟩ | ⟨rfl, h5⟩⟩ | ⟨rfl, rfl, rfl, ⟨rfl, h5⟩ | ⟨rfl, h5⟩⟩
 · exact absurd rfl hK
 · exact Fq.fin h1 h2 h3 h4 (by rw [h5]; rfl)
 · exact Fq.fin h1 h2 h3 h4 (by rw [h5]; rfl)
 · subst h5; exact Fq.inf true
 · subst h5; exact Fq.inf false
def fa (K M E K' M' E' : Int) : Int := if K ≠ K' then cmpI K K' else if E ≠ E' then cmpI E E' else cmpI M M'
theorem fa_bd (K M E K' M' E' : Int) : -1 ≤ fa K M E K' M' E' ∧ fa K M E K' M' E' ≤ 1 := by
 unfold fa
 split
 · exact cmpI_bd _ _
 · split
   · exact cmpI_bd _ _
   · exact cmpI_bd _ _
theorem cmpI_tri (x y : Int) : (x < y ∧ cmpI x y = -1) ∨ (x = y ∧ cmpI x y = 0) ∨ (y < x ∧ cmpI x y = 1) := by
 unfold cmpI
 by_cases h1 : x < y
 · rw [if_pos h1]; exact Or.inl ⟨h1, rfl⟩
 · by_cases h2 : y < x
   · rw [if_neg h1, if_pos h2]; exact Or.inr (Or.inr ⟨h2, rfl⟩)
   · rw [if_neg h1, if_neg h2]; exact Or.inr (Or.inl ⟨by omega, rfl⟩)
theorem Fq.plc {K : Int} {s : Bool} {M E r : Int} (h : Fq K s M E r) (hK : K ≠ 0) : (K = 1 ∧ 9223372036854775808 ≤ M ∧ M < 18446744073709551616 ∧ -1048576 ≤ E ∧ E ≤ 1048576 ∧ plc K M E = M - 9223372036854775808 + 1 + (E + 1048576) * 9223372036854775808) ∨ (K = 2 ∧ M = 0 ∧ E = 0 ∧ plc K M E = 19342822337206103650074625) := by
 obtain ⟨h1, h2, h3⟩ := h
 rcases h1 with ⟨rfl, rfl, rfl, rfl⟩ | ⟨rfl, h4, h5, h6⟩ | ⟨rfl, rfl, rfl⟩
 · exact absurd rfl hK
 · exact Or.inl ⟨rfl, h4, h2, h5, h6, rfl⟩
 · exact Or.inr ⟨rfl, rfl, rfl, rfl⟩
theorem fa_plc {K K' : Int} {s s' : Bool} {M M' E E' r r' : Int} (h : Fq K s M E r) (k : Fq K' s' M' E' r') (hK : K ≠ 0) (hK' : K' ≠ 0) : fa K M E K' M' E' = cmpI (plc K M E) (plc K' M' E') := by
 unfold fa
 rcases h.plc hK with ⟨rfl, h1, h2, h3, h4, h5⟩ | ⟨rfl, rfl, rfl, h5⟩ <;> rcases k.plc hK' with ⟨rfl, k1, k2, k3, k4, k5⟩ | ⟨rfl, rfl, rfl, k5⟩ <;> simp only [h5, k5]
 · rw [if_neg (by decide)]
   rcases cmpI_tri E E' with ⟨b1, b2⟩ | ⟨b1, b2⟩ | ⟨b1, b2⟩
   · rw [if_pos (by omega), b2, cmpI_lt (by omega)]
   · rw [if_neg (by omega)]
     rcases cmpI_tri M M' with ⟨c1, c2⟩ | ⟨c1, c2⟩ | ⟨c1, c2⟩
     · rw [c2, cmpI_lt (by omega)]
     · rw [c2, cmpI_eq (by omega)]
     · rw [c2, cmpI_gt (by omega)]
   · rw [if_pos (by omega), b2, cmpI_gt (by omega)]
 · rw [if_pos (by decide), cmpI_lt (by decide), cmpI_lt (by omega)]
 · rw [if_pos (by decide), cmpI_gt (by decide), cmpI_gt (by omega)]
 · rw [if_neg (by decide), if_neg (by decide)]
   rfl
theorem plc_pos {K : Int} {s : Bool} {M E r : Int} (h : Fq K s M E r) (hK : K ≠ 0) : 0 < plc K M E := by
 rcases h.plc hK with ⟨rfl, h1, h2, h3, h4, h5⟩ | ⟨rfl, rfl, rfl, h5⟩ <;> rw [h5] <;> omega
theorem cmpI_negs (x y : Int) : cmpI (-x) (-y) = -cmpI x y := by
 rcases cmpI_tri x y with ⟨a1, a2⟩ | ⟨a1, a2⟩ | ⟨a1, a2⟩ <;> rw [a2]
 · rw [cmpI_gt (by omega), Int.neg_neg]
 · rw [cmpI_eq (by omega)]; rfl
 · rw [cmpI_lt (by omega)]
theorem fa_fq {K K' : Int} {s : Bool} {M M' E E' r r' : Int} (h : Fq K s M E r) (k : Fq K' s M' E' r') (hK : K ≠ 0) (hK' : K' ≠ 0) : cmpI r 0 * fa K M E K' M' E' = cmpI r r' := by
 rw [fa_plc h k hK hK', ← h.2.2, ← k.2.2]; have p1 := plc_pos h hK
 cases s
 · show cmpI (plc K M E) 0 * _ = cmpI (plc K M E) (plc K' M' E')
   rw [cmpI_gt p1, Int.one_mul]
 · show cmpI (-plc K M E) 0 * _ = cmpI (-plc K M E) (-plc K' M' E')
   rw [cmpI_lt (show -plc K M E < 0 by omega), cmpI_negs, Int.neg_mul, Int.one_mul]
theorem Fq.zero_iff {K : Int} {s : Bool} {M E r : Int} (h : Fq K s M E r) : K = 0 ↔ r = 0 := by
 rcases h.cases with ⟨rfl, rfl, rfl, rfl, h0⟩ | ⟨rfl, h1, h2, h3, h4, ⟨rfl, h5⟩ | ⟨rfl, h5⟩⟩ | ⟨rfl, rfl, rfl, ⟨rfl, h5⟩ | ⟨rfl, h5⟩⟩ <;> constructor <;> intro _ <;> omega
theorem Fq.sign {K : Int} {s : Bool} {M E r : Int} (h : Fq K s M E r) (hK : K ≠ 0) : cmpI r 0 = if s = true then -1 else 1 := by
 rcases h.cases with ⟨rfl, rfl, rfl, rfl, h0⟩ | ⟨rfl, h1, h2, h3, h4, ⟨rfl, h5⟩ | ⟨rfl, h5⟩⟩ | ⟨rfl, rfl, rfl, ⟨rfl, h5⟩ | ⟨rfl, h5⟩⟩
 · exact absurd rfl hK
 · rw [cmpI_gt (by omega)]; rfl
 · rw [cmpI_lt (by omega)]; rfl
 · rw [cmpI_gt (by omega)]; rfl
 · rw [cmpI_lt (by omega)]; rfl
theorem cmp_far {K K' : Int} {s s' : Bool} {M M' E E' : Int} (hM : LQ M) (hM' : LQ M') (he : cmpI (rk K s M E) 0 = cmpI (rk K' s' M' E') 0) : cmpI (rk K s M E) 0 * fa K M E K' M' E' = cmpI (rk K s M E) (rk K' s' M' E') := by
 by_cases h0 : rk K s M E = 0
 · have h1 : rk K' s' M' E' = 0 := by
     rw [h0, cmpI_eq rfl] at he; exact cmpI_zero.1 he.symm
   rw [h0, h1, cmpI_eq rfl, Int.zero_mul]
 · have h1 : rk K' s' M' E' ≠ 0 := fun h => by
     rw [h, cmpI_eq rfl] at he; exact h0 (cmpI_zero.1 he)
   have m1 : MayQ K s M E := Decidable.by_contra fun h => h0 (rk_not h)
   have m2 : MayQ K' s' M' E' := Decidable.by_contra fun h => h1 (rk_not h)
   have f1 := rk_fq hM m1; have f2 := rk_fq hM' m2
   have k1 : K ≠ 0 := fun h => h0 (f1.zero_iff.1 h)
   have k2 : K' ≠ 0 := fun h => h1 (f2.zero_iff.1 h)
   have hs : s = s' := by
     rw [f1.sign k1, f2.sign k2] at he
     cases s <;> cases s' <;> first | rfl | exact absurd he (by decide)
   subst hs; exact fa_fq f1 f2 k1 k2
theorem cmp_sign {x y : Int} (he : cmpI x 0 ≠ cmpI y 0) : cmpI (cmpI x 0) (cmpI y 0) = cmpI x y := by
 rcases cmpI_tri x 0 with ⟨a1, a2⟩ | ⟨a1, a2⟩ | ⟨a1, a2⟩ <;> rcases cmpI_tri y 0 with ⟨b1, b2⟩ | ⟨b1, b2⟩ | ⟨b1, b2⟩ <;> rw [a2, b2] at he ⊢
 · exact absurd rfl he
 · rw [cmpI_lt (show x < y by omega)]; rfl
 · rw [cmpI_lt (show x < y by omega)]; rfl
 · rw [cmpI_gt (show y < x by omega)]; rfl
 · exact absurd rfl he
 · rw [cmpI_lt (show x < y by omega)]; rfl
 · rw [cmpI_gt (show y < x by omega)]; rfl
 · rw [cmpI_gt (show y < x by omega)]; rfl
 · exact absurd rfl he
def nx (up : Bool) (r : Int) : Int := if up = true then min TP (r + 1) else max (-TP) (r - 1)
end Go.Proofs.YtmmallhniijdfaaDoor
namespace Go.Proofs.YtmmallhniijdfaaDoor
set_option maxHeartbeats 2000000
open Go.RowKit
set_option linter.unusedVariables false
theorem StN.mk4 {w : World} {g : Nat} {T : TypeId} {a b c d : Value} (X : Bo w g #[a, b, c, d] T) (u v t x : Value) : StN w ((((w.setCell ⟨g, 0, none⟩ u).setCell ⟨g, 1, none⟩ v).setCell ⟨g, 2, none⟩ t).setCell ⟨g, 3, none⟩ x) g #[a, b, c, d] #[u, v, t, x] T :=
 ⟨X, by simpa using (((X.set 0 u).set 1 v).set 2 t).set 3 x, fun k hk => by rw [Below.heap_setCell _ _ _ _ hk, Below.heap_setCell _ _ _ _ hk, Below.heap_setCell _ _ _ _ hk, Below.heap_setCell _ _ _ _ hk], fun B a hg h => below_store (st3 h hg u v t) hg 3 x⟩
theorem StN.at4 {w : World} {g : Nat} {T : TypeId} {cs : Array Value} (X : Bo w g cs T) (i : Nat) (v : Value) : StN w (w.setCell ⟨g, i, none⟩ v) g cs (cs.setIfInBounds i v) T :=
 ⟨X, X.set i v, fun k hk => Below.heap_setCell _ _ _ _ hk, fun B a hg h => below_store h hg i v⟩
theorem mayQ0 {s : Bool} {M E : Int} : decide (MayQ 0 s M E) = ((s == false) && ((M == 0) && (E == 0))) := by
 unfold MayQ
 rw [Bool.eq_iff_iff]
 simp
theorem mayQ1 {s : Bool} {M E : Int} : decide (MayQ 1 s M E) = (decide (9223372036854775808 ≤ M) && (decide (-1048576 ≤ E) && decide (E ≤ 1048576))) := by
 unfold MayQ
 rw [Bool.eq_iff_iff]
 simp
theorem mayQ2 {s : Bool} {M E : Int} : decide (MayQ 2 s M E) = ((M == 0) && (E == 0)) := by
 unfold MayQ
 rw [Bool.eq_iff_iff]
 simp
theorem mayQ3 {K : Int} {s : Bool} {M E : Int} (h0 : K ≠ 0) (h1 : K ≠ 1) (h2 : K ≠ 2) : decide (MayQ K s M E) = false := by
 unfold MayQ
 simp [h0, h1, h2]
theorem nMay {w : World} {K M E : Int} {s : Bool} {r : Bool} (hr : decide (MayQ K s M E) = r) : Calls Tryd.prog 30 #[VQ K s M E] w (PB w r) := by
 delta VQ
 subst hr
 by_cases h0 : K = 0
 · subst h0; rw [mayQ0]
   go_enter Tryd.func30, Tryd.ntmps30
   go_wp2
   all_goals go_ret
   all_goals exact ⟨by simp_all, bel1 _ _⟩
 by_cases h1 : K = 1
 · subst h1; rw [mayQ1]
   by_cases c1 : 9223372036854775808 ≤ M
   · have e1 : decide (9223372036854775808 ≤ M) = true := decide_eq_true c1
     by_cases c2 : -1048576 ≤ E
     · have e2 : decide (-1048576 ≤ E) = true := decide_eq_true c2
       by_cases c3 : E ≤ 1048576
       · have e3 : decide (E ≤ 1048576) = true := decide_eq_true c3
         rw [e1, e2, e3]
         go_enter Tryd.func30, Tryd.ntmps30
         go_wp2
         go_ret
         exact ⟨rfl, bel1 _ _⟩
       · have e3 : decide (E ≤ 1048576) = false := decide_eq_false c3
         rw [e1, e2, e3]
         go_enter Tryd.func30, Tryd.ntmps30
         go_wp2
         go_ret
         exact ⟨rfl, bel1 _ _⟩
     · have e2 : decide (-1048576 ≤ E) = false := decide_eq_false c2
       rw [e1, e2]
       go_enter Tryd.func30, Tryd.ntmps30
       go_wp2
       go_ret
       exact ⟨rfl, bel1 _ _⟩
   · have e1 : decide (9223372036854775808 ≤ M) = false := decide_eq_false c1
     rw [e1]
     go_enter Tryd.func30, Tryd.ntmps30
     go_wp2
     go_ret
     exact ⟨rfl, bel1 _ _⟩
 by_cases h2 : K = 2
 · subst h2; rw [mayQ2]
   by_cases c1 : M = 0
   · subst c1
     by_cases c2 : E = 0
     · subst c2
       go_enter Tryd.func30, Tryd.ntmps30
       go_wp2
       go_ret
       exact ⟨rfl, bel1 _ _⟩
     · have e2 : (E == 0) = false := by simpa using c2
       rw [e2]
       go_enter Tryd.func30, Tryd.ntmps30
       go_wp2
       go_ret
       exact ⟨rfl, bel1 _ _⟩
   · have e1 : (M == 0) = false := by simpa using c1
     rw [e1]
     go_enter Tryd.func30, Tryd.ntmps30
     go_wp2
     go_ret
     exact ⟨rfl, bel1 _ _⟩
 · rw [mayQ3 h0 h1 h2]
   have e0 : (K == 0) = false := by simpa using h0
   have e1 : (K == 1) = false := by simpa using h1
   have e2 : (K == 2) = false := by simpa using h2
   go_enter Tryd.func30, Tryd.ntmps30
   go_wp2
   go_ret
   exact ⟨rfl, bel1 _ _⟩
theorem StN.of4 {w w1 : World} {g : Nat} {T : TypeId} {a0 a1 a2 a3 v0 v1 v2 v3 : Value} (X : Bo w g #[a0, a1, a2, a3] T) (h : (((w.setCell ⟨g, 0, none⟩ v0).setCell ⟨g, 1, none⟩ v1).setCell ⟨g, 2, none⟩ v2).setCell ⟨g, 3, none⟩ v3 = w1) : StN w w1 g #[a0, a1, a2, a3] #[v0, v1, v2, v3] T := h ▸ StN.mk4 X v0 v1 v2 v3
set_option linter.unusedSimpArgs false
set_option maxRecDepth 100000
def PN (w : World) (r : Int) (e : Ending) (w' : World) : Prop := ∃ D s M E, e = .returned (.agg #[.int .i64 D, .bool s, .int .u64 M, .int .i64 E]) ∧ Fq D s M E r ∧ Below w.heap.size w w'
theorem Fq.three {D : Int} {s : Bool} {M E r : Int} (h : Fq D s M E r) : (D = 0 ∧ r = 0) ∨ (D ≠ 0 ∧ s = false ∧ 0 < r) ∨ (D ≠ 0 ∧ s = true ∧ r < 0) := by
 rcases h.cases with ⟨rfl, rfl, rfl, rfl, h0⟩ | ⟨rfl, h1, h2, h3, h4, ⟨rfl, h5⟩ | ⟨rfl, h5⟩⟩ | ⟨rfl, rfl, rfl, ⟨rfl, h5⟩ | ⟨rfl, h5⟩⟩
 · exact Or.inl ⟨rfl, h0⟩
 · exact Or.inr (Or.inl ⟨by decide, rfl, by omega⟩)
 · exact Or.inr (Or.inr ⟨by decide, rfl, by omega⟩)
 · exact Or.inr (Or.inl ⟨by decide, rfl, by omega⟩)
 · exact Or.inr (Or.inr ⟨by decide, rfl, by omega⟩)
theorem nTaken {w : World} {D M E : Int} {s : Bool} {r : Int} (hM : LQ M) (hr : rk D s M E = r) : Calls Tryd.prog 53 #[VQ D s M E] w (PN w r) := by
 delta VQ
 by_cases hm : MayQ D s M E
 · have HQ := rk_fq hM hm; rw [hr] at HQ
   have HC := Lib.hid (show decide (MayQ D s M E) = true from decide_eq_true hm)
   clear hm hr hM
   go_enter Tryd.func53, Tryd.ntmps53
   go_upto_region 1 with (fail)
   generalize hW1 : (w.alloc _).alloc _ = w1 at *; obtain ⟨X1, XR, HB⟩ := Bo.en2 hW1; clear hW1; have xX1 := X1.cell
   go_wp2_with fail
   refine (nMay HC.out).mono ?_; rintro ee w2 ⟨rfl, B⟩; clear xX1; replace X1 := X1.below B; replace XR := XR.below B; replace HB := Hqb HB B; clear B; have xXR := XR.cell; have zXR0 := XR.frozen; have xX1 := X1.cell; go_wp2; clear xXR zXR0 xX1; have SX := StN.mk4 XR (.int .i64 D) (.bool s) (.int .u64 M) (.int .i64 E)
   exact bodyPost_ret (by simp [results, Tryd.results53, go_sem, SX.box.cell]) rfl ⟨D, s, M, E, rfl, HQ, (SX.below HB.out (by omega))⟩
 · rw [rk_not hm] at hr; subst hr
   have HC := Lib.hid (show decide (MayQ D s M E) = false from decide_eq_false hm)
   clear hm hM
   go_enter Tryd.func53, Tryd.ntmps53
   go_upto_region 1 with (fail)
   generalize hW1 : (w.alloc _).alloc _ = w1 at *; obtain ⟨X1, XR, HB⟩ := Bo.en2 hW1; clear hW1; have xX1 := X1.cell
   go_wp2_with fail
   refine (nMay HC.out).mono ?_; rintro ee w2 ⟨rfl, B⟩; clear xX1; replace X1 := X1.below B; replace XR := XR.below B; replace HB := Hqb HB B; clear B; have xXR := XR.cell; have zXR0 := XR.frozen; have xX1 := X1.cell; go_wp2; clear xXR zXR0 xX1; have SX := StN.mk4 XR (.int .i64 0) (.bool false) (.int .u64 0) (.int .i64 0)
   exact bodyPost_ret (by simp [results, Tryd.results53, go_sem, SX.box.cell]) rfl ⟨_, _, _, _, rfl, Fq.nought, (SX.below HB.out (by omega))⟩
theorem nInf {w : World} {s : Bool} {r : Int} (hr : sgi s TP = r) : Calls Tryd.prog 59 #[.bool s] w (PN w r) := by
 go_enter Tryd.func59, Tryd.ntmps59
 go_upto_region 1 with (fail)
 generalize hW1 : w.alloc _ = w1 at *; obtain ⟨XR, HB⟩ := Bo.en1 hW1; clear hW1; have xXR := XR.cell; have zXR0 := XR.frozen; go_wp2; clear xXR zXR0; have SX := StN.mk4 XR (.int .i64 2) (.bool s) (.int .u64 0) (.int .i64 0); exact bodyPost_ret (v := .agg #[.int .i64 2, .bool s, .int .u64 0, .int .i64 0]) (by simp [results, Tryd.results59, go_sem, SX.box.cell]) rfl ⟨_, _, _, _, rfl, hr ▸ Fq.inf s, (SX.below HB.out (by omega))⟩
theorem nT {w : World} {s : Bool} : Calls Tryd.prog 54 #[.bool s] w (fun e w' => e = .returned (.agg #[.int .i64 1, .bool s, .int .u64 9223372036854775808, .int .i64 (-1048576)]) ∧ Below w.heap.size w w') := by
 go_enter Tryd.func54, Tryd.ntmps54
 go_upto_region 1 with (fail)
 generalize hW1 : w.alloc _ = w1 at *; obtain ⟨XR, HB⟩ := Bo.en1 hW1; clear hW1; have xXR := XR.cell; have zXR0 := XR.frozen; go_wp2; clear xXR zXR0; have SX := StN.mk4 XR (.int .i64 1) (.bool s) (.int .u64 9223372036854775808) (.int .i64 (-1048576)); exact bodyPost_ret (v := .agg #[.int .i64 1, .bool s, .int .u64 9223372036854775808, .int .i64 (-1048576)]) (by simp [results, Tryd.results54, go_sem, SX.box.cell]) rfl ⟨rfl, (SX.below HB.out (by omega))⟩
theorem nH {w : World} {s : Bool} : Calls Tryd.prog 79 #[.bool s] w (fun e w' => e = .returned (.agg #[.int .i64 1, .bool s, .int .u64 18446744073709551615, .int .i64 1048576]) ∧ Below w.heap.size w w') := by
 go_enter Tryd.func79, Tryd.ntmps79
 go_upto_region 1 with (fail)
 generalize hW1 : w.alloc _ = w1 at *; obtain ⟨XR, HB⟩ := Bo.en1 hW1; clear hW1; have xXR := XR.cell; have zXR0 := XR.frozen; go_wp2; clear xXR zXR0; have SX := StN.mk4 XR (.int .i64 1) (.bool s) (.int .u64 18446744073709551615) (.int .i64 1048576); exact bodyPost_ret (v := .agg #[.int .i64 1, .bool s, .int .u64 18446744073709551615, .int .i64 1048576]) (by simp [results, Tryd.results79, go_sem, SX.box.cell]) rfl ⟨rfl, (SX.below HB.out (by omega))⟩
theorem nSign {w : World} {D M E : Int} {s : Bool} {σ : Int} (hM : LQ M) (hs : cmpI (rk D s M E) 0 = σ) : Calls Tryd.prog 57 #[VQ D s M E] w (PI w σ) := by
 delta VQ
 obtain ⟨r, hr⟩ : ∃ r, rk D s M E = r := ⟨_, rfl⟩; rw [hr] at hs; have HR := Lib.hid hr; have HS := Lib.hid hs; clear hr hs
 go_enter Tryd.func57, Tryd.ntmps57
 go_upto_region 1 with (fail)
 generalize hW1 : w.alloc _ = w1 at *; obtain ⟨X1, HB⟩ := Bo.en1 hW1; clear hW1; have xX1 := X1.cell
 go_wp2_with fail
 refine (nTaken hM HR.out).mono ?_; rintro ee w2 ⟨K1, s1, M1, E1, rfl, q1, B⟩; clear xX1; replace X1 := X1.below B; replace HB := Hqb HB B; clear B; have xX1 := X1.cell; have zX10 := X1.frozen
 go_upto_region 2 with (fail)
 clear xX1 zX10; generalize hS : (((w2.setCell _ _).setCell _ _).setCell _ _).setCell _ _ = w3 at *; have SX := StN.of4 X1 hS; replace HB := Hqs HB SX (by omega); replace X1 := SX.box; clear SX hS
 rcases q1.three with ⟨h0, hr⟩ | ⟨h0, h1, hr⟩ | ⟨h0, h1, hr⟩
 · subst h0; have hs := HS.out; rw [cmpI_eq hr] at hs; subst hs; clear q1; have xX1 := X1.cell; go_wp2
   go_ret
   exact ⟨by first | rfl | simp_all, HB.out⟩
 · have e0 : (K1 == 0) = false := by simpa using h0
   have hs := HS.out; rw [cmpI_gt hr] at hs; subst hs; subst h1; clear q1; have xX1 := X1.cell; go_wp2
   go_ret
   exact ⟨by first | rfl | simp_all, HB.out⟩
 · have e0 : (K1 == 0) = false := by simpa using h0
   have hs := HS.out; rw [cmpI_lt hr] at hs; subst hs; subst h1; clear q1; have xX1 := X1.cell; go_wp2
   go_ret
   exact ⟨by first | rfl | simp_all, HB.out⟩
theorem nNeg {w : World} {D M E : Int} {s : Bool} {r : Int} (hM : LQ M) (hr : -rk D s M E = r) : Calls Tryd.prog 26 #[VQ D s M E] w (PN w r) := by
 delta VQ
 obtain ⟨x, hx⟩ : ∃ x, rk D s M E = x := ⟨_, rfl⟩; rw [hx] at hr; have HX := Lib.hid hx; subst hr; clear hx
 go_enter Tryd.func26, Tryd.ntmps26
 go_upto_region 1 with (fail)
 generalize hW1 : (w.alloc _).alloc _ = w1 at *; obtain ⟨X1, XR, HB⟩ := Bo.en2 hW1; clear hW1; have xX1 := X1.cell
 go_wp2_with fail
 refine (nTaken hM HX.out).mono ?_; rintro ee w2 ⟨K1, s1, M1, E1, rfl, q1, B⟩; clear xX1; replace X1 := X1.below B; replace XR := XR.below B; replace HB := Hqb HB B; clear B; have xX1 := X1.cell; have zX10 := X1.frozen
 go_upto_region 2 with (fail)
 clear xX1 zX10; generalize hS : (((w2.setCell _ _).setCell _ _).setCell _ _).setCell _ _ = w3 at *; have SX := StN.of4 X1 hS; replace XR := XR.stn SX (by omega); replace HB := Hqs HB SX (by omega); replace X1 := SX.box; clear SX hS
 by_cases h0 : K1 = 0
 · subst h0; have hz := q1.zero_iff.1 rfl; subst hz; have xXR := XR.cell; have zXR0 := XR.frozen; have xX1 := X1.cell; go_wp2; clear xXR zXR0 xX1; have SX := StN.mk4 XR (.int .i64 0) (.bool s1) (.int .u64 M1) (.int .i64 E1); exact bodyPost_ret (by simp [results, Tryd.results26, go_sem, SX.box.cell]) rfl ⟨_, _, _, _, rfl, q1, (SX.below HB.out (by omega))⟩
 · have e0 : (K1 == 0) = false := by simpa using h0
   have q2 := rk_neg q1 h0; have xX1 := X1.cell; have zX10 := X1.frozen
   go_upto_region 4 with (fail)
   clear xX1 zX10
   have SX : StN w3 (World.setCell w3 ⟨w.heap.size, 1, none⟩ (.bool (!s1))) _ _ #[.int .i64 K1, .bool (!s1), .int .u64 M1, .int .i64 E1] _ := StN.at4 X1 1 (.bool (!s1))
   replace XR := XR.stn SX (by omega); replace HB := Hqs HB SX (by omega); replace X1 := SX.box; clear SX; generalize World.setCell w3 ⟨w.heap.size, 1, none⟩ (.bool (!s1)) = w4 at *; have xXR := XR.cell; have zXR0 := XR.frozen; have xX1 := X1.cell; go_wp2; clear xXR zXR0 xX1; have SX := StN.mk4 XR (.int .i64 K1) (.bool (!s1)) (.int .u64 M1) (.int .i64 E1)
   exact bodyPost_ret (by simp [results, Tryd.results26, go_sem, SX.box.cell]) rfl ⟨_, _, _, _, rfl, q2, (SX.below HB.out (by omega))⟩
theorem compare64_any (x y : Int) (w : World) : Calls Tryd.prog 80 #[.int .u64 x, .int .u64 y] w fun e w' => e = .returned (.int .i64 (cmpI x y)) ∧ w = w' := by
 go_enter Tryd.func80, Tryd.ntmps80
 go_wp2
 all_goals go_ret
 · exact ⟨ret_int (cmpI_lt (by assumption)).symm, rfl⟩
 · exact ⟨ret_int (cmpI_gt (by assumption)).symm, rfl⟩
 · exact ⟨ret_int (cmpI_eq (by omega)).symm, rfl⟩
theorem vCmpI {x y z : Int} (w : World) (h : cmpI x y = z) : Calls Tryd.prog 37 #[.int .i64 x, .int .i64 y] w (PI w z) := by
 subst h; refine (compareInt_any x y w).mono ?_; rintro e w' ⟨rfl, rfl⟩; exact ⟨rfl, Below.refl _ _⟩
theorem vCmpU {x y z : Int} (w : World) (h : cmpI x y = z) : Calls Tryd.prog 80 #[.int .u64 x, .int .u64 y] w (PI w z) := by
 subst h; refine (compare64_any x y w).mono ?_; rintro e w' ⟨rfl, rfl⟩; exact ⟨rfl, Below.refl _ _⟩
theorem nFar {w : World} {D D' M M' E E' : Int} {s s' : Bool} {r : Int} (hr : fa D M E D' M' E' = r) : Calls Tryd.prog 58 #[VQ D s M E, VQ D' s' M' E'] w (PI w r) := by
 delta VQ
 unfold fa at hr
 by_cases hk : D ≠ D'
 · rw [if_pos hk] at hr
   have e0 : (D == D') = false := by simpa using hk
   have HR := Lib.hid hr; clear hr hk
   go_enter Tryd.func58, Tryd.ntmps58
   go_upto_region 1 with (fail)
   generalize hW1 : (w.alloc _).alloc _ = w1 at *; obtain ⟨X1, X2, HB⟩ := Bo.en2 hW1; clear hW1; have xX1 := X1.cell; have xX2 := X2.cell
   go_wp2_with fail
   refine (vCmpI _ HR.out).mono ?_; rintro ee w2 ⟨rfl, B⟩; clear xX1 xX2; replace X1 := X1.below B; replace X2 := X2.below B; replace HB := Hqb HB B; clear B; go_wp2
   go_ret
   exact ⟨rfl, HB.out⟩
 · rw [if_neg hk] at hr
   obtain rfl : D = D' := Decidable.not_not.1 hk
   clear hk
   by_cases he : E ≠ E'
   · rw [if_pos he] at hr
     have e0 : (E == E') = false := by simpa using he
     have HR := Lib.hid hr; clear hr he
     go_enter Tryd.func58, Tryd.ntmps58
     go_upto_region 1 with (fail)
     generalize hW1 : (w.alloc _).alloc _ = w1 at *; obtain ⟨X1, X2, HB⟩ := Bo.en2 hW1; clear hW1; have xX1 := X1.cell; have xX2 := X2.cell
     go_wp2_with fail
     refine (vCmpI _ HR.out).mono ?_; rintro ee w2 ⟨rfl, B⟩; clear xX1 xX2; replace X1 := X1.below B; replace X2 := X2.below B; replace HB := Hqb HB B; clear B; go_wp2
     go_ret
     exact ⟨rfl, HB.out⟩
   · rw [if_neg he] at hr
     obtain rfl : E = E' := Decidable.not_not.1 he
     have HR := Lib.hid hr; clear hr he
     go_enter Tryd.func58, Tryd.ntmps58
     go_upto_region 1 with (fail)
     generalize hW1 : (w.alloc _).alloc _ = w1 at *; obtain ⟨X1, X2, HB⟩ := Bo.en2 hW1; clear hW1; have xX1 := X1.cell; have xX2 := X2.cell
     go_wp2_with fail
     refine (vCmpU _ HR.out).mono ?_; rintro ee w2 ⟨rfl, B⟩; clear xX1 xX2; replace X1 := X1.below B; replace X2 := X2.below B; replace HB := Hqb HB B; clear B; go_wp2
     go_ret
     exact ⟨rfl, HB.out⟩
theorem nCmp {w : World} {D D' M M' E E' : Int} {s s' : Bool} {z : Int} (hM : LQ M) (hM' : LQ M') (hz : cmpI (rk D s M E) (rk D' s' M' E') = z) : Calls Tryd.prog 24 #[VQ D s M E, VQ D' s' M' E'] w (PI w z) := by
 delta VQ
 have hs := cmp_sign (x := rk D s M E) (y := rk D' s' M' E'); have hf := cmp_far (K := D) (s := s) (E := E) (K' := D') (s' := s') (E' := E') hM hM'; have b1 := fa_bd D M E D' M' E'; have b2 := cmpI_bd (rk D s M E) 0
 revert hs hf b1 b2
 generalize hσ : cmpI (rk D s M E) 0 = σ; generalize hτ : cmpI (rk D' s' M' E') 0 = τ; generalize hφ : fa D M E D' M' E' = φ; rw [hz]
 intro hs hf b1 b2
 have HS := Lib.hid hσ; have HT := Lib.hid hτ; have HF := Lib.hid hφ; clear hσ hτ hφ hz
 by_cases he : σ ≠ τ
 · have e0 : (σ == τ) = false := by simpa using he
   have HZ := Lib.hid (hs he); clear hs hf he b1 b2
   go_enter Tryd.func24, Tryd.ntmps24
   go_upto_region 1 with (fail)
   generalize hW1 : (w.alloc _).alloc _ = w1 at *; obtain ⟨X1, X2, HB⟩ := Bo.en2 hW1; clear hW1; refine Jo.rk [0, 1, 2, 3, 4, 5] [some 7, some 8, some 9, some 10, some 5, some 6] [[], [0], [], [2], [1], [3]] 6 0 [Jo.q4 D s M E, Jo.qi σ, Jo.q4 D' s' M' E', Jo.qi τ, Jo.qi σ, Jo.qi τ] (by kernel_rfl) (by kernel_rfl) (by decide) rfl ?_ ?_
   · refine Jo.jm rfl ?_ ?_; rotate_left
     refine Jo.jm rfl ?_ ?_
     · rintro wj hJ _ rfl K hK; simp only [Jo.z] at hK ⊢; go_simp; refine (nSign hM HS.out).mono ?_; rintro ee wk ⟨rfl, B⟩; exact hK.out _ _ rfl B
     refine Jo.jm rfl ?_ ?_; rotate_left
     refine Jo.jm rfl ?_ ?_
     · rintro wj hJ _ rfl K hK; simp only [Jo.z] at hK ⊢; go_simp; refine (nSign hM' HT.out).mono ?_; rintro ee wk ⟨rfl, B⟩; exact hK.out _ _ rfl B
     iterate 2 (refine Jo.jm rfl ?_ ?_; rotate_left)
     exact Jo.Steps.nil
     all_goals (rintro wj hJ; (repeat rintro _ rfl); intro K hK; simp only [Jo.z] at hK ⊢; have xX1 := (X1.below hJ).cell; have xX2 := (X2.below hJ).cell; go_simp; exact hK.out _ _ rfl (br _ _))
   rintro w2 hJ _ rfl _ rfl _ rfl _ rfl _ rfl _ rfl -; simp only [Jo.z]; replace X1 := X1.below hJ; replace X2 := X2.below hJ; replace HB := Hqb HB hJ; refine Jo.jdone (by kernel_rfl) ?_
   go_wp2_with fail
   refine (vCmpI _ HZ.out).mono ?_; rintro ee w3 ⟨rfl, B⟩; replace X1 := X1.below B; replace X2 := X2.below B; replace HB := Hqb HB B; clear B; go_wp2
   go_ret
   exact ⟨rfl, HB.out⟩
 · obtain rfl : σ = τ := Decidable.not_not.1 he
   have HZ := Lib.hid (hf rfl)
   have HW : Hid (IntKind.i64.wrap (σ * φ) = z) := Lib.hid (by
     rw [hf rfl]; refine IntWalk.i64_in _ ?_; rw [← hf rfl]
     rcases (show σ = -1 ∨ σ = 0 ∨ σ = 1 by omega) with h | h | h <;> rw [h] <;> omega)
   clear hs hf he b1 b2
   go_enter Tryd.func24, Tryd.ntmps24
   go_upto_region 1 with (fail)
   generalize hW1 : (w.alloc _).alloc _ = w1 at *; obtain ⟨X1, X2, HB⟩ := Bo.en2 hW1; clear hW1; refine Jo.rk [0, 1, 2, 3, 4, 5] [some 7, some 8, some 9, some 10, some 5, some 6] [[], [0], [], [2], [1], [3]] 6 0 [Jo.q4 D s M E, Jo.qi σ, Jo.q4 D' s' M' E', Jo.qi σ, Jo.qi σ, Jo.qi σ] (by kernel_rfl) (by kernel_rfl) (by decide) rfl ?_ ?_
   · refine Jo.jm rfl ?_ ?_; rotate_left
     refine Jo.jm rfl ?_ ?_
     · rintro wj hJ _ rfl K hK; simp only [Jo.z] at hK ⊢; go_simp; refine (nSign hM HS.out).mono ?_; rintro ee wk ⟨rfl, B⟩; exact hK.out _ _ rfl B
     refine Jo.jm rfl ?_ ?_; rotate_left
     refine Jo.jm rfl ?_ ?_
     · rintro wj hJ _ rfl K hK; simp only [Jo.z] at hK ⊢; go_simp; refine (nSign hM' HT.out).mono ?_; rintro ee wk ⟨rfl, B⟩; exact hK.out _ _ rfl B
     iterate 2 (refine Jo.jm rfl ?_ ?_; rotate_left)
     exact Jo.Steps.nil
     all_goals (rintro wj hJ; (repeat rintro _ rfl); intro K hK; simp only [Jo.z] at hK ⊢; have xX1 := (X1.below hJ).cell; have xX2 := (X2.below hJ).cell; go_simp; exact hK.out _ _ rfl (br _ _))
   rintro w2 hJ _ rfl _ rfl _ rfl _ rfl _ rfl _ rfl -; simp only [Jo.z]; replace X1 := X1.below hJ; replace X2 := X2.below hJ; replace HB := Hqb HB hJ; refine Jo.jdone (by kernel_rfl) ?_; have xX1 := X1.cell; have xX2 := X2.cell
   go_wp2_with fail
   refine (nFar HF.out).mono ?_; rintro ee w3 ⟨rfl, B⟩; clear xX1 xX2; replace X1 := X1.below B; replace X2 := X2.below B; replace HB := Hqb HB B; clear B; have hw := HW.out; go_wp2
   go_ret
   exact ⟨rfl, HB.out⟩
end Go.Proofs.YtmmallhniijdfaaDoor

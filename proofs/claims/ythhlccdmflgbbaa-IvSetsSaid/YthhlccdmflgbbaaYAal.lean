/-
  Contracts and words that the statement's proof rests on, several texts in one: Ec, Js, Vn, Km, Ka, Kb, Kc, Ke, Kn, Kf.
-/
import Derived.Below
import Derived.BigQuiet
import Derived.Carry
import Derived.Deep.DeepCutAuto
import Derived.Deep.Draws
import Derived.Deep.MidRow
import Derived.Deep.QuietTactic
import Derived.Deep.RegionHeld3
import Derived.Deep.RegionWith
import Derived.IntWalk
import Derived.Laws.CopyOwn
import Derived.Laws.MakeOwn
import Derived.Laws.OwnMore
import Derived.Laws.Rows
import Derived.Lib.BitFns
import Derived.Lib.Hide
import Derived.Maps.AppendAt
import Derived.StillTailTactics
import Derived.Test.YthhlccdmflgbbaaRows
import Derived.WalkKit
import Derived.WalkLawsBesides
import Derived.WalkSpells
import Derived.Test.YthhlccdmflgbbaaYAab
import Derived.Test.YthhlccdmflgbbaaYAad
import Derived.Test.YthhlccdmflgbbaaYAae
import Derived.Test.YthhlccdmflgbbaaYAaf
import Derived.Test.YthhlccdmflgbbaaYAag
import Derived.Test.YthhlccdmflgbbaaYAah
import Derived.Test.YthhlccdmflgbbaaYAai
import Derived.Test.YthhlccdmflgbbaaYAaj
import Derived.Test.YthhlccdmflgbbaaYAak
/-
  What dy.Make does.
-/
namespace Go.Proofs.Ythhlccdmflgbbaa
open Go.RowKit
set_option linter.unusedVariables false
set_option maxRecDepth 100000

/-- A value is a trim whole number; a number times a power of two; a trim number. -/
def VW (w : World) (v : Value) (z : Int) : Prop := ∃ s A n c, v = .agg #[.bool s, .slice A n c] ∧ Wn w s A n c z
def VD (w : World) (v : Value) (N E : Int) : Prop := ∃ s A n c, v = .agg #[.bool s, .slice A n c, .int .i64 E] ∧ Wn w s A n c N
def VN (w : World) (v : Value) (a : Nat) : Prop := ∃ A n c, v = .slice A n c ∧ Nm w A n c a
theorem VW.below {w w' : World} {v : Value} {z : Int} (h : VW w v z) (hb : Below w.heap.size w w') : VW w' v z := by
  obtain ⟨s, A, n, c, rfl, h⟩ := h
  exact ⟨s, A, n, c, rfl, h.below hb⟩
theorem VD.below {w w' : World} {v : Value} {N E : Int} (h : VD w v N E) (hb : Below w.heap.size w w') : VD w' v N E := by
  obtain ⟨s, A, n, c, rfl, h⟩ := h
  exact ⟨s, A, n, c, rfl, h.below hb⟩
theorem VN.below {w w' : World} {v : Value} {a : Nat} (h : VN w v a) (hb : Below w.heap.size w w') : VN w' v a := by
  obtain ⟨A, n, c, rfl, h⟩ := h
  exact ⟨A, n, c, rfl, h.below hb⟩
end Go.Proofs.Ythhlccdmflgbbaa

/-
  Facts of values for the joint rule: whole numbers, limbs, numbers times powers of two; and what a store into a box leaves.
-/
namespace Go.Proofs.Ythhlccdmflgbbaa
open Go.RowKit
set_option linter.unusedVariables false

theorem Bo.at {w : World} {g : Nat} {cs : Array Value} {T : TypeId} (h : Bo w g cs T) {i : Nat} {v : Value} (e : cs[i]? = some v) : w.cell? ⟨g, i, none⟩ = some v := (h.cell i).trans e

/-- The box g is stored anew, nothing else. -/
def StN (w w' : World) (g : Nat) (old new : Array Value) (T : TypeId) : Prop :=
  Bo w g old T ∧ Bo w' g new T ∧ (∀ k, k ≠ g → w'.heap[k]? = w.heap[k]?) ∧ ∀ B a, B ≤ g → Below B a w → Below B a w'
section
variable {w w' : World} {g : Nat} {old new : Array Value} {T : TypeId}
theorem StN.box (S : StN w w' g old new T) : Bo w' g new T := S.2.1
theorem StN.below (S : StN w w' g old new T) {B : Nat} {a : World} (h : Below B a w) (hg : B ≤ g) : Below B a w' := S.2.2.2 B a hg h
theorem Bo.stn {k : Nat} {cs : Array Value} {R : TypeId} (X : Bo w k cs R) (S : StN w w' g old new T) (h : k ≠ g) : Bo w' k cs R := X.keep (S.2.2.1 k h)
end
end Go.Proofs.Ythhlccdmflgbbaa
namespace Go.Proofs.Ythhlccdmflgbbaa
open Go.RowKit
theorem Bo.a {w : World} {g : Nat} {cs : Array Value} {T : TypeId} (h : Bo w g cs T) (i : Nat) (v : Value) (e : cs[i]? = some v) : w.cell? ⟨g, i, none⟩ = some v := h.at e
theorem Bo.ce2 {w : World} {g : Nat} {cs : Array Value} {T : TypeId} (h : Bo w g cs T) {v0 v1 : Value} (e0 : cs[0]? = some v0) (e1 : cs[1]? = some v1) : w.cell? ⟨g, 0, none⟩ = some v0 ∧ w.cell? ⟨g, 1, none⟩ = some v1 := ⟨h.at e0, h.at e1⟩
theorem Bo.ce3 {w : World} {g : Nat} {cs : Array Value} {T : TypeId} (h : Bo w g cs T) {v0 v1 v2 : Value} (e0 : cs[0]? = some v0) (e1 : cs[1]? = some v1) (e2 : cs[2]? = some v2) : w.cell? ⟨g, 0, none⟩ = some v0 ∧ w.cell? ⟨g, 1, none⟩ = some v1 ∧ w.cell? ⟨g, 2, none⟩ = some v2 := ⟨h.at e0, h.at e1, h.at e2⟩
theorem Bo.ce4 {w : World} {g : Nat} {cs : Array Value} {T : TypeId} (h : Bo w g cs T) {v0 v1 v2 v3 : Value} (e0 : cs[0]? = some v0) (e1 : cs[1]? = some v1) (e2 : cs[2]? = some v2) (e3 : cs[3]? = some v3) : w.cell? ⟨g, 0, none⟩ = some v0 ∧ w.cell? ⟨g, 1, none⟩ = some v1 ∧ w.cell? ⟨g, 2, none⟩ = some v2 ∧ w.cell? ⟨g, 3, none⟩ = some v3 := ⟨h.at e0, h.at e1, h.at e2, h.at e3⟩
theorem Bo.ce9 {w : World} {g : Nat} {cs : Array Value} {T : TypeId} (h : Bo w g cs T) {v0 v1 v2 v3 v4 v5 v6 v7 v8 : Value} (e0 : cs[0]? = some v0) (e1 : cs[1]? = some v1) (e2 : cs[2]? = some v2) (e3 : cs[3]? = some v3) (e4 : cs[4]? = some v4) (e5 : cs[5]? = some v5) (e6 : cs[6]? = some v6) (e7 : cs[7]? = some v7) (e8 : cs[8]? = some v8) : w.cell? ⟨g, 0, none⟩ = some v0 ∧ w.cell? ⟨g, 1, none⟩ = some v1 ∧ w.cell? ⟨g, 2, none⟩ = some v2 ∧ w.cell? ⟨g, 3, none⟩ = some v3 ∧ w.cell? ⟨g, 4, none⟩ = some v4 ∧ w.cell? ⟨g, 5, none⟩ = some v5 ∧ w.cell? ⟨g, 6, none⟩ = some v6 ∧ w.cell? ⟨g, 7, none⟩ = some v7 ∧ w.cell? ⟨g, 8, none⟩ = some v8 := ⟨h.at e0, h.at e1, h.at e2, h.at e3, h.at e4, h.at e5, h.at e6, h.at e7, h.at e8⟩
end Go.Proofs.Ythhlccdmflgbbaa

/-
  Order and floor of numbers times powers of two, in plain arithmetic; lists of such numbers in memory.
-/
namespace Go.Proofs.Ythhlccdmflgbbaa
open Go.RowKit
set_option linter.unusedVariables false

/-- A slice of numbers times powers of two, as they came in or as they are. -/
def Dl (w : World) (A : Option Addr) (n c K : Nat) (l : List (Int × Int)) : Prop :=
  l.length = n ∧ n ≤ c ∧ n ≤ 1099511627776 ∧ (0 < n → ∃ b o, A = some ⟨b, o, none⟩ ∧ ∀ k, k < n → ∃ s B m d, w.cell? ⟨b, o + k * 3, none⟩ = some (.bool s) ∧ w.cell? ⟨b, o + k * 3 + 1, none⟩ = some (.slice B m d) ∧ w.cell? ⟨b, o + k * 3 + 2, none⟩ = some (.int .i64 (l.getD k (0, 0)).2) ∧ Wr w s B m d (l.getD k (0, 0)).1 ∧ m ≤ K)
theorem Dl.below {w w' : World} {A : Option Addr} {n c K : Nat} {l : List (Int × Int)} (h : Dl w A n c K l) (hb : Below w.heap.size w w') : Dl w' A n c K l := by
  obtain ⟨h1, h2, h3, h4⟩ := h
  refine ⟨h1, h2, h3, fun hn => ?_⟩
  obtain ⟨b, o, e, hc⟩ := h4 hn
  refine ⟨b, o, e, fun k hk => ?_⟩
  obtain ⟨s, B, m, d, c0, c1, c2, hw, hm⟩ := hc k hk
  exact ⟨s, B, m, d, (hb.cell (p := ⟨b, _, none⟩) (block_lt_of_cell c0)).trans c0, (hb.cell (p := ⟨b, _, none⟩) (block_lt_of_cell c1)).trans c1, (hb.cell (p := ⟨b, _, none⟩) (block_lt_of_cell c2)).trans c2, hw.below hb, hm⟩
end Go.Proofs.Ythhlccdmflgbbaa

/-
  The row of all numbers of 64 bits: which place in it a number has, and what follows of the order. Plain arithmetic; no Go text.
-/
namespace Go.Proofs.Ythhlccdmflgbbaa
open Go.RowKit
set_option linter.unusedVariables false

/-- The place of the infinite one above. -/
def TP : Int := 19342822337206103650074625
theorem TP_eq : TP = 19342822337206103650074625 := rfl
/-- It is one of the numbers. -/
def MayQ (K : Int) (s : Bool) (M E : Int) : Prop := (K = 0 ∧ s = false ∧ M = 0 ∧ E = 0) ∨ (K = 1 ∧ 9223372036854775808 ≤ M ∧ -1048576 ≤ E ∧ E ≤ 1048576) ∨ (K = 2 ∧ M = 0 ∧ E = 0)
instance (K : Int) (s : Bool) (M E : Int) : Decidable (MayQ K s M E) := by unfold MayQ; infer_instance
/-- The place, without the sign. -/
def plc (K M E : Int) : Int := if K = 0 then 0 else if K = 1 then M - 9223372036854775808 + 1 + (E + 1048576) * 9223372036854775808 else TP
def sgi (s : Bool) (x : Int) : Int := if s = true then -x else x
/-- The place of what it is taken for. -/
def rk (K : Int) (s : Bool) (M E : Int) : Int := if MayQ K s M E then sgi s (plc K M E) else 0
/-- One of the numbers, and its place. -/
def Fq (K : Int) (s : Bool) (M E r : Int) : Prop := MayQ K s M E ∧ M < 18446744073709551616 ∧ sgi s (plc K M E) = r

theorem Fq.cases {K : Int} {s : Bool} {M E r : Int} (h : Fq K s M E r) : (K = 0 ∧ s = false ∧ M = 0 ∧ E = 0 ∧ r = 0) ∨ (K = 1 ∧ 9223372036854775808 ≤ M ∧ M < 18446744073709551616 ∧ -1048576 ≤ E ∧ E ≤ 1048576 ∧ ((s = false ∧ r = M - 9223372036854775808 + 1 + (E + 1048576) * 9223372036854775808) ∨ (s = true ∧ -r = M - 9223372036854775808 + 1 + (E + 1048576) * 9223372036854775808)))
    ∨ (K = 2 ∧ M = 0 ∧ E = 0 ∧ ((s = false ∧ r = 19342822337206103650074625) ∨ (s = true ∧ r = -19342822337206103650074625))) := by
  obtain ⟨h1, h2, h3⟩ := h
  rcases h1 with ⟨rfl, rfl, rfl, rfl⟩ | ⟨rfl, h4, h5, h6⟩ | ⟨rfl, rfl, rfl⟩
  · left
    exact ⟨rfl, rfl, rfl, rfl, by rw [← h3]; rfl⟩
  · right; left
    refine ⟨rfl, h4, h2, h5, h6, ?_⟩
    cases s
    · left
      exact ⟨rfl, h3.symm⟩
    · right
      have h3' : -(M - 9223372036854775808 + 1 + (E + 1048576) * 9223372036854775808) = r := h3
      exact ⟨rfl, by rw [← h3', Int.neg_neg]⟩
  · right; right
    refine ⟨rfl, rfl, rfl, ?_⟩
    cases s
    · left
      exact ⟨rfl, h3.symm⟩
    · right
      exact ⟨rfl, h3.symm⟩
theorem Fq.fin {s : Bool} {M E r : Int} (h1 : 9223372036854775808 ≤ M) (h2 : M < 18446744073709551616) (h3 : -1048576 ≤ E) (h4 : E ≤ 1048576) (hr : sgi s (M - 9223372036854775808 + 1 + (E + 1048576) * 9223372036854775808) = r) : Fq 1 s M E r :=
  ⟨Or.inr (Or.inl ⟨rfl, h1, h3, h4⟩), h2, hr⟩
theorem Fq.nought : Fq 0 false 0 0 0 := ⟨Or.inl ⟨rfl, rfl, rfl, rfl⟩, by decide, rfl⟩
theorem Fq.inf (s : Bool) : Fq 2 s 0 0 (sgi s TP) := ⟨Or.inr (Or.inr ⟨rfl, rfl, rfl⟩), by decide, rfl⟩
theorem Fq.uniq {K K' : Int} {s s' : Bool} {M M' E E' r : Int} (h : Fq K s M E r) (k : Fq K' s' M' E' r) : K = K' ∧ s = s' ∧ M = M' ∧ E = E' := by
  rcases h.cases with ⟨rfl, rfl, rfl, rfl, h0⟩ | ⟨rfl, h1, h2, h3, h4, ⟨rfl, h5⟩ | ⟨rfl, h5⟩⟩ | ⟨rfl, rfl, rfl, ⟨rfl, h5⟩ | ⟨rfl, h5⟩⟩ <;>
    rcases k.cases with ⟨rfl, rfl, rfl, rfl, k0⟩ | ⟨rfl, k1, k2, k3, k4, ⟨rfl, k5⟩ | ⟨rfl, k5⟩⟩ | ⟨rfl, rfl, rfl, ⟨rfl, k5⟩ | ⟨rfl, k5⟩⟩ <;>
    first | exact ⟨rfl, rfl, rfl, rfl⟩ | (exfalso; omega) | exact ⟨rfl, rfl, by omega, by omega⟩
theorem Fq.bd {K : Int} {s : Bool} {M E r : Int} (h : Fq K s M E r) : -19342822337206103650074625 ≤ r ∧ r ≤ 19342822337206103650074625 := by
  rcases h.cases with ⟨rfl, rfl, rfl, rfl, h0⟩ | ⟨rfl, h1, h2, h3, h4, ⟨rfl, h5⟩ | ⟨rfl, h5⟩⟩ | ⟨rfl, rfl, rfl, ⟨rfl, h5⟩ | ⟨rfl, h5⟩⟩ <;> omega
theorem Fq.top {K : Int} {s : Bool} {M E r : Int} (h : Fq K s M E r) : M < 18446744073709551616 := h.2.1
theorem Fq.rk {K : Int} {s : Bool} {M E r : Int} (h : Fq K s M E r) : rk K s M E = r := by
  unfold Go.Proofs.Ythhlccdmflgbbaa.rk
  rw [if_pos h.1]
  exact h.2.2
theorem rk_not {K : Int} {s : Bool} {M E : Int} (h : ¬ MayQ K s M E) : rk K s M E = 0 := by
  unfold rk
  rw [if_neg h]
theorem rk_fq {K : Int} {s : Bool} {M E : Int} (hM : M < 18446744073709551616) (h : MayQ K s M E) : Fq K s M E (rk K s M E) := ⟨h, hM, by unfold rk; rw [if_pos h]⟩
theorem rk_bd {K : Int} {s : Bool} {M E : Int} (hM : M < 18446744073709551616) : -19342822337206103650074625 ≤ rk K s M E ∧ rk K s M E ≤ 19342822337206103650074625 := by
  by_cases h : MayQ K s M E
  · exact (rk_fq hM h).bd
  · rw [rk_not h]; decide
/-- Which of two numbers of one sign is farther from nought. -/
def fa (K M E K' M' E' : Int) : Int := if K ≠ K' then cmpI K K' else if E ≠ E' then cmpI E E' else cmpI M M'
theorem fa_bd (K M E K' M' E' : Int) : -1 ≤ fa K M E K' M' E' ∧ fa K M E K' M' E' ≤ 1 := by
  unfold fa
  split
  · exact cmpI_bd _ _
  · split
    · exact cmpI_bd _ _
    · exact cmpI_bd _ _
theorem cmpI_tri (x y : Int) : (x < y ∧ cmpI x y = -1) ∨ (x = y ∧ cmpI x y = 0) ∨ (y < x ∧ cmpI x y = 1) := by
  unfold cmpI
  by_cases h1 : x < y
  · rw [if_pos h1]; exact Or.inl ⟨h1, rfl⟩
  · by_cases h2 : y < x
    · rw [if_neg h1, if_pos h2]; exact Or.inr (Or.inr ⟨h2, rfl⟩)
    · rw [if_neg h1, if_neg h2]; exact Or.inr (Or.inl ⟨by omega, rfl⟩)
theorem Fq.plc {K : Int} {s : Bool} {M E r : Int} (h : Fq K s M E r) (hK : K ≠ 0) : (K = 1 ∧ 9223372036854775808 ≤ M ∧ M < 18446744073709551616 ∧ -1048576 ≤ E ∧ E ≤ 1048576 ∧ plc K M E = M - 9223372036854775808 + 1 + (E + 1048576) * 9223372036854775808) ∨ (K = 2 ∧ M = 0 ∧ E = 0 ∧ plc K M E = 19342822337206103650074625) := by
  obtain ⟨h1, h2, h3⟩ := h
  rcases h1 with ⟨rfl, rfl, rfl, rfl⟩ | ⟨rfl, h4, h5, h6⟩ | ⟨rfl, rfl, rfl⟩
  · exact absurd rfl hK
  · exact Or.inl ⟨rfl, h4, h2, h5, h6, rfl⟩
  · exact Or.inr ⟨rfl, rfl, rfl, rfl⟩
theorem fa_plc {K K' : Int} {s s' : Bool} {M M' E E' r r' : Int} (h : Fq K s M E r) (k : Fq K' s' M' E' r') (hK : K ≠ 0) (hK' : K' ≠ 0) : fa K M E K' M' E' = cmpI (plc K M E) (plc K' M' E') := by
  unfold fa
  rcases h.plc hK with ⟨rfl, h1, h2, h3, h4, h5⟩ | ⟨rfl, rfl, rfl, h5⟩ <;> rcases k.plc hK' with ⟨rfl, k1, k2, k3, k4, k5⟩ | ⟨rfl, rfl, rfl, k5⟩ <;> simp only [h5, k5]
  · rw [if_neg (by decide)]
    rcases cmpI_tri E E' with ⟨b1, b2⟩ | ⟨b1, b2⟩ | ⟨b1, b2⟩
    · rw [if_pos (by omega), b2, cmpI_lt (by omega)]
    · rw [if_neg (by omega)]
      rcases cmpI_tri M M' with ⟨c1, c2⟩ | ⟨c1, c2⟩ | ⟨c1, c2⟩
      · rw [c2, cmpI_lt (by omega)]
      · rw [c2, cmpI_eq (by omega)]
      · rw [c2, cmpI_gt (by omega)]
    · rw [if_pos (by omega), b2, cmpI_gt (by omega)]
  · rw [if_pos (by decide), cmpI_lt (by decide), cmpI_lt (by omega)]
  · rw [if_pos (by decide), cmpI_gt (by decide), cmpI_gt (by omega)]
  · rw [if_neg (by decide), if_neg (by decide)]
    rfl
theorem plc_pos {K : Int} {s : Bool} {M E r : Int} (h : Fq K s M E r) (hK : K ≠ 0) : 0 < plc K M E := by
  rcases h.plc hK with ⟨rfl, h1, h2, h3, h4, h5⟩ | ⟨rfl, rfl, rfl, h5⟩ <;> rw [h5] <;> omega
theorem cmpI_negs (x y : Int) : cmpI (-x) (-y) = -cmpI x y := by
  rcases cmpI_tri x y with ⟨a1, a2⟩ | ⟨a1, a2⟩ | ⟨a1, a2⟩ <;> rw [a2]
  · rw [cmpI_gt (by omega), Int.neg_neg]
  · rw [cmpI_eq (by omega)]; rfl
  · rw [cmpI_lt (by omega)]
theorem fa_fq {K K' : Int} {s : Bool} {M M' E E' r r' : Int} (h : Fq K s M E r) (k : Fq K' s M' E' r') (hK : K ≠ 0) (hK' : K' ≠ 0) : cmpI r 0 * fa K M E K' M' E' = cmpI r r' := by
  rw [fa_plc h k hK hK', ← h.2.2, ← k.2.2]
  have p1 := plc_pos h hK
  cases s
  · show cmpI (plc K M E) 0 * _ = cmpI (plc K M E) (plc K' M' E')
    rw [cmpI_gt p1, Int.one_mul]
  · show cmpI (-plc K M E) 0 * _ = cmpI (-plc K M E) (-plc K' M' E')
    rw [cmpI_lt (show -plc K M E < 0 by omega), cmpI_negs, Int.neg_mul, Int.one_mul]
theorem Fq.zero_iff {K : Int} {s : Bool} {M E r : Int} (h : Fq K s M E r) : K = 0 ↔ r = 0 := by
  rcases h.cases with ⟨rfl, rfl, rfl, rfl, h0⟩ | ⟨rfl, h1, h2, h3, h4, ⟨rfl, h5⟩ | ⟨rfl, h5⟩⟩ | ⟨rfl, rfl, rfl, ⟨rfl, h5⟩ | ⟨rfl, h5⟩⟩ <;> constructor <;> intro _ <;> omega
theorem Fq.sign {K : Int} {s : Bool} {M E r : Int} (h : Fq K s M E r) (hK : K ≠ 0) : cmpI r 0 = if s = true then -1 else 1 := by
  rcases h.cases with ⟨rfl, rfl, rfl, rfl, h0⟩ | ⟨rfl, h1, h2, h3, h4, ⟨rfl, h5⟩ | ⟨rfl, h5⟩⟩ | ⟨rfl, rfl, rfl, ⟨rfl, h5⟩ | ⟨rfl, h5⟩⟩
  · exact absurd rfl hK
  · rw [cmpI_gt (by omega)]; rfl
  · rw [cmpI_lt (by omega)]; rfl
  · rw [cmpI_gt (by omega)]; rfl
  · rw [cmpI_lt (by omega)]; rfl
/-- The order by the signs, and where they are the same by what is farther. -/
theorem cmp_far {K K' : Int} {s s' : Bool} {M M' E E' : Int} (hM : M < 18446744073709551616) (hM' : M' < 18446744073709551616) (he : cmpI (rk K s M E) 0 = cmpI (rk K' s' M' E') 0) : cmpI (rk K s M E) 0 * fa K M E K' M' E' = cmpI (rk K s M E) (rk K' s' M' E') := by
  by_cases h0 : rk K s M E = 0
  · have h1 : rk K' s' M' E' = 0 := by
      rw [h0, cmpI_eq rfl] at he
      exact cmpI_zero.1 he.symm
    rw [h0, h1, cmpI_eq rfl, Int.zero_mul]
  · have h1 : rk K' s' M' E' ≠ 0 := fun h => by
      rw [h, cmpI_eq rfl] at he
      exact h0 (cmpI_zero.1 he)
    have m1 : MayQ K s M E := Decidable.by_contra fun h => h0 (rk_not h)
    have m2 : MayQ K' s' M' E' := Decidable.by_contra fun h => h1 (rk_not h)
    have f1 := rk_fq hM m1
    have f2 := rk_fq hM' m2
    have k1 : K ≠ 0 := fun h => h0 (f1.zero_iff.1 h)
    have k2 : K' ≠ 0 := fun h => h1 (f2.zero_iff.1 h)
    have hs : s = s' := by
      rw [f1.sign k1, f2.sign k2] at he
      cases s <;> cases s' <;> first | rfl | exact absurd he (by decide)
    subst hs
    exact fa_fq f1 f2 k1 k2
/-- Where the signs differ, the order is that of the signs. -/
theorem cmp_sign {x y : Int} (he : cmpI x 0 ≠ cmpI y 0) : cmpI (cmpI x 0) (cmpI y 0) = cmpI x y := by
  rcases cmpI_tri x 0 with ⟨a1, a2⟩ | ⟨a1, a2⟩ | ⟨a1, a2⟩ <;> rcases cmpI_tri y 0 with ⟨b1, b2⟩ | ⟨b1, b2⟩ | ⟨b1, b2⟩ <;> rw [a2, b2] at he ⊢
  · exact absurd rfl he
  · rw [cmpI_lt (show x < y by omega)]; rfl
  · rw [cmpI_lt (show x < y by omega)]; rfl
  · rw [cmpI_gt (show y < x by omega)]; rfl
  · exact absurd rfl he
  · rw [cmpI_lt (show x < y by omega)]; rfl
  · rw [cmpI_gt (show y < x by omega)]; rfl
  · rw [cmpI_gt (show y < x by omega)]; rfl
  · exact absurd rfl he
end Go.Proofs.Ythhlccdmflgbbaa

/-
  What num.May does, and the document's.
-/
namespace Go.Proofs.Ythhlccdmflgbbaa
open Go.RowKit
set_option linter.unusedVariables false

theorem StN.mk4 {w : World} {g : Nat} {T : TypeId} {a b c d : Value} (X : Bo w g #[a, b, c, d] T) (u v t x : Value) : StN w ((((w.setCell ⟨g, 0, none⟩ u).setCell ⟨g, 1, none⟩ v).setCell ⟨g, 2, none⟩ t).setCell ⟨g, 3, none⟩ x) g #[a, b, c, d] #[u, v, t, x] T :=
  ⟨X, by simpa using (((X.set 0 u).set 1 v).set 2 t).set 3 x, fun k hk => by rw [Below.heap_setCell _ _ _ _ hk, Below.heap_setCell _ _ _ _ hk, Below.heap_setCell _ _ _ _ hk, Below.heap_setCell _ _ _ _ hk], fun B a hg h => below_store (st3 h hg u v t) hg 3 x⟩
theorem StN.at4 {w : World} {g : Nat} {T : TypeId} {cs : Array Value} (X : Bo w g cs T) (i : Nat) (v : Value) : StN w (w.setCell ⟨g, i, none⟩ v) g cs (cs.setIfInBounds i v) T :=
  ⟨X, X.set i v, fun k hk => Below.heap_setCell _ _ _ _ hk, fun B a hg h => below_store h hg i v⟩
theorem mayQ0 {s : Bool} {M E : Int} : decide (MayQ 0 s M E) = ((s == false) && ((M == 0) && (E == 0))) := by
  unfold MayQ
  rw [Bool.eq_iff_iff]
  simp
theorem mayQ1 {s : Bool} {M E : Int} : decide (MayQ 1 s M E) = (decide (9223372036854775808 ≤ M) && (decide (-1048576 ≤ E) && decide (E ≤ 1048576))) := by
  unfold MayQ
  rw [Bool.eq_iff_iff]
  simp
theorem mayQ2 {s : Bool} {M E : Int} : decide (MayQ 2 s M E) = ((M == 0) && (E == 0)) := by
  unfold MayQ
  rw [Bool.eq_iff_iff]
  simp
theorem mayQ3 {K : Int} {s : Bool} {M E : Int} (h0 : K ≠ 0) (h1 : K ≠ 1) (h2 : K ≠ 2) : decide (MayQ K s M E) = false := by
  unfold MayQ
  simp [h0, h1, h2]
set_option maxHeartbeats 1000000 in
theorem nMay {w : World} {K M E : Int} {s : Bool} {r : Bool} (hr : decide (MayQ K s M E) = r) : Calls Try.prog 44 #[.agg #[.int .i64 K, .bool s, .int .u64 M, .int .i64 E]] w (PB w r) := by
  subst hr
  by_cases h0 : K = 0
  · subst h0
    rw [mayQ0]
    go_enter Try.func44, Try.ntmps44
    go_wp2
    all_goals go_ret
    all_goals exact ⟨by simp_all, bel1 _ _⟩
  by_cases h1 : K = 1
  · subst h1
    rw [mayQ1]
    by_cases c1 : 9223372036854775808 ≤ M
    · have e1 : decide (9223372036854775808 ≤ M) = true := decide_eq_true c1
      by_cases c2 : -1048576 ≤ E
      · have e2 : decide (-1048576 ≤ E) = true := decide_eq_true c2
        by_cases c3 : E ≤ 1048576
        · have e3 : decide (E ≤ 1048576) = true := decide_eq_true c3
          rw [e1, e2, e3]
          go_enter Try.func44, Try.ntmps44
          go_wp2
          go_ret
          exact ⟨rfl, bel1 _ _⟩
        · have e3 : decide (E ≤ 1048576) = false := decide_eq_false c3
          rw [e1, e2, e3]
          go_enter Try.func44, Try.ntmps44
          go_wp2
          go_ret
          exact ⟨rfl, bel1 _ _⟩
      · have e2 : decide (-1048576 ≤ E) = false := decide_eq_false c2
        rw [e1, e2]
        go_enter Try.func44, Try.ntmps44
        go_wp2
        go_ret
        exact ⟨rfl, bel1 _ _⟩
    · have e1 : decide (9223372036854775808 ≤ M) = false := decide_eq_false c1
      rw [e1]
      go_enter Try.func44, Try.ntmps44
      go_wp2
      go_ret
      exact ⟨rfl, bel1 _ _⟩
  by_cases h2 : K = 2
  · subst h2
    rw [mayQ2]
    by_cases c1 : M = 0
    · subst c1
      by_cases c2 : E = 0
      · subst c2
        go_enter Try.func44, Try.ntmps44
        go_wp2
        go_ret
        exact ⟨rfl, bel1 _ _⟩
      · have e2 : (E == 0) = false := by simpa using c2
        rw [e2]
        go_enter Try.func44, Try.ntmps44
        go_wp2
        go_ret
        exact ⟨rfl, bel1 _ _⟩
    · have e1 : (M == 0) = false := by simpa using c1
      rw [e1]
      go_enter Try.func44, Try.ntmps44
      go_wp2
      go_ret
      exact ⟨rfl, bel1 _ _⟩
  · rw [mayQ3 h0 h1 h2]
    have e0 : (K == 0) = false := by simpa using h0
    have e1 : (K == 1) = false := by simpa using h1
    have e2 : (K == 2) = false := by simpa using h2
    go_enter Try.func44, Try.ntmps44
    go_wp2
    go_ret
    exact ⟨rfl, bel1 _ _⟩
set_option maxHeartbeats 1000000 in
theorem yMay {w : World} {K M E : Int} {s : Bool} {r : Bool} (hr : decide (MayQ K s M E) = r) : Calls Try.prog 34 #[.agg #[.int .i64 K, .bool s, .int .u64 M, .int .i64 E]] w (PB w r) := by
  subst hr
  by_cases h0 : K = 0
  · subst h0
    rw [mayQ0]
    go_enter Try.func34, Try.ntmps34
    go_wp2
    all_goals go_ret
    all_goals exact ⟨by simp_all, bel1 _ _⟩
  by_cases h1 : K = 1
  · subst h1
    rw [mayQ1]
    by_cases c1 : 9223372036854775808 ≤ M
    · have e1 : decide (9223372036854775808 ≤ M) = true := decide_eq_true c1
      by_cases c2 : -1048576 ≤ E
      · have e2 : decide (-1048576 ≤ E) = true := decide_eq_true c2
        by_cases c3 : E ≤ 1048576
        · have e3 : decide (E ≤ 1048576) = true := decide_eq_true c3
          rw [e1, e2, e3]
          go_enter Try.func34, Try.ntmps34
          go_wp2
          go_ret
          exact ⟨rfl, bel1 _ _⟩
        · have e3 : decide (E ≤ 1048576) = false := decide_eq_false c3
          rw [e1, e2, e3]
          go_enter Try.func34, Try.ntmps34
          go_wp2
          go_ret
          exact ⟨rfl, bel1 _ _⟩
      · have e2 : decide (-1048576 ≤ E) = false := decide_eq_false c2
        rw [e1, e2]
        go_enter Try.func34, Try.ntmps34
        go_wp2
        go_ret
        exact ⟨rfl, bel1 _ _⟩
    · have e1 : decide (9223372036854775808 ≤ M) = false := decide_eq_false c1
      rw [e1]
      go_enter Try.func34, Try.ntmps34
      go_wp2
      go_ret
      exact ⟨rfl, bel1 _ _⟩
  by_cases h2 : K = 2
  · subst h2
    rw [mayQ2]
    by_cases c1 : M = 0
    · subst c1
      by_cases c2 : E = 0
      · subst c2
        go_enter Try.func34, Try.ntmps34
        go_wp2
        go_ret
        exact ⟨rfl, bel1 _ _⟩
      · have e2 : (E == 0) = false := by simpa using c2
        rw [e2]
        go_enter Try.func34, Try.ntmps34
        go_wp2
        go_ret
        exact ⟨rfl, bel1 _ _⟩
    · have e1 : (M == 0) = false := by simpa using c1
      rw [e1]
      go_enter Try.func34, Try.ntmps34
      go_wp2
      go_ret
      exact ⟨rfl, bel1 _ _⟩
  · rw [mayQ3 h0 h1 h2]
    have e0 : (K == 0) = false := by simpa using h0
    have e1 : (K == 1) = false := by simpa using h1
    have e2 : (K == 2) = false := by simpa using h2
    go_enter Try.func34, Try.ntmps34
    go_wp2
    go_ret
    exact ⟨rfl, bel1 _ _⟩
end Go.Proofs.Ythhlccdmflgbbaa

/-
  What num.taken, Infinite, tiny, huge, Sign, Neg do, and the document's fair, Infinite, Sign, Neg.
-/
namespace Go.Proofs.Ythhlccdmflgbbaa
open Go.RowKit
set_option linter.unusedVariables false
set_option linter.unusedSimpArgs false
set_option maxRecDepth 100000

/-- A number is answered, whose place is r. -/
def PN (w : World) (r : Int) (e : Ending) (w' : World) : Prop := ∃ D s M E, e = .returned (.agg #[.int .i64 D, .bool s, .int .u64 M, .int .i64 E]) ∧ Fq D s M E r ∧ Below w.heap.size w w'
theorem Fq.three {D : Int} {s : Bool} {M E r : Int} (h : Fq D s M E r) : (D = 0 ∧ r = 0) ∨ (D ≠ 0 ∧ s = false ∧ 0 < r) ∨ (D ≠ 0 ∧ s = true ∧ r < 0) := by
  rcases h.cases with ⟨rfl, rfl, rfl, rfl, h0⟩ | ⟨rfl, h1, h2, h3, h4, ⟨rfl, h5⟩ | ⟨rfl, h5⟩⟩ | ⟨rfl, rfl, rfl, ⟨rfl, h5⟩ | ⟨rfl, h5⟩⟩
  · exact Or.inl ⟨rfl, h0⟩
  · exact Or.inr (Or.inl ⟨by decide, rfl, by omega⟩)
  · exact Or.inr (Or.inr ⟨by decide, rfl, by omega⟩)
  · exact Or.inr (Or.inl ⟨by decide, rfl, by omega⟩)
  · exact Or.inr (Or.inr ⟨by decide, rfl, by omega⟩)

set_option maxHeartbeats 2000000 in
theorem nTaken {w : World} {D M E : Int} {s : Bool} {r : Int} (hM : M < 18446744073709551616) (hr : rk D s M E = r) : Calls Try.prog 50 #[.agg #[.int .i64 D, .bool s, .int .u64 M, .int .i64 E]] w (PN w r) := by
  by_cases hm : MayQ D s M E
  · have HQ := rk_fq hM hm
    rw [hr] at HQ
    have HC := Lib.hid (show decide (MayQ D s M E) = true from decide_eq_true hm)
    clear hm hr hM
    go_enter Try.func50, Try.ntmps50
    go_upto_region 1 with (fail)
    have X1 := (Bo.newAt w (g := w.heap.size) (by simp) #[.int .i64 D, .bool s, .int .u64 M, .int .i64 E] 24).below (bel1 _ (.cells #[.int .i64 0, .bool false, .int .u64 0, .int .i64 0] 24))
    have XR := (Bo.newAt (w.alloc (.cells #[.int .i64 D, .bool s, .int .u64 M, .int .i64 E] 24)) (g := w.heap.size + 1) (by simp) #[.int .i64 0, .bool false, .int .u64 0, .int .i64 0] 24)
    have HB := Lib.hid (bel2 w (.cells #[.int .i64 D, .bool s, .int .u64 M, .int .i64 E] 24) (.cells #[.int .i64 0, .bool false, .int .u64 0, .int .i64 0] 24))
    generalize hW1 : ((w.alloc (.cells #[.int .i64 D, .bool s, .int .u64 M, .int .i64 E] 24)).alloc (.cells #[.int .i64 0, .bool false, .int .u64 0, .int .i64 0] 24)) = w1 at *
    clear hW1
    obtain ⟨xX10, xX11, xX12, xX13⟩ := X1.ce4 rfl rfl rfl rfl
    go_wp2_with fail
    refine (nMay HC.out).mono ?_
    rintro ee w2 ⟨rfl, B⟩
    clear xX10 xX11 xX12 xX13
    replace X1 := X1.below B
    replace XR := XR.below B
    replace HB := Lib.hid (bt HB.out B)
    clear B
    obtain ⟨xXR0, xXR1, xXR2, xXR3⟩ := XR.ce4 rfl rfl rfl rfl
    have zXR0 := XR.frozen
    obtain ⟨xX10, xX11, xX12, xX13⟩ := X1.ce4 rfl rfl rfl rfl
    go_wp2
    clear xXR0 zXR0 xXR1 xXR2 xXR3 xX10 xX11 xX12 xX13
    have SX := StN.mk4 XR (.int .i64 D) (.bool s) (.int .u64 M) (.int .i64 E)
    exact bodyPost_ret (v := .agg #[.int .i64 D, .bool s, .int .u64 M, .int .i64 E]) (by simp [results, Try.results50, go_sem, SX.box.cell]) rfl ⟨D, s, M, E, rfl, HQ, (SX.below HB.out (by omega))⟩
  · rw [rk_not hm] at hr
    subst hr
    have HC := Lib.hid (show decide (MayQ D s M E) = false from decide_eq_false hm)
    clear hm hM
    go_enter Try.func50, Try.ntmps50
    go_upto_region 1 with (fail)
    have X1 := (Bo.newAt w (g := w.heap.size) (by simp) #[.int .i64 D, .bool s, .int .u64 M, .int .i64 E] 24).below (bel1 _ (.cells #[.int .i64 0, .bool false, .int .u64 0, .int .i64 0] 24))
    have XR := (Bo.newAt (w.alloc (.cells #[.int .i64 D, .bool s, .int .u64 M, .int .i64 E] 24)) (g := w.heap.size + 1) (by simp) #[.int .i64 0, .bool false, .int .u64 0, .int .i64 0] 24)
    have HB := Lib.hid (bel2 w (.cells #[.int .i64 D, .bool s, .int .u64 M, .int .i64 E] 24) (.cells #[.int .i64 0, .bool false, .int .u64 0, .int .i64 0] 24))
    generalize hW1 : ((w.alloc (.cells #[.int .i64 D, .bool s, .int .u64 M, .int .i64 E] 24)).alloc (.cells #[.int .i64 0, .bool false, .int .u64 0, .int .i64 0] 24)) = w1 at *
    clear hW1
    obtain ⟨xX10, xX11, xX12, xX13⟩ := X1.ce4 rfl rfl rfl rfl
    go_wp2_with fail
    refine (nMay HC.out).mono ?_
    rintro ee w2 ⟨rfl, B⟩
    clear xX10 xX11 xX12 xX13
    replace X1 := X1.below B
    replace XR := XR.below B
    replace HB := Lib.hid (bt HB.out B)
    clear B
    obtain ⟨xXR0, xXR1, xXR2, xXR3⟩ := XR.ce4 rfl rfl rfl rfl
    have zXR0 := XR.frozen
    obtain ⟨xX10, xX11, xX12, xX13⟩ := X1.ce4 rfl rfl rfl rfl
    go_wp2
    clear xXR0 zXR0 xXR1 xXR2 xXR3 xX10 xX11 xX12 xX13
    have SX := StN.mk4 XR (.int .i64 0) (.bool false) (.int .u64 0) (.int .i64 0)
    exact bodyPost_ret (v := .agg #[.int .i64 0, .bool false, .int .u64 0, .int .i64 0]) (by simp [results, Try.results50, go_sem, SX.box.cell]) rfl ⟨_, _, _, _, rfl, Fq.nought, (SX.below HB.out (by omega))⟩
set_option maxHeartbeats 2000000 in
theorem nInf {w : World} {s : Bool} {r : Int} (hr : sgi s TP = r) : Calls Try.prog 31 #[.bool s] w (PN w r) := by
  go_enter Try.func31, Try.ntmps31
  go_upto_region 1 with (fail)
  have XR := (Bo.newAt w (g := w.heap.size) (by simp) #[.int .i64 0, .bool false, .int .u64 0, .int .i64 0] 24)
  have HB := Lib.hid (bel1 w (.cells #[.int .i64 0, .bool false, .int .u64 0, .int .i64 0] 24))
  generalize hW1 : (w.alloc (.cells #[.int .i64 0, .bool false, .int .u64 0, .int .i64 0] 24)) = w1 at *
  clear hW1
  obtain ⟨xXR0, xXR1, xXR2, xXR3⟩ := XR.ce4 rfl rfl rfl rfl
  have zXR0 := XR.frozen
  go_wp2
  clear xXR0 zXR0 xXR1 xXR2 xXR3
  have SX := StN.mk4 XR (.int .i64 2) (.bool s) (.int .u64 0) (.int .i64 0)
  exact bodyPost_ret (v := .agg #[.int .i64 2, .bool s, .int .u64 0, .int .i64 0]) (by simp [results, Try.results31, go_sem, SX.box.cell]) rfl ⟨_, _, _, _, rfl, hr ▸ Fq.inf s, (SX.below HB.out (by omega))⟩
set_option maxHeartbeats 2000000 in
theorem nSign {w : World} {D M E : Int} {s : Bool} {σ : Int} (hM : M < 18446744073709551616) (hs : cmpI (rk D s M E) 0 = σ) : Calls Try.prog 45 #[.agg #[.int .i64 D, .bool s, .int .u64 M, .int .i64 E]] w (PI w σ) := by
  obtain ⟨r, hr⟩ : ∃ r, rk D s M E = r := ⟨_, rfl⟩
  rw [hr] at hs
  have HR := Lib.hid hr
  have HS := Lib.hid hs
  clear hr hs
  go_enter Try.func45, Try.ntmps45
  go_upto_region 1 with (fail)
  have X1 := (Bo.newAt w (g := w.heap.size) (by simp) #[.int .i64 D, .bool s, .int .u64 M, .int .i64 E] 24)
  have HB := Lib.hid (bel1 w (.cells #[.int .i64 D, .bool s, .int .u64 M, .int .i64 E] 24))
  generalize hW1 : (w.alloc (.cells #[.int .i64 D, .bool s, .int .u64 M, .int .i64 E] 24)) = w1 at *
  clear hW1
  obtain ⟨xX10, xX11, xX12, xX13⟩ := X1.ce4 rfl rfl rfl rfl
  go_wp2_with fail
  refine (nTaken hM HR.out).mono ?_
  rintro ee w2 ⟨K1, s1, M1, E1, rfl, q1, B⟩
  clear xX10 xX11 xX12 xX13
  replace X1 := X1.below B
  replace HB := Lib.hid (bt HB.out B)
  clear B
  obtain ⟨xX10, xX11, xX12, xX13⟩ := X1.ce4 rfl rfl rfl rfl
  have zX10 := X1.frozen
  go_upto_region 2 with (fail)
  clear xX10 zX10 xX11 xX12 xX13
  have SX := StN.mk4 X1 (.int .i64 K1) (.bool s1) (.int .u64 M1) (.int .i64 E1)
  replace HB := Lib.hid (SX.below HB.out (by omega))
  replace X1 := SX.box
  clear SX
  generalize (World.setCell (World.setCell (World.setCell (World.setCell w2 ⟨w.heap.size, 0, none⟩ (.int .i64 K1)) ⟨w.heap.size, 1, none⟩ (.bool s1)) ⟨w.heap.size, 2, none⟩ (.int .u64 M1)) ⟨w.heap.size, 3, none⟩ (.int .i64 E1)) = w3 at *
  rcases q1.three with ⟨h0, hr⟩ | ⟨h0, h1, hr⟩ | ⟨h0, h1, hr⟩
  · subst h0
    have hs := HS.out
    rw [cmpI_eq hr] at hs
    subst hs
    clear q1
    obtain ⟨xX10, xX11, xX12, xX13⟩ := X1.ce4 rfl rfl rfl rfl
    go_wp2
    go_ret
    exact ⟨by first | rfl | simp_all, HB.out⟩
  · have e0 : (K1 == 0) = false := by simpa using h0
    have hs := HS.out
    rw [cmpI_gt hr] at hs
    subst hs
    subst h1
    clear q1
    obtain ⟨xX10, xX11, xX12, xX13⟩ := X1.ce4 rfl rfl rfl rfl
    go_wp2
    go_ret
    exact ⟨by first | rfl | simp_all, HB.out⟩
  · have e0 : (K1 == 0) = false := by simpa using h0
    have hs := HS.out
    rw [cmpI_lt hr] at hs
    subst hs
    subst h1
    clear q1
    obtain ⟨xX10, xX11, xX12, xX13⟩ := X1.ce4 rfl rfl rfl rfl
    go_wp2
    go_ret
    exact ⟨by first | rfl | simp_all, HB.out⟩
set_option maxHeartbeats 2000000 in
theorem yTaken {w : World} {D M E : Int} {s : Bool} {r : Int} (hM : M < 18446744073709551616) (hr : rk D s M E = r) : Calls Try.prog 48 #[.agg #[.int .i64 D, .bool s, .int .u64 M, .int .i64 E]] w (PN w r) := by
  by_cases hm : MayQ D s M E
  · have HQ := rk_fq hM hm
    rw [hr] at HQ
    have HC := Lib.hid (show decide (MayQ D s M E) = true from decide_eq_true hm)
    clear hm hr hM
    go_enter Try.func48, Try.ntmps48
    go_upto_region 1 with (fail)
    have X1 := (Bo.newAt w (g := w.heap.size) (by simp) #[.int .i64 D, .bool s, .int .u64 M, .int .i64 E] 24).below (bel1 _ (.cells #[.int .i64 0, .bool false, .int .u64 0, .int .i64 0] 24))
    have XR := (Bo.newAt (w.alloc (.cells #[.int .i64 D, .bool s, .int .u64 M, .int .i64 E] 24)) (g := w.heap.size + 1) (by simp) #[.int .i64 0, .bool false, .int .u64 0, .int .i64 0] 24)
    have HB := Lib.hid (bel2 w (.cells #[.int .i64 D, .bool s, .int .u64 M, .int .i64 E] 24) (.cells #[.int .i64 0, .bool false, .int .u64 0, .int .i64 0] 24))
    generalize hW1 : ((w.alloc (.cells #[.int .i64 D, .bool s, .int .u64 M, .int .i64 E] 24)).alloc (.cells #[.int .i64 0, .bool false, .int .u64 0, .int .i64 0] 24)) = w1 at *
    clear hW1
    obtain ⟨xX10, xX11, xX12, xX13⟩ := X1.ce4 rfl rfl rfl rfl
    go_wp2_with fail
    refine (yMay HC.out).mono ?_
    rintro ee w2 ⟨rfl, B⟩
    clear xX10 xX11 xX12 xX13
    replace X1 := X1.below B
    replace XR := XR.below B
    replace HB := Lib.hid (bt HB.out B)
    clear B
    obtain ⟨xXR0, xXR1, xXR2, xXR3⟩ := XR.ce4 rfl rfl rfl rfl
    have zXR0 := XR.frozen
    obtain ⟨xX10, xX11, xX12, xX13⟩ := X1.ce4 rfl rfl rfl rfl
    go_wp2
    clear xXR0 zXR0 xXR1 xXR2 xXR3 xX10 xX11 xX12 xX13
    have SX := StN.mk4 XR (.int .i64 D) (.bool s) (.int .u64 M) (.int .i64 E)
    exact bodyPost_ret (v := .agg #[.int .i64 D, .bool s, .int .u64 M, .int .i64 E]) (by simp [results, Try.results48, go_sem, SX.box.cell]) rfl ⟨D, s, M, E, rfl, HQ, (SX.below HB.out (by omega))⟩
  · rw [rk_not hm] at hr
    subst hr
    have HC := Lib.hid (show decide (MayQ D s M E) = false from decide_eq_false hm)
    clear hm hM
    go_enter Try.func48, Try.ntmps48
    go_upto_region 1 with (fail)
    have X1 := (Bo.newAt w (g := w.heap.size) (by simp) #[.int .i64 D, .bool s, .int .u64 M, .int .i64 E] 24).below (bel1 _ (.cells #[.int .i64 0, .bool false, .int .u64 0, .int .i64 0] 24))
    have XR := (Bo.newAt (w.alloc (.cells #[.int .i64 D, .bool s, .int .u64 M, .int .i64 E] 24)) (g := w.heap.size + 1) (by simp) #[.int .i64 0, .bool false, .int .u64 0, .int .i64 0] 24)
    have HB := Lib.hid (bel2 w (.cells #[.int .i64 D, .bool s, .int .u64 M, .int .i64 E] 24) (.cells #[.int .i64 0, .bool false, .int .u64 0, .int .i64 0] 24))
    generalize hW1 : ((w.alloc (.cells #[.int .i64 D, .bool s, .int .u64 M, .int .i64 E] 24)).alloc (.cells #[.int .i64 0, .bool false, .int .u64 0, .int .i64 0] 24)) = w1 at *
    clear hW1
    obtain ⟨xX10, xX11, xX12, xX13⟩ := X1.ce4 rfl rfl rfl rfl
    go_wp2_with fail
    refine (yMay HC.out).mono ?_
    rintro ee w2 ⟨rfl, B⟩
    clear xX10 xX11 xX12 xX13
    replace X1 := X1.below B
    replace XR := XR.below B
    replace HB := Lib.hid (bt HB.out B)
    clear B
    obtain ⟨xXR0, xXR1, xXR2, xXR3⟩ := XR.ce4 rfl rfl rfl rfl
    have zXR0 := XR.frozen
    obtain ⟨xX10, xX11, xX12, xX13⟩ := X1.ce4 rfl rfl rfl rfl
    go_wp2
    clear xXR0 zXR0 xXR1 xXR2 xXR3 xX10 xX11 xX12 xX13
    have SX := StN.mk4 XR (.int .i64 0) (.bool false) (.int .u64 0) (.int .i64 0)
    exact bodyPost_ret (v := .agg #[.int .i64 0, .bool false, .int .u64 0, .int .i64 0]) (by simp [results, Try.results48, go_sem, SX.box.cell]) rfl ⟨_, _, _, _, rfl, Fq.nought, (SX.below HB.out (by omega))⟩
set_option maxHeartbeats 2000000 in
theorem yInf {w : World} {s : Bool} {r : Int} (hr : sgi s TP = r) : Calls Try.prog 36 #[.bool s] w (PN w r) := by
  go_enter Try.func36, Try.ntmps36
  go_upto_region 1 with (fail)
  have XR := (Bo.newAt w (g := w.heap.size) (by simp) #[.int .i64 0, .bool false, .int .u64 0, .int .i64 0] 24)
  have HB := Lib.hid (bel1 w (.cells #[.int .i64 0, .bool false, .int .u64 0, .int .i64 0] 24))
  generalize hW1 : (w.alloc (.cells #[.int .i64 0, .bool false, .int .u64 0, .int .i64 0] 24)) = w1 at *
  clear hW1
  obtain ⟨xXR0, xXR1, xXR2, xXR3⟩ := XR.ce4 rfl rfl rfl rfl
  have zXR0 := XR.frozen
  go_wp2
  clear xXR0 zXR0 xXR1 xXR2 xXR3
  have SX := StN.mk4 XR (.int .i64 2) (.bool s) (.int .u64 0) (.int .i64 0)
  exact bodyPost_ret (v := .agg #[.int .i64 2, .bool s, .int .u64 0, .int .i64 0]) (by simp [results, Try.results36, go_sem, SX.box.cell]) rfl ⟨_, _, _, _, rfl, hr ▸ Fq.inf s, (SX.below HB.out (by omega))⟩
set_option maxHeartbeats 2000000 in
theorem ySign {w : World} {D M E : Int} {s : Bool} {σ : Int} (hM : M < 18446744073709551616) (hs : cmpI (rk D s M E) 0 = σ) : Calls Try.prog 49 #[.agg #[.int .i64 D, .bool s, .int .u64 M, .int .i64 E]] w (PI w σ) := by
  obtain ⟨r, hr⟩ : ∃ r, rk D s M E = r := ⟨_, rfl⟩
  rw [hr] at hs
  have HR := Lib.hid hr
  have HS := Lib.hid hs
  clear hr hs
  go_enter Try.func49, Try.ntmps49
  go_upto_region 1 with (fail)
  have X1 := (Bo.newAt w (g := w.heap.size) (by simp) #[.int .i64 D, .bool s, .int .u64 M, .int .i64 E] 24)
  have HB := Lib.hid (bel1 w (.cells #[.int .i64 D, .bool s, .int .u64 M, .int .i64 E] 24))
  generalize hW1 : (w.alloc (.cells #[.int .i64 D, .bool s, .int .u64 M, .int .i64 E] 24)) = w1 at *
  clear hW1
  obtain ⟨xX10, xX11, xX12, xX13⟩ := X1.ce4 rfl rfl rfl rfl
  go_wp2_with fail
  refine (yTaken hM HR.out).mono ?_
  rintro ee w2 ⟨K1, s1, M1, E1, rfl, q1, B⟩
  clear xX10 xX11 xX12 xX13
  replace X1 := X1.below B
  replace HB := Lib.hid (bt HB.out B)
  clear B
  go_upto_region 2 with (fail)
  have lX3 := Nat.le_refl (World.heap w2).size
  have nX3X1 := X1.lt
  replace X1 := X1.below (bel1 _ (.cells #[.int .i64 K1, .bool s1, .int .u64 M1, .int .i64 E1] 24))
  replace HB := Lib.hid (bt HB.out (bel1 _ (.cells #[.int .i64 K1, .bool s1, .int .u64 M1, .int .i64 E1] 24)))
  have X3 := Bo.new w2 #[.int .i64 K1, .bool s1, .int .u64 M1, .int .i64 E1] 24
  generalize hWn : World.alloc w2 (.cells #[.int .i64 K1, .bool s1, .int .u64 M1, .int .i64 E1] 24) = w3 at *
  clear hWn
  rcases q1.three with ⟨h0, hr⟩ | ⟨h0, h1, hr⟩ | ⟨h0, h1, hr⟩
  · subst h0
    have hs := HS.out
    rw [cmpI_eq hr] at hs
    subst hs
    clear q1
    obtain ⟨xX30, xX31, xX32, xX33⟩ := X3.ce4 rfl rfl rfl rfl
    go_wp2
    go_ret
    exact ⟨by first | rfl | simp_all, HB.out⟩
  · have e0 : (K1 == 0) = false := by simpa using h0
    have hs := HS.out
    rw [cmpI_gt hr] at hs
    subst hs
    subst h1
    clear q1
    obtain ⟨xX30, xX31, xX32, xX33⟩ := X3.ce4 rfl rfl rfl rfl
    go_wp2
    go_ret
    exact ⟨by first | rfl | simp_all, HB.out⟩
  · have e0 : (K1 == 0) = false := by simpa using h0
    have hs := HS.out
    rw [cmpI_lt hr] at hs
    subst hs
    subst h1
    clear q1
    obtain ⟨xX30, xX31, xX32, xX33⟩ := X3.ce4 rfl rfl rfl rfl
    go_wp2
    go_ret
    exact ⟨by first | rfl | simp_all, HB.out⟩
end Go.Proofs.Ythhlccdmflgbbaa

/-
  What num.farther and Cmp do, and the document's Cmp.
-/
namespace Go.Proofs.Ythhlccdmflgbbaa
open Go.RowKit
set_option linter.unusedVariables false
set_option linter.unusedSimpArgs false
set_option maxRecDepth 100000

theorem compare64_any (x y : Int) (w : World) : Calls Try.prog 55 #[.int .u64 x, .int .u64 y] w fun e w' => e = .returned (.int .i64 (cmpI x y)) ∧ w = w' := by
  go_enter Try.func55, Try.ntmps55
  go_wp2
  all_goals go_ret
  · exact ⟨ret_int (cmpI_lt (by assumption)).symm, rfl⟩
  · exact ⟨ret_int (cmpI_gt (by assumption)).symm, rfl⟩
  · exact ⟨ret_int (cmpI_eq (by omega)).symm, rfl⟩

theorem vCmpI {x y z : Int} (w : World) (h : cmpI x y = z) : Calls Try.prog 46 #[.int .i64 x, .int .i64 y] w (PI w z) := by
  subst h
  refine (compareInt_any x y w).mono ?_
  rintro e w' ⟨rfl, rfl⟩
  exact ⟨rfl, Below.refl _ _⟩
theorem vCmpU {x y z : Int} (w : World) (h : cmpI x y = z) : Calls Try.prog 55 #[.int .u64 x, .int .u64 y] w (PI w z) := by
  subst h
  refine (compare64_any x y w).mono ?_
  rintro e w' ⟨rfl, rfl⟩
  exact ⟨rfl, Below.refl _ _⟩
set_option maxHeartbeats 2000000 in
theorem nFar {w : World} {D D' M M' E E' : Int} {s s' : Bool} {r : Int} (hr : fa D M E D' M' E' = r) : Calls Try.prog 47 #[.agg #[.int .i64 D, .bool s, .int .u64 M, .int .i64 E], .agg #[.int .i64 D', .bool s', .int .u64 M', .int .i64 E']] w (PI w r) := by
  unfold fa at hr
  by_cases hk : D ≠ D'
  · rw [if_pos hk] at hr
    have e0 : (D == D') = false := by simpa using hk
    have HR := Lib.hid hr
    clear hr hk
    go_enter Try.func47, Try.ntmps47
    go_upto_region 1 with (fail)
    have X1 := (Bo.newAt w (g := w.heap.size) (by simp) #[.int .i64 D, .bool s, .int .u64 M, .int .i64 E] 24).below (bel1 _ (.cells #[.int .i64 D', .bool s', .int .u64 M', .int .i64 E'] 24))
    have X2 := (Bo.newAt (w.alloc (.cells #[.int .i64 D, .bool s, .int .u64 M, .int .i64 E] 24)) (g := w.heap.size + 1) (by simp) #[.int .i64 D', .bool s', .int .u64 M', .int .i64 E'] 24)
    have HB := Lib.hid (bel2 w (.cells #[.int .i64 D, .bool s, .int .u64 M, .int .i64 E] 24) (.cells #[.int .i64 D', .bool s', .int .u64 M', .int .i64 E'] 24))
    generalize hW1 : ((w.alloc (.cells #[.int .i64 D, .bool s, .int .u64 M, .int .i64 E] 24)).alloc (.cells #[.int .i64 D', .bool s', .int .u64 M', .int .i64 E'] 24)) = w1 at *
    clear hW1
    obtain ⟨xX10, xX11, xX12, xX13⟩ := X1.ce4 rfl rfl rfl rfl
    obtain ⟨xX20, xX21, xX22, xX23⟩ := X2.ce4 rfl rfl rfl rfl
    go_wp2_with fail
    refine (vCmpI _ HR.out).mono ?_
    rintro ee w2 ⟨rfl, B⟩
    clear xX10 xX11 xX12 xX13 xX20 xX21 xX22 xX23
    replace X1 := X1.below B
    replace X2 := X2.below B
    replace HB := Lib.hid (bt HB.out B)
    clear B
    go_wp2
    go_ret
    exact ⟨rfl, HB.out⟩
  · rw [if_neg hk] at hr
    obtain rfl : D = D' := Decidable.not_not.1 hk
    clear hk
    by_cases he : E ≠ E'
    · rw [if_pos he] at hr
      have e0 : (E == E') = false := by simpa using he
      have HR := Lib.hid hr
      clear hr he
      go_enter Try.func47, Try.ntmps47
      go_upto_region 1 with (fail)
      have X1 := (Bo.newAt w (g := w.heap.size) (by simp) #[.int .i64 D, .bool s, .int .u64 M, .int .i64 E] 24).below (bel1 _ (.cells #[.int .i64 D, .bool s', .int .u64 M', .int .i64 E'] 24))
      have X2 := (Bo.newAt (w.alloc (.cells #[.int .i64 D, .bool s, .int .u64 M, .int .i64 E] 24)) (g := w.heap.size + 1) (by simp) #[.int .i64 D, .bool s', .int .u64 M', .int .i64 E'] 24)
      have HB := Lib.hid (bel2 w (.cells #[.int .i64 D, .bool s, .int .u64 M, .int .i64 E] 24) (.cells #[.int .i64 D, .bool s', .int .u64 M', .int .i64 E'] 24))
      generalize hW1 : ((w.alloc (.cells #[.int .i64 D, .bool s, .int .u64 M, .int .i64 E] 24)).alloc (.cells #[.int .i64 D, .bool s', .int .u64 M', .int .i64 E'] 24)) = w1 at *
      clear hW1
      obtain ⟨xX10, xX11, xX12, xX13⟩ := X1.ce4 rfl rfl rfl rfl
      obtain ⟨xX20, xX21, xX22, xX23⟩ := X2.ce4 rfl rfl rfl rfl
      go_wp2_with fail
      refine (vCmpI _ HR.out).mono ?_
      rintro ee w2 ⟨rfl, B⟩
      clear xX10 xX11 xX12 xX13 xX20 xX21 xX22 xX23
      replace X1 := X1.below B
      replace X2 := X2.below B
      replace HB := Lib.hid (bt HB.out B)
      clear B
      go_wp2
      go_ret
      exact ⟨rfl, HB.out⟩
    · rw [if_neg he] at hr
      obtain rfl : E = E' := Decidable.not_not.1 he
      have HR := Lib.hid hr
      clear hr he
      go_enter Try.func47, Try.ntmps47
      go_upto_region 1 with (fail)
      have X1 := (Bo.newAt w (g := w.heap.size) (by simp) #[.int .i64 D, .bool s, .int .u64 M, .int .i64 E] 24).below (bel1 _ (.cells #[.int .i64 D, .bool s', .int .u64 M', .int .i64 E] 24))
      have X2 := (Bo.newAt (w.alloc (.cells #[.int .i64 D, .bool s, .int .u64 M, .int .i64 E] 24)) (g := w.heap.size + 1) (by simp) #[.int .i64 D, .bool s', .int .u64 M', .int .i64 E] 24)
      have HB := Lib.hid (bel2 w (.cells #[.int .i64 D, .bool s, .int .u64 M, .int .i64 E] 24) (.cells #[.int .i64 D, .bool s', .int .u64 M', .int .i64 E] 24))
      generalize hW1 : ((w.alloc (.cells #[.int .i64 D, .bool s, .int .u64 M, .int .i64 E] 24)).alloc (.cells #[.int .i64 D, .bool s', .int .u64 M', .int .i64 E] 24)) = w1 at *
      clear hW1
      obtain ⟨xX10, xX11, xX12, xX13⟩ := X1.ce4 rfl rfl rfl rfl
      obtain ⟨xX20, xX21, xX22, xX23⟩ := X2.ce4 rfl rfl rfl rfl
      go_wp2_with fail
      refine (vCmpU _ HR.out).mono ?_
      rintro ee w2 ⟨rfl, B⟩
      clear xX10 xX11 xX12 xX13 xX20 xX21 xX22 xX23
      replace X1 := X1.below B
      replace X2 := X2.below B
      replace HB := Lib.hid (bt HB.out B)
      clear B
      go_wp2
      go_ret
      exact ⟨rfl, HB.out⟩
set_option maxHeartbeats 2000000 in
theorem nCmp {w : World} {D D' M M' E E' : Int} {s s' : Bool} {z : Int} (hM : M < 18446744073709551616) (hM' : M' < 18446744073709551616) (hz : cmpI (rk D s M E) (rk D' s' M' E') = z) : Calls Try.prog 30 #[.agg #[.int .i64 D, .bool s, .int .u64 M, .int .i64 E], .agg #[.int .i64 D', .bool s', .int .u64 M', .int .i64 E']] w (PI w z) := by
  have hs := cmp_sign (x := rk D s M E) (y := rk D' s' M' E')
  have hf := cmp_far (K := D) (s := s) (E := E) (K' := D') (s' := s') (E' := E') hM hM'
  have b1 := fa_bd D M E D' M' E'
  have b2 := cmpI_bd (rk D s M E) 0
  revert hs hf b1 b2
  generalize hσ : cmpI (rk D s M E) 0 = σ
  generalize hτ : cmpI (rk D' s' M' E') 0 = τ
  generalize hφ : fa D M E D' M' E' = φ
  rw [hz]
  intro hs hf b1 b2
  have HS := Lib.hid hσ
  have HT := Lib.hid hτ
  have HF := Lib.hid hφ
  clear hσ hτ hφ hz
  by_cases he : σ ≠ τ
  · have e0 : (σ == τ) = false := by simpa using he
    have HZ := Lib.hid (hs he)
    clear hs hf he b1 b2
    go_enter Try.func30, Try.ntmps30
    go_upto_region 1 with (fail)
    have X1 := (Bo.newAt w (g := w.heap.size) (by simp) #[.int .i64 D, .bool s, .int .u64 M, .int .i64 E] 24).below (bel1 _ (.cells #[.int .i64 D', .bool s', .int .u64 M', .int .i64 E'] 24))
    have X2 := (Bo.newAt (w.alloc (.cells #[.int .i64 D, .bool s, .int .u64 M, .int .i64 E] 24)) (g := w.heap.size + 1) (by simp) #[.int .i64 D', .bool s', .int .u64 M', .int .i64 E'] 24)
    have HB := Lib.hid (bel2 w (.cells #[.int .i64 D, .bool s, .int .u64 M, .int .i64 E] 24) (.cells #[.int .i64 D', .bool s', .int .u64 M', .int .i64 E'] 24))
    generalize hW1 : ((w.alloc (.cells #[.int .i64 D, .bool s, .int .u64 M, .int .i64 E] 24)).alloc (.cells #[.int .i64 D', .bool s', .int .u64 M', .int .i64 E'] 24)) = w1 at *
    clear hW1
    refine Jo.region_joint (T := [0, 1, 2, 3, 4, 5]) (ds := [some 7, some 8, some 9, some 10, some 5, some 6]) (ls := [[], [0], [], [2], [1], [3]]) (k := 6) (L := [(some 7, 0), (some 8, 1), (some 9, 2), (some 10, 3), (some 5, 4), (some 6, 5)]) (fuel := 0) (J := fun wj => Below (World.heap w1).size w1 wj)
      (F := [Jo.Fact.eq (.agg #[.int .i64 D, .bool s, .int .u64 M, .int .i64 E]), Jo.Fact.eq (.int .i64 σ), Jo.Fact.eq (.agg #[.int .i64 D', .bool s', .int .u64 M', .int .i64 E']), Jo.Fact.eq (.int .i64 τ), Jo.Fact.eq (.int .i64 σ), Jo.Fact.eq (.int .i64 τ)])
      (by kernel_rfl) (by kernel_rfl) (by decide) rfl rfl (fun _ _ h b => bt h b) ((Below.refl _ _).drew) ?_ (fun vs w2 hJ hd => ?_)
    · refine Jo.jd 0 (some 7) [] (Jo.Fact.eq (.agg #[.int .i64 D, .bool s, .int .u64 M, .int .i64 E])) rfl rfl rfl rfl (fun vs wj hJ hd K hK => ?_) ?_
      · simp only [Jo.putl, Jo.ze, Act.put, Jo.za, Jo.zb, Jo.zc] at hK ⊢
        clear hd
        have xX10 := (X1.below hJ).a 0 (.int .i64 D) rfl
        have xX11 := (X1.below hJ).a 1 (.bool s) rfl
        have xX12 := (X1.below hJ).a 2 (.int .u64 M) rfl
        have xX13 := (X1.below hJ).a 3 (.int .i64 E) rfl
        go_simp
        exact hK.out _ _ rfl (Below.refl _ _)
      refine Jo.jd 1 (some 8) [(some 7, 0)] (Jo.Fact.eq (.int .i64 σ)) rfl rfl rfl rfl (fun vs wj hJ hd K hK => ?_) ?_
      · simp only [Jo.putl, Jo.zd, Jo.ze, Act.put, Jo.za, Jo.zb, Jo.zc] at hK ⊢
        rw [show vs 0 = _ from hd 0 (by decide)] at hK ⊢
        clear hd
        go_simp
        refine (nSign hM HS.out).mono ?_
        rintro ee wk ⟨rfl, B⟩
        exact hK.out _ _ rfl B
      refine Jo.jd 2 (some 9) [] (Jo.Fact.eq (.agg #[.int .i64 D', .bool s', .int .u64 M', .int .i64 E'])) rfl rfl rfl rfl (fun vs wj hJ hd K hK => ?_) ?_
      · simp only [Jo.putl, Jo.ze, Act.put, Jo.za, Jo.zb, Jo.zc] at hK ⊢
        clear hd
        have xX20 := (X2.below hJ).a 0 (.int .i64 D') rfl
        have xX21 := (X2.below hJ).a 1 (.bool s') rfl
        have xX22 := (X2.below hJ).a 2 (.int .u64 M') rfl
        have xX23 := (X2.below hJ).a 3 (.int .i64 E') rfl
        go_simp
        exact hK.out _ _ rfl (Below.refl _ _)
      refine Jo.jd 3 (some 10) [(some 9, 2)] (Jo.Fact.eq (.int .i64 τ)) rfl rfl rfl rfl (fun vs wj hJ hd K hK => ?_) ?_
      · simp only [Jo.putl, Jo.zd, Jo.ze, Act.put, Jo.za, Jo.zb, Jo.zc] at hK ⊢
        rw [show vs 2 = _ from hd 2 (by decide)] at hK ⊢
        clear hd
        go_simp
        refine (nSign hM' HT.out).mono ?_
        rintro ee wk ⟨rfl, B⟩
        exact hK.out _ _ rfl B
      refine Jo.jd 4 (some 5) [(some 8, 1)] (Jo.Fact.eq (.int .i64 σ)) rfl rfl rfl rfl (fun vs wj hJ hd K hK => ?_) ?_
      · simp only [Jo.putl, Jo.zd, Jo.ze, Act.put, Jo.za, Jo.zb, Jo.zc] at hK ⊢
        rw [show vs 1 = _ from hd 1 (by decide)] at hK ⊢
        clear hd
        go_simp
        exact hK.out _ _ rfl (Below.refl _ _)
      refine Jo.jd 5 (some 6) [(some 10, 3)] (Jo.Fact.eq (.int .i64 τ)) rfl rfl rfl rfl (fun vs wj hJ hd K hK => ?_) ?_
      · simp only [Jo.putl, Jo.zd, Jo.ze, Act.put, Jo.za, Jo.zb, Jo.zc] at hK ⊢
        rw [show vs 3 = _ from hd 3 (by decide)] at hK ⊢
        clear hd
        go_simp
        exact hK.out _ _ rfl (Below.refl _ _)
      exact Jo.Steps.nil
    simp only [Jo.putl, Jo.zd, Jo.ze, Act.put, Jo.za, Jo.zb, Jo.zc]
    rw [show vs 0 = _ from hd 0 (by decide), show vs 1 = _ from hd 1 (by decide), show vs 2 = _ from hd 2 (by decide), show vs 3 = _ from hd 3 (by decide), show vs 4 = _ from hd 4 (by decide), show vs 5 = _ from hd 5 (by decide)]
    clear hd
    replace X1 := X1.below hJ
    replace X2 := X2.below hJ
    replace HB := Lib.hid (bt HB.out hJ)
    refine Jo.jdone (by kernel_rfl) ?_
    go_wp2_with fail
    refine (vCmpI _ HZ.out).mono ?_
    rintro ee w3 ⟨rfl, B⟩
    replace X1 := X1.below B
    replace X2 := X2.below B
    replace HB := Lib.hid (bt HB.out B)
    clear B
    go_wp2
    go_ret
    exact ⟨rfl, HB.out⟩
  · obtain rfl : σ = τ := Decidable.not_not.1 he
    have HZ := Lib.hid (hf rfl)
    have HW : Hid (IntKind.i64.wrap (σ * φ) = z) := Lib.hid (by
      rw [hf rfl]
      refine IntWalk.i64_in _ ?_
      rw [← hf rfl]
      rcases (show σ = -1 ∨ σ = 0 ∨ σ = 1 by omega) with h | h | h <;> rw [h] <;> omega)
    clear hs hf he b1 b2
    go_enter Try.func30, Try.ntmps30
    go_upto_region 1 with (fail)
    have X1 := (Bo.newAt w (g := w.heap.size) (by simp) #[.int .i64 D, .bool s, .int .u64 M, .int .i64 E] 24).below (bel1 _ (.cells #[.int .i64 D', .bool s', .int .u64 M', .int .i64 E'] 24))
    have X2 := (Bo.newAt (w.alloc (.cells #[.int .i64 D, .bool s, .int .u64 M, .int .i64 E] 24)) (g := w.heap.size + 1) (by simp) #[.int .i64 D', .bool s', .int .u64 M', .int .i64 E'] 24)
    have HB := Lib.hid (bel2 w (.cells #[.int .i64 D, .bool s, .int .u64 M, .int .i64 E] 24) (.cells #[.int .i64 D', .bool s', .int .u64 M', .int .i64 E'] 24))
    generalize hW1 : ((w.alloc (.cells #[.int .i64 D, .bool s, .int .u64 M, .int .i64 E] 24)).alloc (.cells #[.int .i64 D', .bool s', .int .u64 M', .int .i64 E'] 24)) = w1 at *
    clear hW1
    refine Jo.region_joint (T := [0, 1, 2, 3, 4, 5]) (ds := [some 7, some 8, some 9, some 10, some 5, some 6]) (ls := [[], [0], [], [2], [1], [3]]) (k := 6) (L := [(some 7, 0), (some 8, 1), (some 9, 2), (some 10, 3), (some 5, 4), (some 6, 5)]) (fuel := 0) (J := fun wj => Below (World.heap w1).size w1 wj)
      (F := [Jo.Fact.eq (.agg #[.int .i64 D, .bool s, .int .u64 M, .int .i64 E]), Jo.Fact.eq (.int .i64 σ), Jo.Fact.eq (.agg #[.int .i64 D', .bool s', .int .u64 M', .int .i64 E']), Jo.Fact.eq (.int .i64 σ), Jo.Fact.eq (.int .i64 σ), Jo.Fact.eq (.int .i64 σ)])
      (by kernel_rfl) (by kernel_rfl) (by decide) rfl rfl (fun _ _ h b => bt h b) ((Below.refl _ _).drew) ?_ (fun vs w2 hJ hd => ?_)
    · refine Jo.jd 0 (some 7) [] (Jo.Fact.eq (.agg #[.int .i64 D, .bool s, .int .u64 M, .int .i64 E])) rfl rfl rfl rfl (fun vs wj hJ hd K hK => ?_) ?_
      · simp only [Jo.putl, Jo.ze, Act.put, Jo.za, Jo.zb, Jo.zc] at hK ⊢
        clear hd
        have xX10 := (X1.below hJ).a 0 (.int .i64 D) rfl
        have xX11 := (X1.below hJ).a 1 (.bool s) rfl
        have xX12 := (X1.below hJ).a 2 (.int .u64 M) rfl
        have xX13 := (X1.below hJ).a 3 (.int .i64 E) rfl
        go_simp
        exact hK.out _ _ rfl (Below.refl _ _)
      refine Jo.jd 1 (some 8) [(some 7, 0)] (Jo.Fact.eq (.int .i64 σ)) rfl rfl rfl rfl (fun vs wj hJ hd K hK => ?_) ?_
      · simp only [Jo.putl, Jo.zd, Jo.ze, Act.put, Jo.za, Jo.zb, Jo.zc] at hK ⊢
        rw [show vs 0 = _ from hd 0 (by decide)] at hK ⊢
        clear hd
        go_simp
        refine (nSign hM HS.out).mono ?_
        rintro ee wk ⟨rfl, B⟩
        exact hK.out _ _ rfl B
      refine Jo.jd 2 (some 9) [] (Jo.Fact.eq (.agg #[.int .i64 D', .bool s', .int .u64 M', .int .i64 E'])) rfl rfl rfl rfl (fun vs wj hJ hd K hK => ?_) ?_
      · simp only [Jo.putl, Jo.ze, Act.put, Jo.za, Jo.zb, Jo.zc] at hK ⊢
        clear hd
        have xX20 := (X2.below hJ).a 0 (.int .i64 D') rfl
        have xX21 := (X2.below hJ).a 1 (.bool s') rfl
        have xX22 := (X2.below hJ).a 2 (.int .u64 M') rfl
        have xX23 := (X2.below hJ).a 3 (.int .i64 E') rfl
        go_simp
        exact hK.out _ _ rfl (Below.refl _ _)
      refine Jo.jd 3 (some 10) [(some 9, 2)] (Jo.Fact.eq (.int .i64 σ)) rfl rfl rfl rfl (fun vs wj hJ hd K hK => ?_) ?_
      · simp only [Jo.putl, Jo.zd, Jo.ze, Act.put, Jo.za, Jo.zb, Jo.zc] at hK ⊢
        rw [show vs 2 = _ from hd 2 (by decide)] at hK ⊢
        clear hd
        go_simp
        refine (nSign hM' HT.out).mono ?_
        rintro ee wk ⟨rfl, B⟩
        exact hK.out _ _ rfl B
      refine Jo.jd 4 (some 5) [(some 8, 1)] (Jo.Fact.eq (.int .i64 σ)) rfl rfl rfl rfl (fun vs wj hJ hd K hK => ?_) ?_
      · simp only [Jo.putl, Jo.zd, Jo.ze, Act.put, Jo.za, Jo.zb, Jo.zc] at hK ⊢
        rw [show vs 1 = _ from hd 1 (by decide)] at hK ⊢
        clear hd
        go_simp
        exact hK.out _ _ rfl (Below.refl _ _)
      refine Jo.jd 5 (some 6) [(some 10, 3)] (Jo.Fact.eq (.int .i64 σ)) rfl rfl rfl rfl (fun vs wj hJ hd K hK => ?_) ?_
      · simp only [Jo.putl, Jo.zd, Jo.ze, Act.put, Jo.za, Jo.zb, Jo.zc] at hK ⊢
        rw [show vs 3 = _ from hd 3 (by decide)] at hK ⊢
        clear hd
        go_simp
        exact hK.out _ _ rfl (Below.refl _ _)
      exact Jo.Steps.nil
    simp only [Jo.putl, Jo.zd, Jo.ze, Act.put, Jo.za, Jo.zb, Jo.zc]
    rw [show vs 0 = _ from hd 0 (by decide), show vs 1 = _ from hd 1 (by decide), show vs 2 = _ from hd 2 (by decide), show vs 3 = _ from hd 3 (by decide), show vs 4 = _ from hd 4 (by decide), show vs 5 = _ from hd 5 (by decide)]
    clear hd
    replace X1 := X1.below hJ
    replace X2 := X2.below hJ
    replace HB := Lib.hid (bt HB.out hJ)
    refine Jo.jdone (by kernel_rfl) ?_
    obtain ⟨xX10, xX11, xX12, xX13⟩ := X1.ce4 rfl rfl rfl rfl
    obtain ⟨xX20, xX21, xX22, xX23⟩ := X2.ce4 rfl rfl rfl rfl
    go_wp2_with fail
    refine (nFar HF.out).mono ?_
    rintro ee w3 ⟨rfl, B⟩
    clear xX10 xX11 xX12 xX13 xX20 xX21 xX22 xX23
    replace X1 := X1.below B
    replace X2 := X2.below B
    replace HB := Lib.hid (bt HB.out B)
    clear B
    have hw := HW.out
    go_wp2
    go_ret
    exact ⟨rfl, HB.out⟩
set_option maxHeartbeats 4000000 in
theorem yCmp {w : World} {D D' M M' E E' : Int} {s s' : Bool} {z : Int} (hM : M < 18446744073709551616) (hM' : M' < 18446744073709551616) (hz : cmpI (rk D s M E) (rk D' s' M' E') = z) : Calls Try.prog 35 #[.agg #[.int .i64 D, .bool s, .int .u64 M, .int .i64 E], .agg #[.int .i64 D', .bool s', .int .u64 M', .int .i64 E']] w (PI w z) := by
  obtain ⟨r, hr⟩ : ∃ r, rk D s M E = r := ⟨_, rfl⟩
  obtain ⟨r', hr'⟩ : ∃ r, rk D' s' M' E' = r := ⟨_, rfl⟩
  rw [hr, hr'] at hz
  have hs := cmp_sign (x := r) (y := r')
  obtain ⟨σ, hσ⟩ : ∃ x, cmpI r 0 = x := ⟨_, rfl⟩
  obtain ⟨τ, hτ⟩ : ∃ x, cmpI r' 0 = x := ⟨_, rfl⟩
  rw [hσ, hτ, hz] at hs
  have HS := Lib.hid hσ
  have HT := Lib.hid hτ
  have HR := Lib.hid hr
  have HR' := Lib.hid hr'
  have HZ := Lib.hid hz
  have HQ := Lib.hid hs
  clear hr hr' hσ hτ hz hs
  go_enter Try.func35, Try.ntmps35
  go_upto_region 1 with (fail)
  have X1 := (Bo.newAt w (g := w.heap.size) (by simp) #[.int .i64 D, .bool s, .int .u64 M, .int .i64 E] 24).below (bel1 _ (.cells #[.int .i64 D', .bool s', .int .u64 M', .int .i64 E'] 24))
  have X2 := (Bo.newAt (w.alloc (.cells #[.int .i64 D, .bool s, .int .u64 M, .int .i64 E] 24)) (g := w.heap.size + 1) (by simp) #[.int .i64 D', .bool s', .int .u64 M', .int .i64 E'] 24)
  have HB := Lib.hid (bel2 w (.cells #[.int .i64 D, .bool s, .int .u64 M, .int .i64 E] 24) (.cells #[.int .i64 D', .bool s', .int .u64 M', .int .i64 E'] 24))
  generalize hW1 : ((w.alloc (.cells #[.int .i64 D, .bool s, .int .u64 M, .int .i64 E] 24)).alloc (.cells #[.int .i64 D', .bool s', .int .u64 M', .int .i64 E'] 24)) = w1 at *
  clear hW1
  obtain ⟨xX10, xX11, xX12, xX13⟩ := X1.ce4 rfl rfl rfl rfl
  go_wp2_with fail
  refine (yTaken hM HR.out).mono ?_
  rintro ee w2 ⟨K1, s1, M1, E1, rfl, q1, B⟩
  clear xX10 xX11 xX12 xX13
  replace X1 := X1.below B
  replace X2 := X2.below B
  replace HB := Lib.hid (bt HB.out B)
  clear B
  go_upto_region 2 with (fail)
  have lX5 := Nat.le_refl (World.heap w2).size
  have nX5X1 := X1.lt
  have nX5X2 := X2.lt
  replace X1 := X1.below (bel1 _ (.cells #[.int .i64 K1, .bool s1, .int .u64 M1, .int .i64 E1] 24))
  replace X2 := X2.below (bel1 _ (.cells #[.int .i64 K1, .bool s1, .int .u64 M1, .int .i64 E1] 24))
  replace HB := Lib.hid (bt HB.out (bel1 _ (.cells #[.int .i64 K1, .bool s1, .int .u64 M1, .int .i64 E1] 24)))
  have X5 := Bo.new w2 #[.int .i64 K1, .bool s1, .int .u64 M1, .int .i64 E1] 24
  generalize hWn : World.alloc w2 (.cells #[.int .i64 K1, .bool s1, .int .u64 M1, .int .i64 E1] 24) = w3 at *
  clear hWn
  obtain ⟨xX20, xX21, xX22, xX23⟩ := X2.ce4 rfl rfl rfl rfl
  go_wp2_with fail
  refine (yTaken hM' HR'.out).mono ?_
  rintro ee w4 ⟨K2, s2, M2, E2, rfl, q2, B⟩
  clear xX20 xX21 xX22 xX23
  replace X1 := X1.below B
  replace X2 := X2.below B
  replace X5 := X5.below B
  replace HB := Lib.hid (bt HB.out B)
  clear B
  go_upto_region 3 with (fail)
  have lX6 := Nat.le_refl (World.heap w4).size
  have nX6X1 := X1.lt
  have nX6X2 := X2.lt
  have nX6X5 := X5.lt
  replace X1 := X1.below (bel1 _ (.cells #[.int .i64 K2, .bool s2, .int .u64 M2, .int .i64 E2] 24))
  replace X2 := X2.below (bel1 _ (.cells #[.int .i64 K2, .bool s2, .int .u64 M2, .int .i64 E2] 24))
  replace X5 := X5.below (bel1 _ (.cells #[.int .i64 K2, .bool s2, .int .u64 M2, .int .i64 E2] 24))
  replace HB := Lib.hid (bt HB.out (bel1 _ (.cells #[.int .i64 K2, .bool s2, .int .u64 M2, .int .i64 E2] 24)))
  have X6 := Bo.new w4 #[.int .i64 K2, .bool s2, .int .u64 M2, .int .i64 E2] 24
  generalize hWn : World.alloc w4 (.cells #[.int .i64 K2, .bool s2, .int .u64 M2, .int .i64 E2] 24) = w5 at *
  clear hWn
  clear lX5 lX6
  have hs1 := HS.out
  rw [← q1.rk] at hs1
  have hs2 := HT.out
  rw [← q2.rk] at hs2
  have HS1 := Lib.hid hs1
  have HS2 := Lib.hid hs2
  clear hs1 hs2
  obtain ⟨xX50, xX51, xX52, xX53⟩ := X5.ce4 rfl rfl rfl rfl
  go_wp2_with fail
  refine (ySign q1.top HS1.out).mono ?_
  rintro ee w6 ⟨rfl, B⟩
  clear xX50 xX51 xX52 xX53
  replace X5 := X5.below B
  replace X6 := X6.below B
  replace HB := Lib.hid (bt HB.out B)
  clear B
  obtain ⟨xX60, xX61, xX62, xX63⟩ := X6.ce4 rfl rfl rfl rfl
  go_wp2_with fail
  refine (ySign q2.top HS2.out).mono ?_
  rintro ee w7 ⟨rfl, B⟩
  clear xX60 xX61 xX62 xX63
  replace X5 := X5.below B
  replace X6 := X6.below B
  replace HB := Lib.hid (bt HB.out B)
  clear B
  clear HS1 HS2
  by_cases he : σ ≠ τ
  · have e0 : (σ == τ) = false := by simpa using he
    have h1 := HQ.out he
    rcases cmpI_tri σ τ with ⟨a1, a2⟩ | ⟨a1, a2⟩ | ⟨a1, a2⟩
    · obtain rfl : -1 = z := a2.symm.trans h1
      go_wp2
      go_ret
      exact ⟨rfl, HB.out⟩
    · exact absurd a1 he
    · obtain rfl : 1 = z := a2.symm.trans h1
      go_wp2
      go_ret
      exact ⟨rfl, HB.out⟩
  · obtain rfl : σ = τ := Decidable.not_not.1 he
    by_cases h0 : σ = 0
    · subst h0
      obtain rfl : 0 = z := by
        have h1 := cmpI_zero.1 HS.out
        have h2 := cmpI_zero.1 HT.out
        rw [← HZ.out, h1, h2]; rfl
      go_wp2
      go_ret
      exact ⟨rfl, HB.out⟩
    · have e0 : (σ == 0) = false := by simpa using h0
      have k1 : K1 ≠ 0 := fun e => h0 (by rw [← HS.out, q1.zero_iff.1 e]; rfl)
      have k2 : K2 ≠ 0 := fun e => h0 (by rw [← HT.out, q2.zero_iff.1 e]; rfl)
      have hst : s1 = s2 := by
        have e1 := q1.sign k1
        have e2 := q2.sign k2
        rw [HS.out] at e1
        rw [HT.out, e1] at e2
        cases s1 <;> cases s2 <;> first | rfl | exact absurd e2 (by decide)
      subst hst
      have hf := fa_fq q1 q2 k1 k2
      rw [HS.out, HZ.out] at hf
      have hσ : σ = -1 ∨ σ = 1 := by
        have := cmpI_bd r 0
        rw [HS.out] at this
        omega
      by_cases hrr : r = r'
      · subst hrr
        obtain ⟨rfl, -, rfl, rfl⟩ := q1.uniq q2
        obtain rfl : 0 = z := by rw [← HZ.out, cmpI_eq rfl]
        obtain ⟨xX50, xX51, xX52, xX53⟩ := X5.ce4 rfl rfl rfl rfl
        obtain ⟨xX60, xX61, xX62, xX63⟩ := X6.ce4 rfl rfl rfl rfl
        go_wp2
        go_ret
        exact ⟨rfl, HB.out⟩
      · have HW : Hid (IntKind.i64.wrap (-σ) = -σ) := Lib.hid (IntWalk.i64_in _ (by omega))
        clear hσ
        unfold fa at hf
        clear HS HT HQ HZ
        rcases q1.plc k1 with ⟨rfl, h1, h2, h3, h4, h5⟩ | ⟨rfl, rfl, rfl, h5⟩ <;> rcases q2.plc k2 with ⟨rfl, g1, g2, g3, g4, g5⟩ | ⟨rfl, rfl, rfl, g5⟩
        · rw [if_neg (by decide)] at hf
          clear h1 h2 h3 h4 h5 g1 g2 g3 g4 g5
          rcases cmpI_tri E1 E2 with ⟨a1, a2⟩ | ⟨a1, a2⟩ | ⟨a1, a2⟩
          · rw [if_pos (by omega), a2] at hf
            have e2 : decide (E2 < E1) = false := decide_eq_false (by omega)
            have e3 : (E1 == E2) = false := by
              have : E1 ≠ E2 := by omega
              simpa using this
            obtain rfl : -σ = z := by omega
            have hw := HW.out
            clear hf
            obtain ⟨xX50, xX51, xX52, xX53⟩ := X5.ce4 rfl rfl rfl rfl
            obtain ⟨xX60, xX61, xX62, xX63⟩ := X6.ce4 rfl rfl rfl rfl
            go_wp2
            go_ret
            exact ⟨rfl, HB.out⟩
          · obtain rfl : E1 = E2 := a1
            rw [if_neg (by simp)] at hf
            rcases cmpI_tri M1 M2 with ⟨b1, b2⟩ | ⟨b1, b2⟩ | ⟨b1, b2⟩
            · rw [b2] at hf
              have e2 : decide (M2 < M1) = false := decide_eq_false (by omega)
              obtain rfl : -σ = z := by omega
              have hw := HW.out
              clear hf
              obtain ⟨xX50, xX51, xX52, xX53⟩ := X5.ce4 rfl rfl rfl rfl
              obtain ⟨xX60, xX61, xX62, xX63⟩ := X6.ce4 rfl rfl rfl rfl
              go_wp2
              go_ret
              exact ⟨rfl, HB.out⟩
            · exact absurd (q1.2.2.symm.trans (b1 ▸ q2.2.2)) hrr
            · rw [b2] at hf
              have e2 : decide (M2 < M1) = true := decide_eq_true b1
              rw [Int.mul_one] at hf
              subst hf
              obtain ⟨xX50, xX51, xX52, xX53⟩ := X5.ce4 rfl rfl rfl rfl
              obtain ⟨xX60, xX61, xX62, xX63⟩ := X6.ce4 rfl rfl rfl rfl
              go_wp2
              go_ret
              exact ⟨rfl, HB.out⟩
          · rw [if_pos (by omega), a2] at hf
            have e2 : decide (E2 < E1) = true := decide_eq_true a1
            rw [Int.mul_one] at hf
            subst hf
            obtain ⟨xX50, xX51, xX52, xX53⟩ := X5.ce4 rfl rfl rfl rfl
            obtain ⟨xX60, xX61, xX62, xX63⟩ := X6.ce4 rfl rfl rfl rfl
            go_wp2
            go_ret
            exact ⟨rfl, HB.out⟩
        · rw [if_pos (by decide), cmpI_lt (by decide)] at hf
          clear h1 h2 h3 h4 h5 g5
          obtain rfl : -σ = z := by omega
          have hw := HW.out
          clear hf
          obtain ⟨xX50, xX51, xX52, xX53⟩ := X5.ce4 rfl rfl rfl rfl
          obtain ⟨xX60, xX61, xX62, xX63⟩ := X6.ce4 rfl rfl rfl rfl
          go_wp2
          go_ret
          exact ⟨rfl, HB.out⟩
        · rw [if_pos (by decide), cmpI_gt (by decide)] at hf
          clear g1 g2 g3 g4 g5 h5
          rw [Int.mul_one] at hf
          subst hf
          obtain ⟨xX50, xX51, xX52, xX53⟩ := X5.ce4 rfl rfl rfl rfl
          obtain ⟨xX60, xX61, xX62, xX63⟩ := X6.ce4 rfl rfl rfl rfl
          go_wp2
          go_ret
          exact ⟨rfl, HB.out⟩
        · exact absurd (q1.2.2.symm.trans q2.2.2) hrr
end Go.Proofs.Ythhlccdmflgbbaa

/-
  What the document's finite and Next do.
-/
namespace Go.Proofs.Ythhlccdmflgbbaa
open Go.RowKit
set_option linter.unusedVariables false
set_option linter.unusedSimpArgs false
set_option maxRecDepth 100000

/-- The place of a number of a sign, 64 bits and an exponent, as far as it may be. -/
def fin (s : Bool) (M E : Int) (aw : Bool) : Int := sgi s (if 1048576 < E then (if aw = true then TP else TP - 1) else if E < -1048576 then (if aw = true then 1 else 0) else M - 9223372036854775808 + 1 + (E + 1048576) * 9223372036854775808)
end Go.Proofs.Ythhlccdmflgbbaa

/-
  Rounding to numbers of 64 bits: the place of the one next to a dyadic number, on its near side and on its far side; what its value is. Plain arithmetic; no Go text.
-/
namespace Go.Proofs.Ythhlccdmflgbbaa
open Go.RowKit
set_option linter.unusedVariables false

/-- The 64 bits from the highest one on. -/
def tp (m : Nat) : Nat := m * 2 ^ 64 / 2 ^ blen m
theorem tp_ge {m : Nat} (h : m ≠ 0) : 2 ^ 63 ≤ tp m := by
  unfold tp
  have h1 := blen_le h
  have h2 : blen m ≠ 0 := fun e => h (blen_eq_zero.1 e)
  obtain ⟨k, hk⟩ : ∃ k, blen m = k + 1 := ⟨blen m - 1, by omega⟩
  rw [hk] at h1 ⊢
  rw [Nat.le_div_iff_mul_le (Nat.pow_pos (by decide)), Nat.pow_succ, Nat.add_sub_cancel] at *
  have := Nat.mul_le_mul_right (2 ^ 64) h1
  calc 2 ^ 63 * (2 ^ k * 2) = 2 ^ k * 2 ^ 64 := by rw [show (2 : Nat) ^ 64 = 2 ^ 63 * 2 by decide, Nat.mul_comm (2 ^ 63) (2 ^ k * 2), Nat.mul_assoc, Nat.mul_comm 2 (2 ^ 63)]
    _ ≤ m * 2 ^ 64 := this
theorem tp_lt (m : Nat) : tp m < 2 ^ 64 := by
  unfold tp
  rw [Nat.div_lt_iff_lt_mul (Nat.pow_pos (by decide)), Nat.mul_comm (2 ^ 64)]
  exact Nat.mul_lt_mul_of_pos_right (blen_lt m) (Nat.pow_pos (by decide))
theorem tp_small {m : Nat} (h : blen m ≤ 64) : tp m = m * 2 ^ (64 - blen m) := by
  unfold tp
  rw [show 2 ^ 64 = 2 ^ (64 - blen m) * 2 ^ blen m by rw [← Nat.pow_add]; congr 1; omega, ← Nat.mul_assoc, Nat.mul_div_cancel _ (Nat.pow_pos (by decide))]

/-- The exponent of the 64 bits. -/
def xp (m : Nat) (E : Int) : Int := E + (blen m : Nat) - 64
/-- The place next to a number above nought, on its near side. -/
def lo (m : Nat) (E : Int) : Int :=
  if m = 0 then 0 else if 1048576 < xp m E then 19342822337206103650074624 else if xp m E < -1048576 then 0 else (tp m : Int) - 9223372036854775808 + 1 + (xp m E + 1048576) * 9223372036854775808
/-- It is that number itself. -/
def ext (m : Nat) (E : Int) : Bool := m == 0 || (decide (xp m E ≤ 1048576) && (decide (-1048576 ≤ xp m E) && decide (blen m ≤ 64)))
/-- The place next to a number above nought, on its far side. -/
def hi (m : Nat) (E : Int) : Int := if ext m E = true then lo m E else lo m E + 1
theorem lo_bd (m : Nat) (E : Int) : 0 ≤ lo m E ∧ lo m E ≤ 19342822337206103650074624 := by
  unfold lo
  have h1 := tp_lt m
  by_cases h : m = 0
  · rw [if_pos h]; omega
  · rw [if_neg h]
    have h0 := tp_ge h
    by_cases h3 : 1048576 < xp m E
    · rw [if_pos h3]; omega
    · rw [if_neg h3]
      by_cases h4 : xp m E < -1048576
      · rw [if_pos h4]; omega
      · rw [if_neg h4]
        omega
/-- What a place is worth, times a fixed power of two. -/
def vp (r : Int) : Int := if r ≤ 0 then 0 else ((r - 1) % 9223372036854775808 + 9223372036854775808) * 2 ^ ((r - 1) / 9223372036854775808 - 1048576 + KK).toNat
def vr (r : Int) : Int := if r < 0 then -vp (-r) else vp r
theorem vp_fin {M E : Int} (h1 : 9223372036854775808 ≤ M) (h2 : M < 18446744073709551616) (h3 : -1048576 ≤ E) : vp (M - 9223372036854775808 + 1 + (E + 1048576) * 9223372036854775808) = M * 2 ^ (E + KK).toNat := by
  unfold vp
  rw [if_neg (by omega)]
  have e1 : (M - 9223372036854775808 + 1 + (E + 1048576) * 9223372036854775808 - 1) % 9223372036854775808 + 9223372036854775808 = M := by omega
  have e2 : (M - 9223372036854775808 + 1 + (E + 1048576) * 9223372036854775808 - 1) / 9223372036854775808 - 1048576 = E := by omega
  rw [e1, e2]
theorem vp_succ {r : Int} (h : 0 ≤ r) : vp r < vp (r + 1) := by
  by_cases h0 : r = 0
  · subst h0
    have : vp 0 = 0 := rfl
    rw [this]
    unfold vp
    rw [if_neg (by omega)]
    exact Int.mul_pos (by omega) (p2pos _)
  · obtain ⟨q, m, hm, hm2, e⟩ : ∃ q m : Int, 9223372036854775808 ≤ m ∧ m < 18446744073709551616 ∧ r = m - 9223372036854775808 + 1 + (q + 1048576) * 9223372036854775808 := ⟨(r - 1) / 9223372036854775808 - 1048576, (r - 1) % 9223372036854775808 + 9223372036854775808, by omega, by omega, by omega⟩
    have hq : -1048576 ≤ q := by omega
    have e0 := vp_fin hm hm2 hq
    rw [← e] at e0
    rw [e0]
    by_cases hc : m = 18446744073709551615
    · have e1 := vp_fin (M := 9223372036854775808) (E := q + 1) (by omega) (by omega) (by omega)
      rw [show (9223372036854775808 : Int) - 9223372036854775808 + 1 + (q + 1 + 1048576) * 9223372036854775808 = r + 1 by omega] at e1
      rw [e1, show (q + 1 + (KK : Int)).toNat = (q + KK).toNat + 1 by rw [KK_eq]; omega, Int.pow_succ, hc, ← Int.mul_assoc, Int.mul_right_comm]
      exact Int.mul_lt_mul_of_pos_right (by omega) (p2pos _)
    · have e1 := vp_fin (M := m + 1) (E := q) (by omega) (by omega) hq
      rw [show m + 1 - 9223372036854775808 + 1 + (q + 1048576) * 9223372036854775808 = r + 1 by omega] at e1
      rw [e1]
      exact Int.mul_lt_mul_of_pos_right (by omega) (p2pos _)
theorem vr_succ (r : Int) : vr r < vr (r + 1) := by
  unfold vr
  by_cases h : 0 ≤ r
  · rw [if_neg (by omega), if_neg (by omega)]
    exact vp_succ h
  · rw [if_pos (by omega)]
    have := vp_succ (r := -(r + 1)) (by omega)
    rw [show -(r + 1) + 1 = -r by omega] at this
    by_cases h2 : r + 1 < 0
    · rw [if_pos h2]
      omega
    · rw [if_neg h2]
      have e : r + 1 = 0 := by omega
      rw [e] at this ⊢
      rw [show vp (-0) = 0 from rfl] at this
      rw [show vp 0 = 0 from rfl]
      omega
theorem vr_add (r : Int) : ∀ n : Nat, vr r < vr (r + (n + 1 : Nat))
  | 0 => vr_succ r
  | n + 1 => by
    have h1 := vr_add r n
    have h2 := vr_succ (r + (n + 1 : Nat))
    rw [show r + ((n + 1 + 1 : Nat) : Int) = r + ((n + 1 : Nat) : Int) + 1 by omega]
    omega
theorem vr_lt {r t : Int} (h : r < t) : vr r < vr t := by
  have := vr_add r (t - r - 1).toNat
  rwa [show r + (((t - r - 1).toNat + 1 : Nat) : Int) = t by omega] at this
theorem vr_cmp (r t : Int) : cmpI (vr r) (vr t) = cmpI r t := by
  rcases cmpI_tri r t with ⟨a1, a2⟩ | ⟨a1, a2⟩ | ⟨a1, a2⟩ <;> rw [a2]
  · exact cmpI_lt (vr_lt a1)
  · exact cmpI_eq (by rw [a1])
  · exact cmpI_gt (vr_lt a1)
theorem vr_neg (r : Int) : vr (-r) = -vr r := by
  unfold vr
  by_cases h : r < 0
  · rw [if_neg (by omega), if_pos h, Int.neg_neg]
  · by_cases h2 : r = 0
    · subst h2; rfl
    · rw [if_pos (by omega), if_neg h, Int.neg_neg]
theorem vr_sgi (s : Bool) (r : Int) : vr (sgi s r) = sgi s (vr r) := by
  cases s
  · rfl
  · exact vr_neg r
end Go.Proofs.Ythhlccdmflgbbaa

/-
  How many bits a number of 64 bits needs, by math/bits; what num.Of does.
-/
namespace Go.Proofs.Ythhlccdmflgbbaa
open Go.RowKit
set_option linter.unusedVariables false
set_option linter.unusedSimpArgs false
set_option maxRecDepth 100000

set_option maxHeartbeats 1000000 in
theorem len64_111 (z : Int) (q : Nat) (w : World) (h0 : 0 ≤ z) (hz : z ≤ 18446744073709551615) (h1 : 4294967296 ≤ z) (h2 : 65536 ≤ z / 4294967296) (h3 : 256 ≤ z / 4294967296 / 65536) (hq : q ≤ 8)
    (hi : ∀ W, (Instr.index 9 (.string Lib.len8tab) (.int .u8 (z / 4294967296 / 65536 / 256))).run Try.prog W = .ok (.int .u8 (q : Int)) W) :
    Calls Try.prog 53 #[.int .u64 z] w fun e w' => e = .returned (.int .i64 (56 + q : Int)) ∧ w = w' := by
  go_enter Try.func53, Try.ntmps53
  go_wp2
  go_ret
  exact ⟨rfl, rfl⟩
set_option maxHeartbeats 1000000 in
theorem len64_110 (z : Int) (q : Nat) (w : World) (h0 : 0 ≤ z) (hz : z ≤ 18446744073709551615) (h1 : 4294967296 ≤ z) (h2 : 65536 ≤ z / 4294967296) (h3 : z / 4294967296 / 65536 < 256) (hq : q ≤ 8)
    (hi : ∀ W, (Instr.index 9 (.string Lib.len8tab) (.int .u8 (z / 4294967296 / 65536))).run Try.prog W = .ok (.int .u8 (q : Int)) W) :
    Calls Try.prog 53 #[.int .u64 z] w fun e w' => e = .returned (.int .i64 (48 + q : Int)) ∧ w = w' := by
  go_enter Try.func53, Try.ntmps53
  go_wp2
  go_ret
  exact ⟨rfl, rfl⟩
set_option maxHeartbeats 1000000 in
theorem len64_101 (z : Int) (q : Nat) (w : World) (h0 : 0 ≤ z) (hz : z ≤ 18446744073709551615) (h1 : 4294967296 ≤ z) (h2 : z / 4294967296 < 65536) (h3 : 256 ≤ z / 4294967296) (hq : q ≤ 8)
    (hi : ∀ W, (Instr.index 9 (.string Lib.len8tab) (.int .u8 (z / 4294967296 / 256))).run Try.prog W = .ok (.int .u8 (q : Int)) W) :
    Calls Try.prog 53 #[.int .u64 z] w fun e w' => e = .returned (.int .i64 (40 + q : Int)) ∧ w = w' := by
  go_enter Try.func53, Try.ntmps53
  go_wp2
  go_ret
  exact ⟨rfl, rfl⟩
set_option maxHeartbeats 1000000 in
theorem len64_100 (z : Int) (q : Nat) (w : World) (h0 : 0 ≤ z) (hz : z ≤ 18446744073709551615) (h1 : 4294967296 ≤ z) (h2 : z / 4294967296 < 65536) (h3 : z / 4294967296 < 256) (hq : q ≤ 8)
    (hi : ∀ W, (Instr.index 9 (.string Lib.len8tab) (.int .u8 (z / 4294967296))).run Try.prog W = .ok (.int .u8 (q : Int)) W) :
    Calls Try.prog 53 #[.int .u64 z] w fun e w' => e = .returned (.int .i64 (32 + q : Int)) ∧ w = w' := by
  go_enter Try.func53, Try.ntmps53
  go_wp2
  go_ret
  exact ⟨rfl, rfl⟩
set_option maxHeartbeats 1000000 in
theorem len64_011 (z : Int) (q : Nat) (w : World) (h0 : 0 ≤ z) (hz : z ≤ 18446744073709551615) (h1 : z < 4294967296) (h2 : 65536 ≤ z) (h3 : 256 ≤ z / 65536) (hq : q ≤ 8)
    (hi : ∀ W, (Instr.index 9 (.string Lib.len8tab) (.int .u8 (z / 65536 / 256))).run Try.prog W = .ok (.int .u8 (q : Int)) W) :
    Calls Try.prog 53 #[.int .u64 z] w fun e w' => e = .returned (.int .i64 (24 + q : Int)) ∧ w = w' := by
  go_enter Try.func53, Try.ntmps53
  go_wp2
  go_ret
  exact ⟨rfl, rfl⟩
set_option maxHeartbeats 1000000 in
theorem len64_010 (z : Int) (q : Nat) (w : World) (h0 : 0 ≤ z) (hz : z ≤ 18446744073709551615) (h1 : z < 4294967296) (h2 : 65536 ≤ z) (h3 : z / 65536 < 256) (hq : q ≤ 8)
    (hi : ∀ W, (Instr.index 9 (.string Lib.len8tab) (.int .u8 (z / 65536))).run Try.prog W = .ok (.int .u8 (q : Int)) W) :
    Calls Try.prog 53 #[.int .u64 z] w fun e w' => e = .returned (.int .i64 (16 + q : Int)) ∧ w = w' := by
  go_enter Try.func53, Try.ntmps53
  go_wp2
  go_ret
  exact ⟨rfl, rfl⟩
set_option maxHeartbeats 1000000 in
theorem len64_001 (z : Int) (q : Nat) (w : World) (h0 : 0 ≤ z) (hz : z ≤ 18446744073709551615) (h1 : z < 4294967296) (h2 : z < 65536) (h3 : 256 ≤ z) (hq : q ≤ 8)
    (hi : ∀ W, (Instr.index 9 (.string Lib.len8tab) (.int .u8 (z / 256))).run Try.prog W = .ok (.int .u8 (q : Int)) W) :
    Calls Try.prog 53 #[.int .u64 z] w fun e w' => e = .returned (.int .i64 (8 + q : Int)) ∧ w = w' := by
  go_enter Try.func53, Try.ntmps53
  go_wp2
  go_ret
  exact ⟨rfl, rfl⟩
set_option maxHeartbeats 1000000 in
theorem len64_000 (z : Int) (q : Nat) (w : World) (h0 : 0 ≤ z) (hz : z ≤ 18446744073709551615) (h1 : z < 4294967296) (h2 : z < 65536) (h3 : z < 256) (hq : q ≤ 8)
    (hi : ∀ W, (Instr.index 9 (.string Lib.len8tab) (.int .u8 (z))).run Try.prog W = .ok (.int .u8 (q : Int)) W) :
    Calls Try.prog 53 #[.int .u64 z] w fun e w' => e = .returned (.int .i64 (0 + q : Int)) ∧ w = w' := by
  go_enter Try.func53, Try.ntmps53
  go_wp2
  go_ret
  exact ⟨ret_int (by omega), rfl⟩
theorem len64_any (x : Nat) (hx : x < 18446744073709551616) (w : World) :
    Calls Try.prog 53 #[.int .u64 (x : Int)] w fun e w' => e = .returned (.int .i64 (blen x : Int)) ∧ w = w' := by
  by_cases h0 : 4294967296 ≤ x
  · have s0 := blen_shift (x) 32 (by omega)
    rw [show 2 ^ 32 = 4294967296 by decide] at s0
    by_cases h1 : 65536 ≤ x / 4294967296
    · have s1 := blen_shift (x / 4294967296) 16 (by omega)
      rw [show 2 ^ 16 = 65536 by decide] at s1
      by_cases h2 : 256 ≤ x / 4294967296 / 65536
      · have s2 := blen_shift (x / 4294967296 / 65536) 8 (by omega)
        rw [show 2 ^ 8 = 256 by decide] at s2
        have := len64_111 (x : Int) (blen (x / 4294967296 / 65536 / 256)) w (by omega) (by omega) (by omega) (by omega) (by omega) (blen_mono_le (by omega)) (fun W => index_len8 W (x / 4294967296 / 65536 / 256) (by omega))
        exact this.mono fun e w' h => ⟨h.1.trans (ret_int (by omega)), h.2⟩
      · have := len64_110 (x : Int) (blen (x / 4294967296 / 65536)) w (by omega) (by omega) (by omega) (by omega) (by omega) (blen_mono_le (by omega)) (fun W => index_len8 W (x / 4294967296 / 65536) (by omega))
        exact this.mono fun e w' h => ⟨h.1.trans (ret_int (by omega)), h.2⟩
    · by_cases h2 : 256 ≤ x / 4294967296
      · have s2 := blen_shift (x / 4294967296) 8 (by omega)
        rw [show 2 ^ 8 = 256 by decide] at s2
        have := len64_101 (x : Int) (blen (x / 4294967296 / 256)) w (by omega) (by omega) (by omega) (by omega) (by omega) (blen_mono_le (by omega)) (fun W => index_len8 W (x / 4294967296 / 256) (by omega))
        exact this.mono fun e w' h => ⟨h.1.trans (ret_int (by omega)), h.2⟩
      · have := len64_100 (x : Int) (blen (x / 4294967296)) w (by omega) (by omega) (by omega) (by omega) (by omega) (blen_mono_le (by omega)) (fun W => index_len8 W (x / 4294967296) (by omega))
        exact this.mono fun e w' h => ⟨h.1.trans (ret_int (by omega)), h.2⟩
  · by_cases h1 : 65536 ≤ x
    · have s1 := blen_shift (x) 16 (by omega)
      rw [show 2 ^ 16 = 65536 by decide] at s1
      by_cases h2 : 256 ≤ x / 65536
      · have s2 := blen_shift (x / 65536) 8 (by omega)
        rw [show 2 ^ 8 = 256 by decide] at s2
        have := len64_011 (x : Int) (blen (x / 65536 / 256)) w (by omega) (by omega) (by omega) (by omega) (by omega) (blen_mono_le (by omega)) (fun W => index_len8 W (x / 65536 / 256) (by omega))
        exact this.mono fun e w' h => ⟨h.1.trans (ret_int (by omega)), h.2⟩
      · have := len64_010 (x : Int) (blen (x / 65536)) w (by omega) (by omega) (by omega) (by omega) (by omega) (blen_mono_le (by omega)) (fun W => index_len8 W (x / 65536) (by omega))
        exact this.mono fun e w' h => ⟨h.1.trans (ret_int (by omega)), h.2⟩
    · by_cases h2 : 256 ≤ x
      · have s2 := blen_shift (x) 8 (by omega)
        rw [show 2 ^ 8 = 256 by decide] at s2
        have := len64_001 (x : Int) (blen (x / 256)) w (by omega) (by omega) (by omega) (by omega) (by omega) (blen_mono_le (by omega)) (fun W => index_len8 W (x / 256) (by omega))
        exact this.mono fun e w' h => ⟨h.1.trans (ret_int (by omega)), h.2⟩
      · have := len64_000 (x : Int) (blen (x)) w (by omega) (by omega) (by omega) (by omega) (by omega) (blen_mono_le (by omega)) (fun W => index_len8 W (x) (by omega))
        exact this.mono fun e w' h => ⟨h.1.trans (ret_int (by omega)), h.2⟩

set_option maxHeartbeats 400000 in
theorem lead64_any {x : Nat} {z a : Int} (w : World) (hx : x < 18446744073709551616) (hz : (x : Int) = z) (ha : 64 - (blen x : Int) = a) :
    Calls Try.prog 43 #[.int .u64 z] w (PI w a) := by
  have hb := blen_mono_le (n := x) (k := 64) hx
  subst hz
  subst ha
  go_enter Try.func43, Try.ntmps43
  go_wp2_with (go_at_call 53; refine (len64_any x hx _).mono ?_; rintro e w' ⟨rfl, rfl⟩)
  go_ret
  exact ⟨rfl, Below.refl _ _⟩
theorem of_fq {n : Int} (h0 : n ≠ 0) (h1 : -9223372036854775808 ≤ n) (h2 : n ≤ 9223372036854775807) : Fq 1 (decide (n < 0)) ((tp n.natAbs : Nat) : Int) (-(64 - (blen n.natAbs : Int))) (sgi (decide (n < 0)) (lo n.natAbs 0)) := by
  have hm : n.natAbs ≠ 0 := by omega
  have a1 := tp_ge hm
  have a2 := tp_lt n.natAbs
  have a3 := blen_mono_le (n := n.natAbs) (k := 64) (by omega)
  refine Fq.fin (by omega) (by omega) (by omega) (by omega) ?_
  congr 1
  unfold lo xp
  rw [if_neg hm, if_neg (by omega), if_neg (by omega)]
  omega
theorem of_shl {n : Int} (h0 : n ≠ 0) (h1 : -9223372036854775808 ≤ n) (h2 : n ≤ 9223372036854775807) : (n.natAbs : Int) * 2 ^ (64 - (blen n.natAbs : Int)).toNat = ((tp n.natAbs : Nat) : Int) := by
  have a3 := blen_mono_le (n := n.natAbs) (k := 64) (by omega)
  rw [tp_small a3, show (64 - (blen n.natAbs : Int)).toNat = 64 - blen n.natAbs by omega]
  push_cast
  rfl
set_option maxHeartbeats 2000000 in
theorem nOf {n r : Int} (w : World) (h1 : -9223372036854775808 ≤ n) (h2 : n ≤ 9223372036854775807) (hr : sgi (decide (n < 0)) (lo n.natAbs 0) = r) : Calls Try.prog 28 #[.int .i64 n] w (PN w r) := by
  by_cases h0 : n = 0
  · subst h0
    obtain rfl : 0 = r := hr
    go_enter Try.func28, Try.ntmps28
    go_upto_region 1 with (fail)
    have XR := (Bo.newAt w (g := w.heap.size) (by simp) #[.int .i64 0, .bool false, .int .u64 0, .int .i64 0] 24)
    have HB := Lib.hid (bel1 w (.cells #[.int .i64 0, .bool false, .int .u64 0, .int .i64 0] 24))
    generalize hW1 : (w.alloc (.cells #[.int .i64 0, .bool false, .int .u64 0, .int .i64 0] 24)) = w1 at *
    clear hW1
    obtain ⟨xXR0, xXR1, xXR2, xXR3⟩ := XR.ce4 rfl rfl rfl rfl
    have zXR0 := XR.frozen
    go_wp2
    clear xXR0 zXR0 xXR1 xXR2 xXR3
    have SX := StN.mk4 XR (.int .i64 0) (.bool false) (.int .u64 0) (.int .i64 0)
    exact bodyPost_ret (v := .agg #[.int .i64 0, .bool false, .int .u64 0, .int .i64 0]) (by simp [results, Try.results28, go_sem, SX.box.cell]) rfl ⟨_, _, _, _, rfl, Fq.nought, (SX.below HB.out (by omega))⟩
  · have HQ := of_fq h0 h1 h2
    have hs := of_shl h0 h1 h2
    have e0 : (n == 0) = false := by simpa using h0
    have hx : n.natAbs < 18446744073709551616 := by omega
    have hb := blen_mono_le (n := n.natAbs) (k := 64) (by omega)
    have t1 := tp_lt n.natAbs
    rw [hr] at HQ
    clear hr
    by_cases hs0 : n < 0
    · obtain ⟨a, ha⟩ : ∃ a, 64 - (blen n.natAbs : Int) = a := ⟨_, rfl⟩
      have hn : ((n.natAbs : Nat) : Int) = -n := by omega
      rw [ha] at HQ hs
      rw [hn] at hs
      have hd : decide (n < 0) = true := by simp; omega
      rw [hd] at HQ
      have HA := Lib.hid ha
      have HN := Lib.hid hn
      obtain ⟨T, hT⟩ : ∃ T, ((tp n.natAbs : Nat) : Int) = T := ⟨_, rfl⟩
      rw [hT] at HQ hs
      have hT2 : 0 ≤ T ∧ T < 18446744073709551616 := by omega
      have HS := Lib.hid hs
      have HW := Lib.hid (show IntKind.u64.wrap T = T from IntWalk.u64_in _ (by omega))
      have a1 : 0 ≤ a := by omega
      have hb0 : blen n.natAbs ≠ 0 := fun e => h0 (by have := blen_eq_zero.1 e; omega)
      have a2 : a < 64 := by omega
      clear hb0
      clear hs ha hb t1 hT hn hT2
      go_enter Try.func28, Try.ntmps28
      go_upto_region 1 with (fail)
      have XR := (Bo.newAt w (g := w.heap.size) (by simp) #[.int .i64 0, .bool false, .int .u64 0, .int .i64 0] 24)
      have HB := Lib.hid (bel1 w (.cells #[.int .i64 0, .bool false, .int .u64 0, .int .i64 0] 24))
      generalize hW1 : (w.alloc (.cells #[.int .i64 0, .bool false, .int .u64 0, .int .i64 0] 24)) = w1 at *
      clear hW1
      have hx1 : n.natAbs < 18446744073709551616 := hx
      have hc : IntKind.u64.wrap (-IntKind.u64.wrap n) = -n := by
        show (-(n % 18446744073709551616)) % 18446744073709551616 = -n
        omega
      go_wp2_with fail
      refine (lead64_any _ hx HN.out HA.out).mono ?_
      rintro ee w2 ⟨rfl, B⟩
      replace XR := XR.below B
      replace HB := Lib.hid (bt HB.out B)
      clear B
      have hs := HS.out
      have hw := HW.out
      obtain ⟨xXR0, xXR1, xXR2, xXR3⟩ := XR.ce4 rfl rfl rfl rfl
      have zXR0 := XR.frozen
      go_wp2
      clear xXR0 zXR0 xXR1 xXR2 xXR3
      have SX := StN.mk4 XR (.int .i64 1) (.bool true) (.int .u64 T) (.int .i64 (-a))
      exact bodyPost_ret (v := .agg #[.int .i64 1, .bool true, .int .u64 T, .int .i64 (-a)]) (by simp [results, Try.results28, go_sem, SX.box.cell]) rfl ⟨_, _, _, _, rfl, HQ, (SX.below HB.out (by omega))⟩
    · obtain ⟨a, ha⟩ : ∃ a, 64 - (blen n.natAbs : Int) = a := ⟨_, rfl⟩
      have hn : ((n.natAbs : Nat) : Int) = n := by omega
      rw [ha] at HQ hs
      rw [hn] at hs
      have hd : decide (n < 0) = false := by simp; omega
      rw [hd] at HQ
      have HA := Lib.hid ha
      have HN := Lib.hid hn
      obtain ⟨T, hT⟩ : ∃ T, ((tp n.natAbs : Nat) : Int) = T := ⟨_, rfl⟩
      rw [hT] at HQ hs
      have hT2 : 0 ≤ T ∧ T < 18446744073709551616 := by omega
      have HS := Lib.hid hs
      have HW := Lib.hid (show IntKind.u64.wrap T = T from IntWalk.u64_in _ (by omega))
      have a1 : 0 ≤ a := by omega
      have hb0 : blen n.natAbs ≠ 0 := fun e => h0 (by have := blen_eq_zero.1 e; omega)
      have a2 : a < 64 := by omega
      clear hb0
      clear hs ha hb t1 hT hn hT2
      go_enter Try.func28, Try.ntmps28
      go_upto_region 1 with (fail)
      have XR := (Bo.newAt w (g := w.heap.size) (by simp) #[.int .i64 0, .bool false, .int .u64 0, .int .i64 0] 24)
      have HB := Lib.hid (bel1 w (.cells #[.int .i64 0, .bool false, .int .u64 0, .int .i64 0] 24))
      generalize hW1 : (w.alloc (.cells #[.int .i64 0, .bool false, .int .u64 0, .int .i64 0] 24)) = w1 at *
      clear hW1
      have hx1 : n.natAbs < 18446744073709551616 := hx
      go_wp2_with fail
      refine (lead64_any _ hx HN.out HA.out).mono ?_
      rintro ee w2 ⟨rfl, B⟩
      replace XR := XR.below B
      replace HB := Lib.hid (bt HB.out B)
      clear B
      have hs := HS.out
      have hw := HW.out
      obtain ⟨xXR0, xXR1, xXR2, xXR3⟩ := XR.ce4 rfl rfl rfl rfl
      have zXR0 := XR.frozen
      go_wp2
      clear xXR0 zXR0 xXR1 xXR2 xXR3
      have SX := StN.mk4 XR (.int .i64 1) (.bool false) (.int .u64 T) (.int .i64 (-a))
      exact bodyPost_ret (v := .agg #[.int .i64 1, .bool false, .int .u64 T, .int .i64 (-a)]) (by simp [results, Try.results28, go_sem, SX.box.cell]) rfl ⟨_, _, _, _, rfl, HQ, (SX.below HB.out (by omega))⟩
end Go.Proofs.Ythhlccdmflgbbaa

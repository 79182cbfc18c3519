/-
  Contracts and words that the statement's proof rests on, several texts in one: Df, Ec, Js, Vn, Km, Ka, Kb, Kc.
-/
import Derived.Below
import Derived.BigQuiet
import Derived.Carry
import Derived.Deep.DeepCutAuto
import Derived.Deep.Draws
import Derived.Deep.MidRow
import Derived.Deep.QuietTactic
import Derived.Deep.RegionHeld3
import Derived.Deep.RegionWith
import Derived.IntWalk
import Derived.Laws.CopyOwn
import Derived.Laws.MakeOwn
import Derived.Laws.OwnMore
import Derived.Laws.Rows
import Derived.Lib.BitFns
import Derived.Lib.Hide
import Derived.Maps.AppendAt
import Derived.StillTailTactics
import Derived.Test.YtbhnpmkdmnnclaaDoorRows
import Derived.WalkKit
import Derived.WalkLawsBesides
import Derived.WalkSpells
import Derived.Test.YtbhnpmkdmnnclaaDoorYBab
import Derived.Test.YtbhnpmkdmnnclaaDoorYBag
import Derived.Test.YtbhnpmkdmnnclaaDoorYBah
import Derived.Test.YtbhnpmkdmnnclaaDoorYBai
import Derived.Test.YtbhnpmkdmnnclaaDoorYBan
/-
  What pelorusref03.Two does: the sum of two.
-/
namespace Go.Proofs.YtbhnpmkdmnnclaaDoor
open Go.RowKit
set_option linter.unusedVariables false

theorem Bx.far3 {w : World} {g : Nat} {s : Bool} {A : Option Addr} {n c : Nat} (h : Bx w g s A n c) {k : Nat} (hk : g ≠ k) (u v t : Value) : Bx (((w.setCell ⟨k, 0, none⟩ u).setCell ⟨k, 1, none⟩ v).setCell ⟨k, 2, none⟩ t) g s A n c :=
  h.keep (by rw [Below.heap_setCell _ _ _ _ hk, Below.heap_setCell _ _ _ _ hk, Below.heap_setCell _ _ _ _ hk])

end Go.Proofs.YtbhnpmkdmnnclaaDoor

/-
  What dy.Make does.
-/
namespace Go.Proofs.YtbhnpmkdmnnclaaDoor
open Go.RowKit
set_option linter.unusedVariables false
set_option maxRecDepth 100000

/-- A value is a trim whole number; a number times a power of two; a trim number. -/
def VW (w : World) (v : Value) (z : Int) : Prop := ∃ s A n c, v = .agg #[.bool s, .slice A n c] ∧ Wn w s A n c z
def VD (w : World) (v : Value) (N E : Int) : Prop := ∃ s A n c, v = .agg #[.bool s, .slice A n c, .int .i64 E] ∧ Wn w s A n c N
def VN (w : World) (v : Value) (a : Nat) : Prop := ∃ A n c, v = .slice A n c ∧ Nm w A n c a
theorem VW.below {w w' : World} {v : Value} {z : Int} (h : VW w v z) (hb : Below w.heap.size w w') : VW w' v z := by
  obtain ⟨s, A, n, c, rfl, h⟩ := h
  exact ⟨s, A, n, c, rfl, h.below hb⟩
theorem VD.below {w w' : World} {v : Value} {N E : Int} (h : VD w v N E) (hb : Below w.heap.size w w') : VD w' v N E := by
  obtain ⟨s, A, n, c, rfl, h⟩ := h
  exact ⟨s, A, n, c, rfl, h.below hb⟩
theorem VN.below {w w' : World} {v : Value} {a : Nat} (h : VN w v a) (hb : Below w.heap.size w w') : VN w' v a := by
  obtain ⟨A, n, c, rfl, h⟩ := h
  exact ⟨A, n, c, rfl, h.below hb⟩
end Go.Proofs.YtbhnpmkdmnnclaaDoor

/-
  Facts of values for the joint rule: whole numbers, limbs, numbers times powers of two; and what a store into a box leaves.
-/
namespace Go.Proofs.YtbhnpmkdmnnclaaDoor
open Go.RowKit
set_option linter.unusedVariables false

def Jo.Fact.wn (z : Int) (K : Nat) : Jo.Fact := ⟨fun v w => ∃ s A n c, v = .agg #[.bool s, .slice A n c] ∧ Wn w s A n c z ∧ n ≤ K, fun v w w' h b => by
  obtain ⟨s, A, n, c, e, h, k⟩ := h
  exact ⟨s, A, n, c, e, h.below b, k⟩⟩
def Jo.Fact.nm (a K : Nat) : Jo.Fact := ⟨fun v w => ∃ A n c, v = .slice A n c ∧ Nm w A n c a ∧ n ≤ K, fun v w w' h b => by
  obtain ⟨A, n, c, e, h, k⟩ := h
  exact ⟨A, n, c, e, h.below b, k⟩⟩
def Jo.Fact.dy (N E : Int) (K : Nat) : Jo.Fact := ⟨fun v w => ∃ s A n c, v = .agg #[.bool s, .slice A n c, .int .i64 E] ∧ Wn w s A n c N ∧ n ≤ K, fun v w w' h b => by
  obtain ⟨s, A, n, c, e, h, k⟩ := h
  exact ⟨s, A, n, c, e, h.below b, k⟩⟩
theorem Bo.at {w : World} {g : Nat} {cs : Array Value} {T : TypeId} (h : Bo w g cs T) {i : Nat} {v : Value} (e : cs[i]? = some v) : w.cell? ⟨g, i, none⟩ = some v := (h.cell i).trans e

/-- No cell is a table's byte. -/
def no8 (v : Value) : Bool := match v with
  | .int .u8 _ => false
  | _ => true
/-- The box g is stored anew, nothing else. -/
def StN (w w' : World) (g : Nat) (old new : Array Value) (T : TypeId) : Prop :=
  Bo w g old T ∧ Bo w' g new T ∧ (∀ k, k ≠ g → w'.heap[k]? = w.heap[k]?) ∧ ∀ B a, B ≤ g → Below B a w → Below B a w'
section
variable {w w' : World} {g : Nat} {old new : Array Value} {T : TypeId}
theorem StN.box (S : StN w w' g old new T) : Bo w' g new T := S.2.1
theorem StN.mk3 {a b c : Value} (X : Bo w g #[a, b, c] T) (u v t : Value) : StN w (((w.setCell ⟨g, 0, none⟩ u).setCell ⟨g, 1, none⟩ v).setCell ⟨g, 2, none⟩ t) g #[a, b, c] #[u, v, t] T :=
  ⟨X, by simpa using ((X.set 0 u).set 1 v).set 2 t, fun k hk => by rw [Below.heap_setCell _ _ _ _ hk, Below.heap_setCell _ _ _ _ hk, Below.heap_setCell _ _ _ _ hk], fun B a hg h => st3 h hg u v t⟩
theorem StN.mk2 {a b : Value} (X : Bo w g #[a, b] T) (u v : Value) : StN w ((w.setCell ⟨g, 0, none⟩ u).setCell ⟨g, 1, none⟩ v) g #[a, b] #[u, v] T :=
  ⟨X, by simpa using (X.set 0 u).set 1 v, fun k hk => by rw [Below.heap_setCell _ _ _ _ hk, Below.heap_setCell _ _ _ _ hk], fun B a hg h => st2 h hg u v⟩
theorem StN.below (S : StN w w' g old new T) {B : Nat} {a : World} (h : Below B a w) (hg : B ≤ g) : Below B a w' := S.2.2.2 B a hg h
theorem Bo.stn {k : Nat} {cs : Array Value} {R : TypeId} (X : Bo w k cs R) (S : StN w w' g old new T) (h : k ≠ g) : Bo w' k cs R := X.keep (S.2.2.1 k h)
theorem sl_stn {b : Nat} {B : Option Addr} {m d : Nat} {xs : List Nat} (h : Sl w b B m d xs) (S : StN w w' g old new T) (hn : old.all no32 = true) : Sl w' b B m d xs :=
  h.keep fun hm => S.2.2.1 _ (fun e => by
    obtain ⟨o, _, hc⟩ := h.at hm
    have := hc 0 hm
    rw [e] at this
    exact S.1.no hn this)
theorem Nm.stn {B : Option Addr} {m d a : Nat} (h : Nm w B m d a) (S : StN w w' g old new T) (hn : old.all no32 = true) : Nm w' B m d a := by
  obtain ⟨b, h⟩ := h
  exact ⟨b, sl_stn h S hn⟩
theorem Rd.stn {B : Option Addr} {m d a : Nat} (h : Rd w B m d a) (S : StN w w' g old new T) (hn : old.all no32 = true) : Rd w' B m d a := by
  obtain ⟨b, xs, h, e⟩ := h
  exact ⟨b, xs, sl_stn h S hn, e⟩
theorem Wn.stn {s : Bool} {B : Option Addr} {m d : Nat} {z : Int} (h : Wn w s B m d z) (S : StN w w' g old new T) (hn : old.all no32 = true) : Wn w' s B m d z := ⟨h.1.stn S hn, h.2⟩
theorem Wr.stn {s : Bool} {B : Option Addr} {m d : Nat} {z : Int} (h : Wr w s B m d z) (S : StN w w' g old new T) (hn : old.all no32 = true) : Wr w' s B m d z := by
  obtain ⟨a, h, e⟩ := h
  exact ⟨a, h.stn S hn, e⟩
theorem Tab.stn (h : Tab w) (S : StN w w' g old new T) (hn : old.all no8 = true) : Tab w' := h.keep (S.2.2.1 _ (fun e => by
  have h0 := h 0 (by decide)
  subst e
  rw [S.1.cell] at h0
  rw [Array.all_eq_true] at hn
  obtain ⟨hlt, he⟩ := Array.getElem?_eq_some_iff.1 h0
  have := hn 0 hlt
  rw [he] at this
  cases this))
end
end Go.Proofs.YtbhnpmkdmnnclaaDoor

/-
  Order and floor of numbers times powers of two, in plain arithmetic; lists of such numbers in memory.
-/
namespace Go.Proofs.YtbhnpmkdmnnclaaDoor
open Go.RowKit
set_option linter.unusedVariables false

/-- A slice of numbers times powers of two, as they came in or as they are. -/
def Dl (w : World) (A : Option Addr) (n c K : Nat) (l : List (Int × Int)) : Prop :=
  l.length = n ∧ n ≤ c ∧ n ≤ 1099511627776 ∧ (0 < n → ∃ b o, A = some ⟨b, o, none⟩ ∧ ∀ k, k < n → ∃ s B m d, w.cell? ⟨b, o + k * 3, none⟩ = some (.bool s) ∧ w.cell? ⟨b, o + k * 3 + 1, none⟩ = some (.slice B m d) ∧ w.cell? ⟨b, o + k * 3 + 2, none⟩ = some (.int .i64 (l.getD k (0, 0)).2) ∧ Wr w s B m d (l.getD k (0, 0)).1 ∧ m ≤ K)
theorem Dl.below {w w' : World} {A : Option Addr} {n c K : Nat} {l : List (Int × Int)} (h : Dl w A n c K l) (hb : Below w.heap.size w w') : Dl w' A n c K l := by
  obtain ⟨h1, h2, h3, h4⟩ := h
  refine ⟨h1, h2, h3, fun hn => ?_⟩
  obtain ⟨b, o, e, hc⟩ := h4 hn
  refine ⟨b, o, e, fun k hk => ?_⟩
  obtain ⟨s, B, m, d, c0, c1, c2, hw, hm⟩ := hc k hk
  exact ⟨s, B, m, d, (hb.cell (p := ⟨b, _, none⟩) (block_lt_of_cell c0)).trans c0, (hb.cell (p := ⟨b, _, none⟩) (block_lt_of_cell c1)).trans c1, (hb.cell (p := ⟨b, _, none⟩) (block_lt_of_cell c2)).trans c2, hw.below hb, hm⟩
/-- Two that can be summed: not too far apart. -/
def Near (p q : Int × Int) : Prop := p.1 ≠ 0 → q.1 ≠ 0 → p.2 - q.2 ≤ 640000 ∧ q.2 - p.2 ≤ 640000
theorem Fit.near {h k : Nat} {p q : Int × Int} (f : Fit h p) (g : Fit k q) (hh : h + k ≤ 640000) : Near p q := fun _ _ => by
  have := f.lo; have := f.hi; have := g.lo; have := g.hi
  omega
end Go.Proofs.YtbhnpmkdmnnclaaDoor

/-
  The row of all numbers of 64 bits: which place in it a number has, and what follows of the order. Plain arithmetic; no Go text.
-/
namespace Go.Proofs.YtbhnpmkdmnnclaaDoor
open Go.RowKit
set_option linter.unusedVariables false

/-- The place of the infinite one above. -/
def TP : Int := 19342822337206103650074625
theorem TP_eq : TP = 19342822337206103650074625 := rfl
/-- It is one of the numbers. -/
def MayQ (K : Int) (s : Bool) (M E : Int) : Prop := (K = 0 ∧ s = false ∧ M = 0 ∧ E = 0) ∨ (K = 1 ∧ 9223372036854775808 ≤ M ∧ -1048576 ≤ E ∧ E ≤ 1048576) ∨ (K = 2 ∧ M = 0 ∧ E = 0)
instance (K : Int) (s : Bool) (M E : Int) : Decidable (MayQ K s M E) := by unfold MayQ; infer_instance
/-- The place, without the sign. -/
def plc (K M E : Int) : Int := if K = 0 then 0 else if K = 1 then M - 9223372036854775808 + 1 + (E + 1048576) * 9223372036854775808 else TP
def sgi (s : Bool) (x : Int) : Int := if s = true then -x else x
/-- The place of what it is taken for. -/
def rk (K : Int) (s : Bool) (M E : Int) : Int := if MayQ K s M E then sgi s (plc K M E) else 0
/-- One of the numbers, and its place. -/
def Fq (K : Int) (s : Bool) (M E r : Int) : Prop := MayQ K s M E ∧ M < 18446744073709551616 ∧ sgi s (plc K M E) = r

theorem Fq.cases {K : Int} {s : Bool} {M E r : Int} (h : Fq K s M E r) : (K = 0 ∧ s = false ∧ M = 0 ∧ E = 0 ∧ r = 0) ∨ (K = 1 ∧ 9223372036854775808 ≤ M ∧ M < 18446744073709551616 ∧ -1048576 ≤ E ∧ E ≤ 1048576 ∧ ((s = false ∧ r = M - 9223372036854775808 + 1 + (E + 1048576) * 9223372036854775808) ∨ (s = true ∧ -r = M - 9223372036854775808 + 1 + (E + 1048576) * 9223372036854775808)))
    ∨ (K = 2 ∧ M = 0 ∧ E = 0 ∧ ((s = false ∧ r = 19342822337206103650074625) ∨ (s = true ∧ r = -19342822337206103650074625))) := by
  obtain ⟨h1, h2, h3⟩ := h
  rcases h1 with ⟨rfl, rfl, rfl, rfl⟩ | ⟨rfl, h4, h5, h6⟩ | ⟨rfl, rfl, rfl⟩
  · left
    exact ⟨rfl, rfl, rfl, rfl, by rw [← h3]; rfl⟩
  · right; left
    refine ⟨rfl, h4, h2, h5, h6, ?_⟩
    cases s
    · left
      exact ⟨rfl, h3.symm⟩
    · right
      have h3' : -(M - 9223372036854775808 + 1 + (E + 1048576) * 9223372036854775808) = r := h3
      exact ⟨rfl, by rw [← h3', Int.neg_neg]⟩
  · right; right
    refine ⟨rfl, rfl, rfl, ?_⟩
    cases s
    · left
      exact ⟨rfl, h3.symm⟩
    · right
      exact ⟨rfl, h3.symm⟩
theorem Fq.fin {s : Bool} {M E r : Int} (h1 : 9223372036854775808 ≤ M) (h2 : M < 18446744073709551616) (h3 : -1048576 ≤ E) (h4 : E ≤ 1048576) (hr : sgi s (M - 9223372036854775808 + 1 + (E + 1048576) * 9223372036854775808) = r) : Fq 1 s M E r :=
  ⟨Or.inr (Or.inl ⟨rfl, h1, h3, h4⟩), h2, hr⟩
theorem Fq.nought : Fq 0 false 0 0 0 := ⟨Or.inl ⟨rfl, rfl, rfl, rfl⟩, by decide, rfl⟩
theorem Fq.inf (s : Bool) : Fq 2 s 0 0 (sgi s TP) := ⟨Or.inr (Or.inr ⟨rfl, rfl, rfl⟩), by decide, rfl⟩
theorem Fq.uniq {K K' : Int} {s s' : Bool} {M M' E E' r : Int} (h : Fq K s M E r) (k : Fq K' s' M' E' r) : K = K' ∧ s = s' ∧ M = M' ∧ E = E' := by
  rcases h.cases with ⟨rfl, rfl, rfl, rfl, h0⟩ | ⟨rfl, h1, h2, h3, h4, ⟨rfl, h5⟩ | ⟨rfl, h5⟩⟩ | ⟨rfl, rfl, rfl, ⟨rfl, h5⟩ | ⟨rfl, h5⟩⟩ <;>
    rcases k.cases with ⟨rfl, rfl, rfl, rfl, k0⟩ | ⟨rfl, k1, k2, k3, k4, ⟨rfl, k5⟩ | ⟨rfl, k5⟩⟩ | ⟨rfl, rfl, rfl, ⟨rfl, k5⟩ | ⟨rfl, k5⟩⟩ <;>
    first | exact ⟨rfl, rfl, rfl, rfl⟩ | (exfalso; omega) | exact ⟨rfl, rfl, by omega, by omega⟩
theorem Fq.bd {K : Int} {s : Bool} {M E r : Int} (h : Fq K s M E r) : -19342822337206103650074625 ≤ r ∧ r ≤ 19342822337206103650074625 := by
  rcases h.cases with ⟨rfl, rfl, rfl, rfl, h0⟩ | ⟨rfl, h1, h2, h3, h4, ⟨rfl, h5⟩ | ⟨rfl, h5⟩⟩ | ⟨rfl, rfl, rfl, ⟨rfl, h5⟩ | ⟨rfl, h5⟩⟩ <;> omega
theorem Fq.top {K : Int} {s : Bool} {M E r : Int} (h : Fq K s M E r) : M < 18446744073709551616 := h.2.1
theorem Fq.rk {K : Int} {s : Bool} {M E r : Int} (h : Fq K s M E r) : rk K s M E = r := by
  unfold Go.Proofs.YtbhnpmkdmnnclaaDoor.rk
  rw [if_pos h.1]
  exact h.2.2
theorem rk_not {K : Int} {s : Bool} {M E : Int} (h : ¬ MayQ K s M E) : rk K s M E = 0 := by
  unfold rk
  rw [if_neg h]
theorem rk_fq {K : Int} {s : Bool} {M E : Int} (hM : M < 18446744073709551616) (h : MayQ K s M E) : Fq K s M E (rk K s M E) := ⟨h, hM, by unfold rk; rw [if_pos h]⟩
theorem rk_bd {K : Int} {s : Bool} {M E : Int} (hM : M < 18446744073709551616) : -19342822337206103650074625 ≤ rk K s M E ∧ rk K s M E ≤ 19342822337206103650074625 := by
  by_cases h : MayQ K s M E
  · exact (rk_fq hM h).bd
  · rw [rk_not h]; decide
theorem rk_neg {K : Int} {s : Bool} {M E r : Int} (h : Fq K s M E r) (hK : K ≠ 0) : Fq K (!s) M E (-r) := by
  rcases h.cases with ⟨rfl, rfl, rfl, rfl, h0⟩ | ⟨rfl, h1, h2, h3, h4, ⟨rfl, h5⟩ | ⟨rfl, h5⟩⟩ | ⟨rfl, rfl, rfl, ⟨rfl, h5⟩ | ⟨rfl, h5⟩⟩
  · exact absurd rfl hK
  · exact Fq.fin h1 h2 h3 h4 (by rw [h5]; rfl)
  · exact Fq.fin h1 h2 h3 h4 (by rw [h5]; rfl)
  · subst h5; exact Fq.inf true
  · subst h5; exact Fq.inf false
/-- Which of two numbers of one sign is farther from nought. -/
def fa (K M E K' M' E' : Int) : Int := if K ≠ K' then cmpI K K' else if E ≠ E' then cmpI E E' else cmpI M M'
theorem fa_bd (K M E K' M' E' : Int) : -1 ≤ fa K M E K' M' E' ∧ fa K M E K' M' E' ≤ 1 := by
  unfold fa
  split
  · exact cmpI_bd _ _
  · split
    · exact cmpI_bd _ _
    · exact cmpI_bd _ _
theorem cmpI_tri (x y : Int) : (x < y ∧ cmpI x y = -1) ∨ (x = y ∧ cmpI x y = 0) ∨ (y < x ∧ cmpI x y = 1) := by
  unfold cmpI
  by_cases h1 : x < y
  · rw [if_pos h1]; exact Or.inl ⟨h1, rfl⟩
  · by_cases h2 : y < x
    · rw [if_neg h1, if_pos h2]; exact Or.inr (Or.inr ⟨h2, rfl⟩)
    · rw [if_neg h1, if_neg h2]; exact Or.inr (Or.inl ⟨by omega, rfl⟩)
theorem Fq.plc {K : Int} {s : Bool} {M E r : Int} (h : Fq K s M E r) (hK : K ≠ 0) : (K = 1 ∧ 9223372036854775808 ≤ M ∧ M < 18446744073709551616 ∧ -1048576 ≤ E ∧ E ≤ 1048576 ∧ plc K M E = M - 9223372036854775808 + 1 + (E + 1048576) * 9223372036854775808) ∨ (K = 2 ∧ M = 0 ∧ E = 0 ∧ plc K M E = 19342822337206103650074625) := by
  obtain ⟨h1, h2, h3⟩ := h
  rcases h1 with ⟨rfl, rfl, rfl, rfl⟩ | ⟨rfl, h4, h5, h6⟩ | ⟨rfl, rfl, rfl⟩
  · exact absurd rfl hK
  · exact Or.inl ⟨rfl, h4, h2, h5, h6, rfl⟩
  · exact Or.inr ⟨rfl, rfl, rfl, rfl⟩
theorem fa_plc {K K' : Int} {s s' : Bool} {M M' E E' r r' : Int} (h : Fq K s M E r) (k : Fq K' s' M' E' r') (hK : K ≠ 0) (hK' : K' ≠ 0) : fa K M E K' M' E' = cmpI (plc K M E) (plc K' M' E') := by
  unfold fa
  rcases h.plc hK with ⟨rfl, h1, h2, h3, h4, h5⟩ | ⟨rfl, rfl, rfl, h5⟩ <;> rcases k.plc hK' with ⟨rfl, k1, k2, k3, k4, k5⟩ | ⟨rfl, rfl, rfl, k5⟩ <;> simp only [h5, k5]
  · rw [if_neg (by decide)]
    rcases cmpI_tri E E' with ⟨b1, b2⟩ | ⟨b1, b2⟩ | ⟨b1, b2⟩
    · rw [if_pos (by omega), b2, cmpI_lt (by omega)]
    · rw [if_neg (by omega)]
      rcases cmpI_tri M M' with ⟨c1, c2⟩ | ⟨c1, c2⟩ | ⟨c1, c2⟩
      · rw [c2, cmpI_lt (by omega)]
      · rw [c2, cmpI_eq (by omega)]
      · rw [c2, cmpI_gt (by omega)]
    · rw [if_pos (by omega), b2, cmpI_gt (by omega)]
  · rw [if_pos (by decide), cmpI_lt (by decide), cmpI_lt (by omega)]
  · rw [if_pos (by decide), cmpI_gt (by decide), cmpI_gt (by omega)]
  · rw [if_neg (by decide), if_neg (by decide)]
    rfl
theorem plc_pos {K : Int} {s : Bool} {M E r : Int} (h : Fq K s M E r) (hK : K ≠ 0) : 0 < plc K M E := by
  rcases h.plc hK with ⟨rfl, h1, h2, h3, h4, h5⟩ | ⟨rfl, rfl, rfl, h5⟩ <;> rw [h5] <;> omega
theorem cmpI_negs (x y : Int) : cmpI (-x) (-y) = -cmpI x y := by
  rcases cmpI_tri x y with ⟨a1, a2⟩ | ⟨a1, a2⟩ | ⟨a1, a2⟩ <;> rw [a2]
  · rw [cmpI_gt (by omega), Int.neg_neg]
  · rw [cmpI_eq (by omega)]; rfl
  · rw [cmpI_lt (by omega)]
theorem fa_fq {K K' : Int} {s : Bool} {M M' E E' r r' : Int} (h : Fq K s M E r) (k : Fq K' s M' E' r') (hK : K ≠ 0) (hK' : K' ≠ 0) : cmpI r 0 * fa K M E K' M' E' = cmpI r r' := by
  rw [fa_plc h k hK hK', ← h.2.2, ← k.2.2]
  have p1 := plc_pos h hK
  cases s
  · show cmpI (plc K M E) 0 * _ = cmpI (plc K M E) (plc K' M' E')
    rw [cmpI_gt p1, Int.one_mul]
  · show cmpI (-plc K M E) 0 * _ = cmpI (-plc K M E) (-plc K' M' E')
    rw [cmpI_lt (show -plc K M E < 0 by omega), cmpI_negs, Int.neg_mul, Int.one_mul]
theorem Fq.zero_iff {K : Int} {s : Bool} {M E r : Int} (h : Fq K s M E r) : K = 0 ↔ r = 0 := by
  rcases h.cases with ⟨rfl, rfl, rfl, rfl, h0⟩ | ⟨rfl, h1, h2, h3, h4, ⟨rfl, h5⟩ | ⟨rfl, h5⟩⟩ | ⟨rfl, rfl, rfl, ⟨rfl, h5⟩ | ⟨rfl, h5⟩⟩ <;> constructor <;> intro _ <;> omega
theorem Fq.sign {K : Int} {s : Bool} {M E r : Int} (h : Fq K s M E r) (hK : K ≠ 0) : cmpI r 0 = if s = true then -1 else 1 := by
  rcases h.cases with ⟨rfl, rfl, rfl, rfl, h0⟩ | ⟨rfl, h1, h2, h3, h4, ⟨rfl, h5⟩ | ⟨rfl, h5⟩⟩ | ⟨rfl, rfl, rfl, ⟨rfl, h5⟩ | ⟨rfl, h5⟩⟩
  · exact absurd rfl hK
  · rw [cmpI_gt (by omega)]; rfl
  · rw [cmpI_lt (by omega)]; rfl
  · rw [cmpI_gt (by omega)]; rfl
  · rw [cmpI_lt (by omega)]; rfl
/-- The order by the signs, and where they are the same by what is farther. -/
theorem cmp_far {K K' : Int} {s s' : Bool} {M M' E E' : Int} (hM : M < 18446744073709551616) (hM' : M' < 18446744073709551616) (he : cmpI (rk K s M E) 0 = cmpI (rk K' s' M' E') 0) : cmpI (rk K s M E) 0 * fa K M E K' M' E' = cmpI (rk K s M E) (rk K' s' M' E') := by
  by_cases h0 : rk K s M E = 0
  · have h1 : rk K' s' M' E' = 0 := by
      rw [h0, cmpI_eq rfl] at he
      exact cmpI_zero.1 he.symm
    rw [h0, h1, cmpI_eq rfl, Int.zero_mul]
  · have h1 : rk K' s' M' E' ≠ 0 := fun h => by
      rw [h, cmpI_eq rfl] at he
      exact h0 (cmpI_zero.1 he)
    have m1 : MayQ K s M E := Decidable.by_contra fun h => h0 (rk_not h)
    have m2 : MayQ K' s' M' E' := Decidable.by_contra fun h => h1 (rk_not h)
    have f1 := rk_fq hM m1
    have f2 := rk_fq hM' m2
    have k1 : K ≠ 0 := fun h => h0 (f1.zero_iff.1 h)
    have k2 : K' ≠ 0 := fun h => h1 (f2.zero_iff.1 h)
    have hs : s = s' := by
      rw [f1.sign k1, f2.sign k2] at he
      cases s <;> cases s' <;> first | rfl | exact absurd he (by decide)
    subst hs
    exact fa_fq f1 f2 k1 k2
/-- Where the signs differ, the order is that of the signs. -/
theorem cmp_sign {x y : Int} (he : cmpI x 0 ≠ cmpI y 0) : cmpI (cmpI x 0) (cmpI y 0) = cmpI x y := by
  rcases cmpI_tri x 0 with ⟨a1, a2⟩ | ⟨a1, a2⟩ | ⟨a1, a2⟩ <;> rcases cmpI_tri y 0 with ⟨b1, b2⟩ | ⟨b1, b2⟩ | ⟨b1, b2⟩ <;> rw [a2, b2] at he ⊢
  · exact absurd rfl he
  · rw [cmpI_lt (show x < y by omega)]; rfl
  · rw [cmpI_lt (show x < y by omega)]; rfl
  · rw [cmpI_gt (show y < x by omega)]; rfl
  · exact absurd rfl he
  · rw [cmpI_lt (show x < y by omega)]; rfl
  · rw [cmpI_gt (show y < x by omega)]; rfl
  · rw [cmpI_gt (show y < x by omega)]; rfl
  · exact absurd rfl he
/-- The next place. -/
def nx (up : Bool) (r : Int) : Int := if up = true then min TP (r + 1) else max (-TP) (r - 1)
end Go.Proofs.YtbhnpmkdmnnclaaDoor

/-
  What num.May does, and the document's.
-/
namespace Go.Proofs.YtbhnpmkdmnnclaaDoor
open Go.RowKit
set_option linter.unusedVariables false

theorem StN.mk4 {w : World} {g : Nat} {T : TypeId} {a b c d : Value} (X : Bo w g #[a, b, c, d] T) (u v t x : Value) : StN w ((((w.setCell ⟨g, 0, none⟩ u).setCell ⟨g, 1, none⟩ v).setCell ⟨g, 2, none⟩ t).setCell ⟨g, 3, none⟩ x) g #[a, b, c, d] #[u, v, t, x] T :=
  ⟨X, by simpa using (((X.set 0 u).set 1 v).set 2 t).set 3 x, fun k hk => by rw [Below.heap_setCell _ _ _ _ hk, Below.heap_setCell _ _ _ _ hk, Below.heap_setCell _ _ _ _ hk, Below.heap_setCell _ _ _ _ hk], fun B a hg h => below_store (st3 h hg u v t) hg 3 x⟩
theorem StN.at4 {w : World} {g : Nat} {T : TypeId} {cs : Array Value} (X : Bo w g cs T) (i : Nat) (v : Value) : StN w (w.setCell ⟨g, i, none⟩ v) g cs (cs.setIfInBounds i v) T :=
  ⟨X, X.set i v, fun k hk => Below.heap_setCell _ _ _ _ hk, fun B a hg h => below_store h hg i v⟩
theorem mayQ0 {s : Bool} {M E : Int} : decide (MayQ 0 s M E) = ((s == false) && ((M == 0) && (E == 0))) := by
  unfold MayQ
  rw [Bool.eq_iff_iff]
  simp
theorem mayQ1 {s : Bool} {M E : Int} : decide (MayQ 1 s M E) = (decide (9223372036854775808 ≤ M) && (decide (-1048576 ≤ E) && decide (E ≤ 1048576))) := by
  unfold MayQ
  rw [Bool.eq_iff_iff]
  simp
theorem mayQ2 {s : Bool} {M E : Int} : decide (MayQ 2 s M E) = ((M == 0) && (E == 0)) := by
  unfold MayQ
  rw [Bool.eq_iff_iff]
  simp
theorem mayQ3 {K : Int} {s : Bool} {M E : Int} (h0 : K ≠ 0) (h1 : K ≠ 1) (h2 : K ≠ 2) : decide (MayQ K s M E) = false := by
  unfold MayQ
  simp [h0, h1, h2]
set_option maxHeartbeats 1000000 in
theorem nMay {w : World} {K M E : Int} {s : Bool} {r : Bool} (hr : decide (MayQ K s M E) = r) : Calls Tryd.prog 17 #[.agg #[.int .i64 K, .bool s, .int .u64 M, .int .i64 E]] w (PB w r) := by
  subst hr
  by_cases h0 : K = 0
  · subst h0
    rw [mayQ0]
    go_enter Tryd.func17, Tryd.ntmps17
    go_wp2
    all_goals go_ret
    all_goals exact ⟨by simp_all, bel1 _ _⟩
  by_cases h1 : K = 1
  · subst h1
    rw [mayQ1]
    by_cases c1 : 9223372036854775808 ≤ M
    · have e1 : decide (9223372036854775808 ≤ M) = true := decide_eq_true c1
      by_cases c2 : -1048576 ≤ E
      · have e2 : decide (-1048576 ≤ E) = true := decide_eq_true c2
        by_cases c3 : E ≤ 1048576
        · have e3 : decide (E ≤ 1048576) = true := decide_eq_true c3
          rw [e1, e2, e3]
          go_enter Tryd.func17, Tryd.ntmps17
          go_wp2
          go_ret
          exact ⟨rfl, bel1 _ _⟩
        · have e3 : decide (E ≤ 1048576) = false := decide_eq_false c3
          rw [e1, e2, e3]
          go_enter Tryd.func17, Tryd.ntmps17
          go_wp2
          go_ret
          exact ⟨rfl, bel1 _ _⟩
      · have e2 : decide (-1048576 ≤ E) = false := decide_eq_false c2
        rw [e1, e2]
        go_enter Tryd.func17, Tryd.ntmps17
        go_wp2
        go_ret
        exact ⟨rfl, bel1 _ _⟩
    · have e1 : decide (9223372036854775808 ≤ M) = false := decide_eq_false c1
      rw [e1]
      go_enter Tryd.func17, Tryd.ntmps17
      go_wp2
      go_ret
      exact ⟨rfl, bel1 _ _⟩
  by_cases h2 : K = 2
  · subst h2
    rw [mayQ2]
    by_cases c1 : M = 0
    · subst c1
      by_cases c2 : E = 0
      · subst c2
        go_enter Tryd.func17, Tryd.ntmps17
        go_wp2
        go_ret
        exact ⟨rfl, bel1 _ _⟩
      · have e2 : (E == 0) = false := by simpa using c2
        rw [e2]
        go_enter Tryd.func17, Tryd.ntmps17
        go_wp2
        go_ret
        exact ⟨rfl, bel1 _ _⟩
    · have e1 : (M == 0) = false := by simpa using c1
      rw [e1]
      go_enter Tryd.func17, Tryd.ntmps17
      go_wp2
      go_ret
      exact ⟨rfl, bel1 _ _⟩
  · rw [mayQ3 h0 h1 h2]
    have e0 : (K == 0) = false := by simpa using h0
    have e1 : (K == 1) = false := by simpa using h1
    have e2 : (K == 2) = false := by simpa using h2
    go_enter Tryd.func17, Tryd.ntmps17
    go_wp2
    go_ret
    exact ⟨rfl, bel1 _ _⟩
set_option maxHeartbeats 1000000 in
theorem yMay {w : World} {K M E : Int} {s : Bool} {r : Bool} (hr : decide (MayQ K s M E) = r) : Calls Tryd.prog 66 #[.agg #[.int .i64 K, .bool s, .int .u64 M, .int .i64 E]] w (PB w r) := by
  subst hr
  by_cases h0 : K = 0
  · subst h0
    rw [mayQ0]
    go_enter Tryd.func66, Tryd.ntmps66
    go_wp2
    all_goals go_ret
    all_goals exact ⟨by simp_all, bel1 _ _⟩
  by_cases h1 : K = 1
  · subst h1
    rw [mayQ1]
    by_cases c1 : 9223372036854775808 ≤ M
    · have e1 : decide (9223372036854775808 ≤ M) = true := decide_eq_true c1
      by_cases c2 : -1048576 ≤ E
      · have e2 : decide (-1048576 ≤ E) = true := decide_eq_true c2
        by_cases c3 : E ≤ 1048576
        · have e3 : decide (E ≤ 1048576) = true := decide_eq_true c3
          rw [e1, e2, e3]
          go_enter Tryd.func66, Tryd.ntmps66
          go_wp2
          go_ret
          exact ⟨rfl, bel1 _ _⟩
        · have e3 : decide (E ≤ 1048576) = false := decide_eq_false c3
          rw [e1, e2, e3]
          go_enter Tryd.func66, Tryd.ntmps66
          go_wp2
          go_ret
          exact ⟨rfl, bel1 _ _⟩
      · have e2 : decide (-1048576 ≤ E) = false := decide_eq_false c2
        rw [e1, e2]
        go_enter Tryd.func66, Tryd.ntmps66
        go_wp2
        go_ret
        exact ⟨rfl, bel1 _ _⟩
    · have e1 : decide (9223372036854775808 ≤ M) = false := decide_eq_false c1
      rw [e1]
      go_enter Tryd.func66, Tryd.ntmps66
      go_wp2
      go_ret
      exact ⟨rfl, bel1 _ _⟩
  by_cases h2 : K = 2
  · subst h2
    rw [mayQ2]
    by_cases c1 : M = 0
    · subst c1
      by_cases c2 : E = 0
      · subst c2
        go_enter Tryd.func66, Tryd.ntmps66
        go_wp2
        go_ret
        exact ⟨rfl, bel1 _ _⟩
      · have e2 : (E == 0) = false := by simpa using c2
        rw [e2]
        go_enter Tryd.func66, Tryd.ntmps66
        go_wp2
        go_ret
        exact ⟨rfl, bel1 _ _⟩
    · have e1 : (M == 0) = false := by simpa using c1
      rw [e1]
      go_enter Tryd.func66, Tryd.ntmps66
      go_wp2
      go_ret
      exact ⟨rfl, bel1 _ _⟩
  · rw [mayQ3 h0 h1 h2]
    have e0 : (K == 0) = false := by simpa using h0
    have e1 : (K == 1) = false := by simpa using h1
    have e2 : (K == 2) = false := by simpa using h2
    go_enter Tryd.func66, Tryd.ntmps66
    go_wp2
    go_ret
    exact ⟨rfl, bel1 _ _⟩
end Go.Proofs.YtbhnpmkdmnnclaaDoor

/-
  What num.taken, Infinite, tiny, huge, Sign, Neg do, and the document's fair, Infinite, Sign, Neg.
-/
namespace Go.Proofs.YtbhnpmkdmnnclaaDoor
open Go.RowKit
set_option linter.unusedVariables false
set_option linter.unusedSimpArgs false
set_option maxRecDepth 100000

/-- A number is answered, whose place is r. -/
def PN (w : World) (r : Int) (e : Ending) (w' : World) : Prop := ∃ D s M E, e = .returned (.agg #[.int .i64 D, .bool s, .int .u64 M, .int .i64 E]) ∧ Fq D s M E r ∧ Below w.heap.size w w'
theorem Fq.three {D : Int} {s : Bool} {M E r : Int} (h : Fq D s M E r) : (D = 0 ∧ r = 0) ∨ (D ≠ 0 ∧ s = false ∧ 0 < r) ∨ (D ≠ 0 ∧ s = true ∧ r < 0) := by
  rcases h.cases with ⟨rfl, rfl, rfl, rfl, h0⟩ | ⟨rfl, h1, h2, h3, h4, ⟨rfl, h5⟩ | ⟨rfl, h5⟩⟩ | ⟨rfl, rfl, rfl, ⟨rfl, h5⟩ | ⟨rfl, h5⟩⟩
  · exact Or.inl ⟨rfl, h0⟩
  · exact Or.inr (Or.inl ⟨by decide, rfl, by omega⟩)
  · exact Or.inr (Or.inr ⟨by decide, rfl, by omega⟩)
  · exact Or.inr (Or.inl ⟨by decide, rfl, by omega⟩)
  · exact Or.inr (Or.inr ⟨by decide, rfl, by omega⟩)

set_option maxHeartbeats 2000000 in
theorem nTaken {w : World} {D M E : Int} {s : Bool} {r : Int} (hM : M < 18446744073709551616) (hr : rk D s M E = r) : Calls Tryd.prog 56 #[.agg #[.int .i64 D, .bool s, .int .u64 M, .int .i64 E]] w (PN w r) := by
  by_cases hm : MayQ D s M E
  · have HQ := rk_fq hM hm
    rw [hr] at HQ
    have HC := Lib.hid (show decide (MayQ D s M E) = true from decide_eq_true hm)
    clear hm hr hM
    go_enter Tryd.func56, Tryd.ntmps56
    go_upto_region 1 with (fail)
    have X1 := (Bo.newAt w (g := w.heap.size) (by simp) #[.int .i64 D, .bool s, .int .u64 M, .int .i64 E] 24).below (bel1 _ (.cells #[.int .i64 0, .bool false, .int .u64 0, .int .i64 0] 24))
    have XR := (Bo.newAt (w.alloc (.cells #[.int .i64 D, .bool s, .int .u64 M, .int .i64 E] 24)) (g := w.heap.size + 1) (by simp) #[.int .i64 0, .bool false, .int .u64 0, .int .i64 0] 24)
    have HB := Lib.hid (bel2 w (.cells #[.int .i64 D, .bool s, .int .u64 M, .int .i64 E] 24) (.cells #[.int .i64 0, .bool false, .int .u64 0, .int .i64 0] 24))
    generalize hW1 : ((w.alloc (.cells #[.int .i64 D, .bool s, .int .u64 M, .int .i64 E] 24)).alloc (.cells #[.int .i64 0, .bool false, .int .u64 0, .int .i64 0] 24)) = w1 at *
    clear hW1
    have xX10 := X1.at (i := 0) (v := .int .i64 D) rfl
    have xX11 := X1.at (i := 1) (v := .bool s) rfl
    have xX12 := X1.at (i := 2) (v := .int .u64 M) rfl
    have xX13 := X1.at (i := 3) (v := .int .i64 E) rfl
    go_wp2_with fail
    refine (nMay HC.out).mono ?_
    rintro ee w2 ⟨rfl, B⟩
    clear xX10 xX11 xX12 xX13
    replace X1 := X1.below B
    replace XR := XR.below B
    replace HB := Lib.hid (bt HB.out B)
    clear B
    have xXR0 := XR.at (i := 0) (v := .int .i64 0) rfl
    have zXR0 := XR.frozen 0
    have xXR1 := XR.at (i := 1) (v := .bool false) rfl
    have zXR1 := XR.frozen 1
    have xXR2 := XR.at (i := 2) (v := .int .u64 0) rfl
    have zXR2 := XR.frozen 2
    have xXR3 := XR.at (i := 3) (v := .int .i64 0) rfl
    have zXR3 := XR.frozen 3
    have xX10 := X1.at (i := 0) (v := .int .i64 D) rfl
    have xX11 := X1.at (i := 1) (v := .bool s) rfl
    have xX12 := X1.at (i := 2) (v := .int .u64 M) rfl
    have xX13 := X1.at (i := 3) (v := .int .i64 E) rfl
    go_wp2
    clear xXR0 zXR0 xXR1 zXR1 xXR2 zXR2 xXR3 zXR3 xX10 xX11 xX12 xX13
    have SX := StN.mk4 XR (.int .i64 D) (.bool s) (.int .u64 M) (.int .i64 E)
    replace X1 := X1.stn SX (by omega)
    replace HB := Lib.hid (SX.below HB.out (by omega))
    replace XR := SX.box
    clear SX
    generalize (World.setCell (World.setCell (World.setCell (World.setCell w2 ⟨w.heap.size + 1, 0, none⟩ (.int .i64 D)) ⟨w.heap.size + 1, 1, none⟩ (.bool s)) ⟨w.heap.size + 1, 2, none⟩ (.int .u64 M)) ⟨w.heap.size + 1, 3, none⟩ (.int .i64 E)) = w3 at *
    have r0 := XR.cell 0
    have r1 := XR.cell 1
    have r2 := XR.cell 2
    have r3 := XR.cell 3
    exact bodyPost_ret (v := .agg #[.int .i64 D, .bool s, .int .u64 M, .int .i64 E]) (by simp [results, Tryd.results56, go_sem, r0, r1, r2, r3]) rfl ⟨D, s, M, E, rfl, HQ, HB.out⟩
  · rw [rk_not hm] at hr
    subst hr
    have HC := Lib.hid (show decide (MayQ D s M E) = false from decide_eq_false hm)
    clear hm hM
    go_enter Tryd.func56, Tryd.ntmps56
    go_upto_region 1 with (fail)
    have X1 := (Bo.newAt w (g := w.heap.size) (by simp) #[.int .i64 D, .bool s, .int .u64 M, .int .i64 E] 24).below (bel1 _ (.cells #[.int .i64 0, .bool false, .int .u64 0, .int .i64 0] 24))
    have XR := (Bo.newAt (w.alloc (.cells #[.int .i64 D, .bool s, .int .u64 M, .int .i64 E] 24)) (g := w.heap.size + 1) (by simp) #[.int .i64 0, .bool false, .int .u64 0, .int .i64 0] 24)
    have HB := Lib.hid (bel2 w (.cells #[.int .i64 D, .bool s, .int .u64 M, .int .i64 E] 24) (.cells #[.int .i64 0, .bool false, .int .u64 0, .int .i64 0] 24))
    generalize hW1 : ((w.alloc (.cells #[.int .i64 D, .bool s, .int .u64 M, .int .i64 E] 24)).alloc (.cells #[.int .i64 0, .bool false, .int .u64 0, .int .i64 0] 24)) = w1 at *
    clear hW1
    have xX10 := X1.at (i := 0) (v := .int .i64 D) rfl
    have xX11 := X1.at (i := 1) (v := .bool s) rfl
    have xX12 := X1.at (i := 2) (v := .int .u64 M) rfl
    have xX13 := X1.at (i := 3) (v := .int .i64 E) rfl
    go_wp2_with fail
    refine (nMay HC.out).mono ?_
    rintro ee w2 ⟨rfl, B⟩
    clear xX10 xX11 xX12 xX13
    replace X1 := X1.below B
    replace XR := XR.below B
    replace HB := Lib.hid (bt HB.out B)
    clear B
    have xXR0 := XR.at (i := 0) (v := .int .i64 0) rfl
    have zXR0 := XR.frozen 0
    have xXR1 := XR.at (i := 1) (v := .bool false) rfl
    have zXR1 := XR.frozen 1
    have xXR2 := XR.at (i := 2) (v := .int .u64 0) rfl
    have zXR2 := XR.frozen 2
    have xXR3 := XR.at (i := 3) (v := .int .i64 0) rfl
    have zXR3 := XR.frozen 3
    have xX10 := X1.at (i := 0) (v := .int .i64 D) rfl
    have xX11 := X1.at (i := 1) (v := .bool s) rfl
    have xX12 := X1.at (i := 2) (v := .int .u64 M) rfl
    have xX13 := X1.at (i := 3) (v := .int .i64 E) rfl
    go_wp2
    clear xXR0 zXR0 xXR1 zXR1 xXR2 zXR2 xXR3 zXR3 xX10 xX11 xX12 xX13
    have SX := StN.mk4 XR (.int .i64 0) (.bool false) (.int .u64 0) (.int .i64 0)
    replace X1 := X1.stn SX (by omega)
    replace HB := Lib.hid (SX.below HB.out (by omega))
    replace XR := SX.box
    clear SX
    generalize (World.setCell (World.setCell (World.setCell (World.setCell w2 ⟨w.heap.size + 1, 0, none⟩ (.int .i64 0)) ⟨w.heap.size + 1, 1, none⟩ (.bool false)) ⟨w.heap.size + 1, 2, none⟩ (.int .u64 0)) ⟨w.heap.size + 1, 3, none⟩ (.int .i64 0)) = w3 at *
    have r0 := XR.cell 0
    have r1 := XR.cell 1
    have r2 := XR.cell 2
    have r3 := XR.cell 3
    exact bodyPost_ret (v := .agg #[.int .i64 0, .bool false, .int .u64 0, .int .i64 0]) (by simp [results, Tryd.results56, go_sem, r0, r1, r2, r3]) rfl ⟨_, _, _, _, rfl, Fq.nought, HB.out⟩
set_option maxHeartbeats 2000000 in
theorem nInf {w : World} {s : Bool} {r : Int} (hr : sgi s TP = r) : Calls Tryd.prog 35 #[.bool s] w (PN w r) := by
  go_enter Tryd.func35, Tryd.ntmps35
  go_upto_region 1 with (fail)
  have XR := (Bo.newAt w (g := w.heap.size) (by simp) #[.int .i64 0, .bool false, .int .u64 0, .int .i64 0] 24)
  have HB := Lib.hid (bel1 w (.cells #[.int .i64 0, .bool false, .int .u64 0, .int .i64 0] 24))
  generalize hW1 : (w.alloc (.cells #[.int .i64 0, .bool false, .int .u64 0, .int .i64 0] 24)) = w1 at *
  clear hW1
  have xXR0 := XR.at (i := 0) (v := .int .i64 0) rfl
  have zXR0 := XR.frozen 0
  have xXR1 := XR.at (i := 1) (v := .bool false) rfl
  have zXR1 := XR.frozen 1
  have xXR2 := XR.at (i := 2) (v := .int .u64 0) rfl
  have zXR2 := XR.frozen 2
  have xXR3 := XR.at (i := 3) (v := .int .i64 0) rfl
  have zXR3 := XR.frozen 3
  go_wp2
  clear xXR0 zXR0 xXR1 zXR1 xXR2 zXR2 xXR3 zXR3
  have SX := StN.mk4 XR (.int .i64 2) (.bool s) (.int .u64 0) (.int .i64 0)
  replace HB := Lib.hid (SX.below HB.out (by omega))
  replace XR := SX.box
  clear SX
  generalize (World.setCell (World.setCell (World.setCell (World.setCell w1 ⟨w.heap.size, 0, none⟩ (.int .i64 2)) ⟨w.heap.size, 1, none⟩ (.bool s)) ⟨w.heap.size, 2, none⟩ (.int .u64 0)) ⟨w.heap.size, 3, none⟩ (.int .i64 0)) = w3 at *
  have r0 := XR.cell 0
  have r1 := XR.cell 1
  have r2 := XR.cell 2
  have r3 := XR.cell 3
  exact bodyPost_ret (v := .agg #[.int .i64 2, .bool s, .int .u64 0, .int .i64 0]) (by simp [results, Tryd.results35, go_sem, r0, r1, r2, r3]) rfl ⟨_, _, _, _, rfl, hr ▸ Fq.inf s, HB.out⟩
set_option maxHeartbeats 2000000 in
theorem nT {w : World} {s : Bool} : Calls Tryd.prog 58 #[.bool s] w (fun e w' => e = .returned (.agg #[.int .i64 1, .bool s, .int .u64 9223372036854775808, .int .i64 (-1048576)]) ∧ Below w.heap.size w w') := by
  go_enter Tryd.func58, Tryd.ntmps58
  go_upto_region 1 with (fail)
  have XR := (Bo.newAt w (g := w.heap.size) (by simp) #[.int .i64 0, .bool false, .int .u64 0, .int .i64 0] 24)
  have HB := Lib.hid (bel1 w (.cells #[.int .i64 0, .bool false, .int .u64 0, .int .i64 0] 24))
  generalize hW1 : (w.alloc (.cells #[.int .i64 0, .bool false, .int .u64 0, .int .i64 0] 24)) = w1 at *
  clear hW1
  have xXR0 := XR.at (i := 0) (v := .int .i64 0) rfl
  have zXR0 := XR.frozen 0
  have xXR1 := XR.at (i := 1) (v := .bool false) rfl
  have zXR1 := XR.frozen 1
  have xXR2 := XR.at (i := 2) (v := .int .u64 0) rfl
  have zXR2 := XR.frozen 2
  have xXR3 := XR.at (i := 3) (v := .int .i64 0) rfl
  have zXR3 := XR.frozen 3
  go_wp2
  clear xXR0 zXR0 xXR1 zXR1 xXR2 zXR2 xXR3 zXR3
  have SX := StN.mk4 XR (.int .i64 1) (.bool s) (.int .u64 9223372036854775808) (.int .i64 (-1048576))
  replace HB := Lib.hid (SX.below HB.out (by omega))
  replace XR := SX.box
  clear SX
  generalize (World.setCell (World.setCell (World.setCell (World.setCell w1 ⟨w.heap.size, 0, none⟩ (.int .i64 1)) ⟨w.heap.size, 1, none⟩ (.bool s)) ⟨w.heap.size, 2, none⟩ (.int .u64 9223372036854775808)) ⟨w.heap.size, 3, none⟩ (.int .i64 (-1048576))) = w3 at *
  have r0 := XR.cell 0
  have r1 := XR.cell 1
  have r2 := XR.cell 2
  have r3 := XR.cell 3
  exact bodyPost_ret (v := .agg #[.int .i64 1, .bool s, .int .u64 9223372036854775808, .int .i64 (-1048576)]) (by simp [results, Tryd.results58, go_sem, r0, r1, r2, r3]) rfl ⟨rfl, HB.out⟩
set_option maxHeartbeats 2000000 in
theorem nH {w : World} {s : Bool} : Calls Tryd.prog 96 #[.bool s] w (fun e w' => e = .returned (.agg #[.int .i64 1, .bool s, .int .u64 18446744073709551615, .int .i64 1048576]) ∧ Below w.heap.size w w') := by
  go_enter Tryd.func96, Tryd.ntmps96
  go_upto_region 1 with (fail)
  have XR := (Bo.newAt w (g := w.heap.size) (by simp) #[.int .i64 0, .bool false, .int .u64 0, .int .i64 0] 24)
  have HB := Lib.hid (bel1 w (.cells #[.int .i64 0, .bool false, .int .u64 0, .int .i64 0] 24))
  generalize hW1 : (w.alloc (.cells #[.int .i64 0, .bool false, .int .u64 0, .int .i64 0] 24)) = w1 at *
  clear hW1
  have xXR0 := XR.at (i := 0) (v := .int .i64 0) rfl
  have zXR0 := XR.frozen 0
  have xXR1 := XR.at (i := 1) (v := .bool false) rfl
  have zXR1 := XR.frozen 1
  have xXR2 := XR.at (i := 2) (v := .int .u64 0) rfl
  have zXR2 := XR.frozen 2
  have xXR3 := XR.at (i := 3) (v := .int .i64 0) rfl
  have zXR3 := XR.frozen 3
  go_wp2
  clear xXR0 zXR0 xXR1 zXR1 xXR2 zXR2 xXR3 zXR3
  have SX := StN.mk4 XR (.int .i64 1) (.bool s) (.int .u64 18446744073709551615) (.int .i64 1048576)
  replace HB := Lib.hid (SX.below HB.out (by omega))
  replace XR := SX.box
  clear SX
  generalize (World.setCell (World.setCell (World.setCell (World.setCell w1 ⟨w.heap.size, 0, none⟩ (.int .i64 1)) ⟨w.heap.size, 1, none⟩ (.bool s)) ⟨w.heap.size, 2, none⟩ (.int .u64 18446744073709551615)) ⟨w.heap.size, 3, none⟩ (.int .i64 1048576)) = w3 at *
  have r0 := XR.cell 0
  have r1 := XR.cell 1
  have r2 := XR.cell 2
  have r3 := XR.cell 3
  exact bodyPost_ret (v := .agg #[.int .i64 1, .bool s, .int .u64 18446744073709551615, .int .i64 1048576]) (by simp [results, Tryd.results96, go_sem, r0, r1, r2, r3]) rfl ⟨rfl, HB.out⟩
set_option maxHeartbeats 2000000 in
theorem nSign {w : World} {D M E : Int} {s : Bool} {σ : Int} (hM : M < 18446744073709551616) (hs : cmpI (rk D s M E) 0 = σ) : Calls Tryd.prog 31 #[.agg #[.int .i64 D, .bool s, .int .u64 M, .int .i64 E]] w (PI w σ) := by
  obtain ⟨r, hr⟩ : ∃ r, rk D s M E = r := ⟨_, rfl⟩
  rw [hr] at hs
  have HR := Lib.hid hr
  have HS := Lib.hid hs
  clear hr hs
  go_enter Tryd.func31, Tryd.ntmps31
  go_upto_region 1 with (fail)
  have X1 := (Bo.newAt w (g := w.heap.size) (by simp) #[.int .i64 D, .bool s, .int .u64 M, .int .i64 E] 24)
  have HB := Lib.hid (bel1 w (.cells #[.int .i64 D, .bool s, .int .u64 M, .int .i64 E] 24))
  generalize hW1 : (w.alloc (.cells #[.int .i64 D, .bool s, .int .u64 M, .int .i64 E] 24)) = w1 at *
  clear hW1
  have xX10 := X1.at (i := 0) (v := .int .i64 D) rfl
  have xX11 := X1.at (i := 1) (v := .bool s) rfl
  have xX12 := X1.at (i := 2) (v := .int .u64 M) rfl
  have xX13 := X1.at (i := 3) (v := .int .i64 E) rfl
  go_wp2_with fail
  refine (nTaken hM HR.out).mono ?_
  rintro ee w2 ⟨K1, s1, M1, E1, rfl, q1, B⟩
  clear xX10 xX11 xX12 xX13
  replace X1 := X1.below B
  replace HB := Lib.hid (bt HB.out B)
  clear B
  have xX10 := X1.at (i := 0) (v := .int .i64 D) rfl
  have zX10 := X1.frozen 0
  have xX11 := X1.at (i := 1) (v := .bool s) rfl
  have zX11 := X1.frozen 1
  have xX12 := X1.at (i := 2) (v := .int .u64 M) rfl
  have zX12 := X1.frozen 2
  have xX13 := X1.at (i := 3) (v := .int .i64 E) rfl
  have zX13 := X1.frozen 3
  go_upto_region 2 with (fail)
  clear xX10 zX10 xX11 zX11 xX12 zX12 xX13 zX13
  have SX := StN.mk4 X1 (.int .i64 K1) (.bool s1) (.int .u64 M1) (.int .i64 E1)
  replace HB := Lib.hid (SX.below HB.out (by omega))
  replace X1 := SX.box
  clear SX
  generalize (World.setCell (World.setCell (World.setCell (World.setCell w2 ⟨w.heap.size, 0, none⟩ (.int .i64 K1)) ⟨w.heap.size, 1, none⟩ (.bool s1)) ⟨w.heap.size, 2, none⟩ (.int .u64 M1)) ⟨w.heap.size, 3, none⟩ (.int .i64 E1)) = w3 at *
  rcases q1.three with ⟨h0, hr⟩ | ⟨h0, h1, hr⟩ | ⟨h0, h1, hr⟩
  · subst h0
    have hs := HS.out
    rw [cmpI_eq hr] at hs
    subst hs
    clear q1
    have xX10 := X1.at (i := 0) (v := .int .i64 0) rfl
    have xX11 := X1.at (i := 1) (v := .bool s1) rfl
    have xX12 := X1.at (i := 2) (v := .int .u64 M1) rfl
    have xX13 := X1.at (i := 3) (v := .int .i64 E1) rfl
    go_wp2
    go_ret
    exact ⟨by first | rfl | simp_all, HB.out⟩
  · have e0 : (K1 == 0) = false := by simpa using h0
    have hs := HS.out
    rw [cmpI_gt hr] at hs
    subst hs
    subst h1
    clear q1
    have xX10 := X1.at (i := 0) (v := .int .i64 K1) rfl
    have xX11 := X1.at (i := 1) (v := .bool false) rfl
    have xX12 := X1.at (i := 2) (v := .int .u64 M1) rfl
    have xX13 := X1.at (i := 3) (v := .int .i64 E1) rfl
    go_wp2
    go_ret
    exact ⟨by first | rfl | simp_all, HB.out⟩
  · have e0 : (K1 == 0) = false := by simpa using h0
    have hs := HS.out
    rw [cmpI_lt hr] at hs
    subst hs
    subst h1
    clear q1
    have xX10 := X1.at (i := 0) (v := .int .i64 K1) rfl
    have xX11 := X1.at (i := 1) (v := .bool true) rfl
    have xX12 := X1.at (i := 2) (v := .int .u64 M1) rfl
    have xX13 := X1.at (i := 3) (v := .int .i64 E1) rfl
    go_wp2
    go_ret
    exact ⟨by first | rfl | simp_all, HB.out⟩
set_option maxHeartbeats 2000000 in
theorem nNeg {w : World} {D M E : Int} {s : Bool} {r : Int} (hM : M < 18446744073709551616) (hr : -rk D s M E = r) : Calls Tryd.prog 32 #[.agg #[.int .i64 D, .bool s, .int .u64 M, .int .i64 E]] w (PN w r) := by
  obtain ⟨x, hx⟩ : ∃ x, rk D s M E = x := ⟨_, rfl⟩
  rw [hx] at hr
  have HX := Lib.hid hx
  subst hr
  clear hx
  go_enter Tryd.func32, Tryd.ntmps32
  go_upto_region 1 with (fail)
  have X1 := (Bo.newAt w (g := w.heap.size) (by simp) #[.int .i64 D, .bool s, .int .u64 M, .int .i64 E] 24).below (bel1 _ (.cells #[.int .i64 0, .bool false, .int .u64 0, .int .i64 0] 24))
  have XR := (Bo.newAt (w.alloc (.cells #[.int .i64 D, .bool s, .int .u64 M, .int .i64 E] 24)) (g := w.heap.size + 1) (by simp) #[.int .i64 0, .bool false, .int .u64 0, .int .i64 0] 24)
  have HB := Lib.hid (bel2 w (.cells #[.int .i64 D, .bool s, .int .u64 M, .int .i64 E] 24) (.cells #[.int .i64 0, .bool false, .int .u64 0, .int .i64 0] 24))
  generalize hW1 : ((w.alloc (.cells #[.int .i64 D, .bool s, .int .u64 M, .int .i64 E] 24)).alloc (.cells #[.int .i64 0, .bool false, .int .u64 0, .int .i64 0] 24)) = w1 at *
  clear hW1
  have xX10 := X1.at (i := 0) (v := .int .i64 D) rfl
  have xX11 := X1.at (i := 1) (v := .bool s) rfl
  have xX12 := X1.at (i := 2) (v := .int .u64 M) rfl
  have xX13 := X1.at (i := 3) (v := .int .i64 E) rfl
  go_wp2_with fail
  refine (nTaken hM HX.out).mono ?_
  rintro ee w2 ⟨K1, s1, M1, E1, rfl, q1, B⟩
  clear xX10 xX11 xX12 xX13
  replace X1 := X1.below B
  replace XR := XR.below B
  replace HB := Lib.hid (bt HB.out B)
  clear B
  have xX10 := X1.at (i := 0) (v := .int .i64 D) rfl
  have zX10 := X1.frozen 0
  have xX11 := X1.at (i := 1) (v := .bool s) rfl
  have zX11 := X1.frozen 1
  have xX12 := X1.at (i := 2) (v := .int .u64 M) rfl
  have zX12 := X1.frozen 2
  have xX13 := X1.at (i := 3) (v := .int .i64 E) rfl
  have zX13 := X1.frozen 3
  go_upto_region 2 with (fail)
  clear xX10 zX10 xX11 zX11 xX12 zX12 xX13 zX13
  have SX := StN.mk4 X1 (.int .i64 K1) (.bool s1) (.int .u64 M1) (.int .i64 E1)
  replace XR := XR.stn SX (by omega)
  replace HB := Lib.hid (SX.below HB.out (by omega))
  replace X1 := SX.box
  clear SX
  generalize (World.setCell (World.setCell (World.setCell (World.setCell w2 ⟨w.heap.size, 0, none⟩ (.int .i64 K1)) ⟨w.heap.size, 1, none⟩ (.bool s1)) ⟨w.heap.size, 2, none⟩ (.int .u64 M1)) ⟨w.heap.size, 3, none⟩ (.int .i64 E1)) = w3 at *
  by_cases h0 : K1 = 0
  · subst h0
    have hz := q1.zero_iff.1 rfl
    subst hz
    have xXR0 := XR.at (i := 0) (v := .int .i64 0) rfl
    have zXR0 := XR.frozen 0
    have xXR1 := XR.at (i := 1) (v := .bool false) rfl
    have zXR1 := XR.frozen 1
    have xXR2 := XR.at (i := 2) (v := .int .u64 0) rfl
    have zXR2 := XR.frozen 2
    have xXR3 := XR.at (i := 3) (v := .int .i64 0) rfl
    have zXR3 := XR.frozen 3
    have xX10 := X1.at (i := 0) (v := .int .i64 0) rfl
    have xX11 := X1.at (i := 1) (v := .bool s1) rfl
    have xX12 := X1.at (i := 2) (v := .int .u64 M1) rfl
    have xX13 := X1.at (i := 3) (v := .int .i64 E1) rfl
    go_wp2
    clear xXR0 zXR0 xXR1 zXR1 xXR2 zXR2 xXR3 zXR3 xX10 xX11 xX12 xX13
    have SX := StN.mk4 XR (.int .i64 0) (.bool s1) (.int .u64 M1) (.int .i64 E1)
    replace X1 := X1.stn SX (by omega)
    replace HB := Lib.hid (SX.below HB.out (by omega))
    replace XR := SX.box
    clear SX
    generalize (World.setCell (World.setCell (World.setCell (World.setCell w3 ⟨w.heap.size + 1, 0, none⟩ (.int .i64 0)) ⟨w.heap.size + 1, 1, none⟩ (.bool s1)) ⟨w.heap.size + 1, 2, none⟩ (.int .u64 M1)) ⟨w.heap.size + 1, 3, none⟩ (.int .i64 E1)) = w4 at *
    have r0 := XR.cell 0
    have r1 := XR.cell 1
    have r2 := XR.cell 2
    have r3 := XR.cell 3
    exact bodyPost_ret (v := .agg #[.int .i64 0, .bool s1, .int .u64 M1, .int .i64 E1]) (by simp [results, Tryd.results32, go_sem, r0, r1, r2, r3]) rfl ⟨_, _, _, _, rfl, q1, HB.out⟩
  · have e0 : (K1 == 0) = false := by simpa using h0
    have q2 := rk_neg q1 h0
    have xX10 := X1.at (i := 0) (v := .int .i64 K1) rfl
    have zX10 := X1.frozen 0
    have xX11 := X1.at (i := 1) (v := .bool s1) rfl
    have zX11 := X1.frozen 1
    have xX12 := X1.at (i := 2) (v := .int .u64 M1) rfl
    have zX12 := X1.frozen 2
    have xX13 := X1.at (i := 3) (v := .int .i64 E1) rfl
    have zX13 := X1.frozen 3
    go_upto_region 4 with (fail)
    clear xX10 zX10 xX11 zX11 xX12 zX12 xX13 zX13
    have SX : StN w3 (World.setCell w3 ⟨w.heap.size, 1, none⟩ (.bool (!s1))) _ _ #[.int .i64 K1, .bool (!s1), .int .u64 M1, .int .i64 E1] _ := StN.at4 X1 1 (.bool (!s1))
    replace XR := XR.stn SX (by omega)
    replace HB := Lib.hid (SX.below HB.out (by omega))
    replace X1 := SX.box
    clear SX
    generalize World.setCell w3 ⟨w.heap.size, 1, none⟩ (.bool (!s1)) = w4 at *
    have xXR0 := XR.at (i := 0) (v := .int .i64 0) rfl
    have zXR0 := XR.frozen 0
    have xXR1 := XR.at (i := 1) (v := .bool false) rfl
    have zXR1 := XR.frozen 1
    have xXR2 := XR.at (i := 2) (v := .int .u64 0) rfl
    have zXR2 := XR.frozen 2
    have xXR3 := XR.at (i := 3) (v := .int .i64 0) rfl
    have zXR3 := XR.frozen 3
    have xX10 := X1.at (i := 0) (v := .int .i64 K1) rfl
    have xX11 := X1.at (i := 1) (v := .bool (!s1)) rfl
    have xX12 := X1.at (i := 2) (v := .int .u64 M1) rfl
    have xX13 := X1.at (i := 3) (v := .int .i64 E1) rfl
    go_wp2
    clear xXR0 zXR0 xXR1 zXR1 xXR2 zXR2 xXR3 zXR3 xX10 xX11 xX12 xX13
    have SX := StN.mk4 XR (.int .i64 K1) (.bool (!s1)) (.int .u64 M1) (.int .i64 E1)
    replace X1 := X1.stn SX (by omega)
    replace HB := Lib.hid (SX.below HB.out (by omega))
    replace XR := SX.box
    clear SX
    generalize (World.setCell (World.setCell (World.setCell (World.setCell w4 ⟨w.heap.size + 1, 0, none⟩ (.int .i64 K1)) ⟨w.heap.size + 1, 1, none⟩ (.bool (!s1))) ⟨w.heap.size + 1, 2, none⟩ (.int .u64 M1)) ⟨w.heap.size + 1, 3, none⟩ (.int .i64 E1)) = w5 at *
    have r0 := XR.cell 0
    have r1 := XR.cell 1
    have r2 := XR.cell 2
    have r3 := XR.cell 3
    exact bodyPost_ret (v := .agg #[.int .i64 K1, .bool (!s1), .int .u64 M1, .int .i64 E1]) (by simp [results, Tryd.results32, go_sem, r0, r1, r2, r3]) rfl ⟨_, _, _, _, rfl, q2, HB.out⟩
set_option maxHeartbeats 2000000 in
theorem yTaken {w : World} {D M E : Int} {s : Bool} {r : Int} (hM : M < 18446744073709551616) (hr : rk D s M E = r) : Calls Tryd.prog 77 #[.agg #[.int .i64 D, .bool s, .int .u64 M, .int .i64 E]] w (PN w r) := by
  by_cases hm : MayQ D s M E
  · have HQ := rk_fq hM hm
    rw [hr] at HQ
    have HC := Lib.hid (show decide (MayQ D s M E) = true from decide_eq_true hm)
    clear hm hr hM
    go_enter Tryd.func77, Tryd.ntmps77
    go_upto_region 1 with (fail)
    have X1 := (Bo.newAt w (g := w.heap.size) (by simp) #[.int .i64 D, .bool s, .int .u64 M, .int .i64 E] 24).below (bel1 _ (.cells #[.int .i64 0, .bool false, .int .u64 0, .int .i64 0] 24))
    have XR := (Bo.newAt (w.alloc (.cells #[.int .i64 D, .bool s, .int .u64 M, .int .i64 E] 24)) (g := w.heap.size + 1) (by simp) #[.int .i64 0, .bool false, .int .u64 0, .int .i64 0] 24)
    have HB := Lib.hid (bel2 w (.cells #[.int .i64 D, .bool s, .int .u64 M, .int .i64 E] 24) (.cells #[.int .i64 0, .bool false, .int .u64 0, .int .i64 0] 24))
    generalize hW1 : ((w.alloc (.cells #[.int .i64 D, .bool s, .int .u64 M, .int .i64 E] 24)).alloc (.cells #[.int .i64 0, .bool false, .int .u64 0, .int .i64 0] 24)) = w1 at *
    clear hW1
    have xX10 := X1.at (i := 0) (v := .int .i64 D) rfl
    have xX11 := X1.at (i := 1) (v := .bool s) rfl
    have xX12 := X1.at (i := 2) (v := .int .u64 M) rfl
    have xX13 := X1.at (i := 3) (v := .int .i64 E) rfl
    go_wp2_with fail
    refine (yMay HC.out).mono ?_
    rintro ee w2 ⟨rfl, B⟩
    clear xX10 xX11 xX12 xX13
    replace X1 := X1.below B
    replace XR := XR.below B
    replace HB := Lib.hid (bt HB.out B)
    clear B
    have xXR0 := XR.at (i := 0) (v := .int .i64 0) rfl
    have zXR0 := XR.frozen 0
    have xXR1 := XR.at (i := 1) (v := .bool false) rfl
    have zXR1 := XR.frozen 1
    have xXR2 := XR.at (i := 2) (v := .int .u64 0) rfl
    have zXR2 := XR.frozen 2
    have xXR3 := XR.at (i := 3) (v := .int .i64 0) rfl
    have zXR3 := XR.frozen 3
    have xX10 := X1.at (i := 0) (v := .int .i64 D) rfl
    have xX11 := X1.at (i := 1) (v := .bool s) rfl
    have xX12 := X1.at (i := 2) (v := .int .u64 M) rfl
    have xX13 := X1.at (i := 3) (v := .int .i64 E) rfl
    go_wp2
    clear xXR0 zXR0 xXR1 zXR1 xXR2 zXR2 xXR3 zXR3 xX10 xX11 xX12 xX13
    have SX := StN.mk4 XR (.int .i64 D) (.bool s) (.int .u64 M) (.int .i64 E)
    replace X1 := X1.stn SX (by omega)
    replace HB := Lib.hid (SX.below HB.out (by omega))
    replace XR := SX.box
    clear SX
    generalize (World.setCell (World.setCell (World.setCell (World.setCell w2 ⟨w.heap.size + 1, 0, none⟩ (.int .i64 D)) ⟨w.heap.size + 1, 1, none⟩ (.bool s)) ⟨w.heap.size + 1, 2, none⟩ (.int .u64 M)) ⟨w.heap.size + 1, 3, none⟩ (.int .i64 E)) = w3 at *
    have r0 := XR.cell 0
    have r1 := XR.cell 1
    have r2 := XR.cell 2
    have r3 := XR.cell 3
    exact bodyPost_ret (v := .agg #[.int .i64 D, .bool s, .int .u64 M, .int .i64 E]) (by simp [results, Tryd.results77, go_sem, r0, r1, r2, r3]) rfl ⟨D, s, M, E, rfl, HQ, HB.out⟩
  · rw [rk_not hm] at hr
    subst hr
    have HC := Lib.hid (show decide (MayQ D s M E) = false from decide_eq_false hm)
    clear hm hM
    go_enter Tryd.func77, Tryd.ntmps77
    go_upto_region 1 with (fail)
    have X1 := (Bo.newAt w (g := w.heap.size) (by simp) #[.int .i64 D, .bool s, .int .u64 M, .int .i64 E] 24).below (bel1 _ (.cells #[.int .i64 0, .bool false, .int .u64 0, .int .i64 0] 24))
    have XR := (Bo.newAt (w.alloc (.cells #[.int .i64 D, .bool s, .int .u64 M, .int .i64 E] 24)) (g := w.heap.size + 1) (by simp) #[.int .i64 0, .bool false, .int .u64 0, .int .i64 0] 24)
    have HB := Lib.hid (bel2 w (.cells #[.int .i64 D, .bool s, .int .u64 M, .int .i64 E] 24) (.cells #[.int .i64 0, .bool false, .int .u64 0, .int .i64 0] 24))
    generalize hW1 : ((w.alloc (.cells #[.int .i64 D, .bool s, .int .u64 M, .int .i64 E] 24)).alloc (.cells #[.int .i64 0, .bool false, .int .u64 0, .int .i64 0] 24)) = w1 at *
    clear hW1
    have xX10 := X1.at (i := 0) (v := .int .i64 D) rfl
    have xX11 := X1.at (i := 1) (v := .bool s) rfl
    have xX12 := X1.at (i := 2) (v := .int .u64 M) rfl
    have xX13 := X1.at (i := 3) (v := .int .i64 E) rfl
    go_wp2_with fail
    refine (yMay HC.out).mono ?_
    rintro ee w2 ⟨rfl, B⟩
    clear xX10 xX11 xX12 xX13
    replace X1 := X1.below B
    replace XR := XR.below B
    replace HB := Lib.hid (bt HB.out B)
    clear B
    have xXR0 := XR.at (i := 0) (v := .int .i64 0) rfl
    have zXR0 := XR.frozen 0
    have xXR1 := XR.at (i := 1) (v := .bool false) rfl
    have zXR1 := XR.frozen 1
    have xXR2 := XR.at (i := 2) (v := .int .u64 0) rfl
    have zXR2 := XR.frozen 2
    have xXR3 := XR.at (i := 3) (v := .int .i64 0) rfl
    have zXR3 := XR.frozen 3
    have xX10 := X1.at (i := 0) (v := .int .i64 D) rfl
    have xX11 := X1.at (i := 1) (v := .bool s) rfl
    have xX12 := X1.at (i := 2) (v := .int .u64 M) rfl
    have xX13 := X1.at (i := 3) (v := .int .i64 E) rfl
    go_wp2
    clear xXR0 zXR0 xXR1 zXR1 xXR2 zXR2 xXR3 zXR3 xX10 xX11 xX12 xX13
    have SX := StN.mk4 XR (.int .i64 0) (.bool false) (.int .u64 0) (.int .i64 0)
    replace X1 := X1.stn SX (by omega)
    replace HB := Lib.hid (SX.below HB.out (by omega))
    replace XR := SX.box
    clear SX
    generalize (World.setCell (World.setCell (World.setCell (World.setCell w2 ⟨w.heap.size + 1, 0, none⟩ (.int .i64 0)) ⟨w.heap.size + 1, 1, none⟩ (.bool false)) ⟨w.heap.size + 1, 2, none⟩ (.int .u64 0)) ⟨w.heap.size + 1, 3, none⟩ (.int .i64 0)) = w3 at *
    have r0 := XR.cell 0
    have r1 := XR.cell 1
    have r2 := XR.cell 2
    have r3 := XR.cell 3
    exact bodyPost_ret (v := .agg #[.int .i64 0, .bool false, .int .u64 0, .int .i64 0]) (by simp [results, Tryd.results77, go_sem, r0, r1, r2, r3]) rfl ⟨_, _, _, _, rfl, Fq.nought, HB.out⟩
set_option maxHeartbeats 2000000 in
theorem yInf {w : World} {s : Bool} {r : Int} (hr : sgi s TP = r) : Calls Tryd.prog 40 #[.bool s] w (PN w r) := by
  go_enter Tryd.func40, Tryd.ntmps40
  go_upto_region 1 with (fail)
  have XR := (Bo.newAt w (g := w.heap.size) (by simp) #[.int .i64 0, .bool false, .int .u64 0, .int .i64 0] 24)
  have HB := Lib.hid (bel1 w (.cells #[.int .i64 0, .bool false, .int .u64 0, .int .i64 0] 24))
  generalize hW1 : (w.alloc (.cells #[.int .i64 0, .bool false, .int .u64 0, .int .i64 0] 24)) = w1 at *
  clear hW1
  have xXR0 := XR.at (i := 0) (v := .int .i64 0) rfl
  have zXR0 := XR.frozen 0
  have xXR1 := XR.at (i := 1) (v := .bool false) rfl
  have zXR1 := XR.frozen 1
  have xXR2 := XR.at (i := 2) (v := .int .u64 0) rfl
  have zXR2 := XR.frozen 2
  have xXR3 := XR.at (i := 3) (v := .int .i64 0) rfl
  have zXR3 := XR.frozen 3
  go_wp2
  clear xXR0 zXR0 xXR1 zXR1 xXR2 zXR2 xXR3 zXR3
  have SX := StN.mk4 XR (.int .i64 2) (.bool s) (.int .u64 0) (.int .i64 0)
  replace HB := Lib.hid (SX.below HB.out (by omega))
  replace XR := SX.box
  clear SX
  generalize (World.setCell (World.setCell (World.setCell (World.setCell w1 ⟨w.heap.size, 0, none⟩ (.int .i64 2)) ⟨w.heap.size, 1, none⟩ (.bool s)) ⟨w.heap.size, 2, none⟩ (.int .u64 0)) ⟨w.heap.size, 3, none⟩ (.int .i64 0)) = w3 at *
  have r0 := XR.cell 0
  have r1 := XR.cell 1
  have r2 := XR.cell 2
  have r3 := XR.cell 3
  exact bodyPost_ret (v := .agg #[.int .i64 2, .bool s, .int .u64 0, .int .i64 0]) (by simp [results, Tryd.results40, go_sem, r0, r1, r2, r3]) rfl ⟨_, _, _, _, rfl, hr ▸ Fq.inf s, HB.out⟩
set_option maxHeartbeats 2000000 in
theorem yNeg {w : World} {D M E : Int} {s : Bool} {r : Int} (hM : M < 18446744073709551616) (hr : -rk D s M E = r) : Calls Tryd.prog 44 #[.agg #[.int .i64 D, .bool s, .int .u64 M, .int .i64 E]] w (PN w r) := by
  obtain ⟨x, hx⟩ : ∃ x, rk D s M E = x := ⟨_, rfl⟩
  rw [hx] at hr
  have HX := Lib.hid hx
  subst hr
  clear hx
  go_enter Tryd.func44, Tryd.ntmps44
  go_upto_region 1 with (fail)
  have X1 := (Bo.newAt w (g := w.heap.size) (by simp) #[.int .i64 D, .bool s, .int .u64 M, .int .i64 E] 24).below (bel1 _ (.cells #[.int .i64 0, .bool false, .int .u64 0, .int .i64 0] 24))
  have XR := (Bo.newAt (w.alloc (.cells #[.int .i64 D, .bool s, .int .u64 M, .int .i64 E] 24)) (g := w.heap.size + 1) (by simp) #[.int .i64 0, .bool false, .int .u64 0, .int .i64 0] 24)
  have HB := Lib.hid (bel2 w (.cells #[.int .i64 D, .bool s, .int .u64 M, .int .i64 E] 24) (.cells #[.int .i64 0, .bool false, .int .u64 0, .int .i64 0] 24))
  generalize hW1 : ((w.alloc (.cells #[.int .i64 D, .bool s, .int .u64 M, .int .i64 E] 24)).alloc (.cells #[.int .i64 0, .bool false, .int .u64 0, .int .i64 0] 24)) = w1 at *
  clear hW1
  have xX10 := X1.at (i := 0) (v := .int .i64 D) rfl
  have xX11 := X1.at (i := 1) (v := .bool s) rfl
  have xX12 := X1.at (i := 2) (v := .int .u64 M) rfl
  have xX13 := X1.at (i := 3) (v := .int .i64 E) rfl
  go_wp2_with fail
  refine (yTaken hM HX.out).mono ?_
  rintro ee w2 ⟨K1, s1, M1, E1, rfl, q1, B⟩
  clear xX10 xX11 xX12 xX13
  replace X1 := X1.below B
  replace XR := XR.below B
  replace HB := Lib.hid (bt HB.out B)
  clear B
  go_upto_region 2 with (fail)
  have lX3 := Nat.le_refl (World.heap w2).size
  have nX3X1 := X1.lt
  have nX3XR := XR.lt
  replace X1 := X1.below (bel1 _ (.cells #[.int .i64 K1, .bool s1, .int .u64 M1, .int .i64 E1] 24))
  replace XR := XR.below (bel1 _ (.cells #[.int .i64 K1, .bool s1, .int .u64 M1, .int .i64 E1] 24))
  replace HB := Lib.hid (bt HB.out (bel1 _ (.cells #[.int .i64 K1, .bool s1, .int .u64 M1, .int .i64 E1] 24)))
  have X3 := Bo.new w2 #[.int .i64 K1, .bool s1, .int .u64 M1, .int .i64 E1] 24
  generalize hWn : World.alloc w2 (.cells #[.int .i64 K1, .bool s1, .int .u64 M1, .int .i64 E1] 24) = w3 at *
  clear hWn
  by_cases h0 : K1 = 0
  · subst h0
    have hz := q1.zero_iff.1 rfl
    subst hz
    have xXR0 := XR.at (i := 0) (v := .int .i64 0) rfl
    have zXR0 := XR.frozen 0
    have xXR1 := XR.at (i := 1) (v := .bool false) rfl
    have zXR1 := XR.frozen 1
    have xXR2 := XR.at (i := 2) (v := .int .u64 0) rfl
    have zXR2 := XR.frozen 2
    have xXR3 := XR.at (i := 3) (v := .int .i64 0) rfl
    have zXR3 := XR.frozen 3
    have xX30 := X3.at (i := 0) (v := .int .i64 0) rfl
    have xX31 := X3.at (i := 1) (v := .bool s1) rfl
    have xX32 := X3.at (i := 2) (v := .int .u64 M1) rfl
    have xX33 := X3.at (i := 3) (v := .int .i64 E1) rfl
    go_wp2
    clear xXR0 zXR0 xXR1 zXR1 xXR2 zXR2 xXR3 zXR3 xX30 xX31 xX32 xX33
    have SX := StN.mk4 XR (.int .i64 0) (.bool s1) (.int .u64 M1) (.int .i64 E1)
    replace X1 := X1.stn SX (by omega)
    replace X3 := X3.stn SX (by omega)
    replace HB := Lib.hid (SX.below HB.out (by omega))
    replace XR := SX.box
    clear SX
    generalize (World.setCell (World.setCell (World.setCell (World.setCell w3 ⟨w.heap.size + 1, 0, none⟩ (.int .i64 0)) ⟨w.heap.size + 1, 1, none⟩ (.bool s1)) ⟨w.heap.size + 1, 2, none⟩ (.int .u64 M1)) ⟨w.heap.size + 1, 3, none⟩ (.int .i64 E1)) = w4 at *
    have r0 := XR.cell 0
    have r1 := XR.cell 1
    have r2 := XR.cell 2
    have r3 := XR.cell 3
    exact bodyPost_ret (v := .agg #[.int .i64 0, .bool s1, .int .u64 M1, .int .i64 E1]) (by simp [results, Tryd.results44, go_sem, r0, r1, r2, r3]) rfl ⟨_, _, _, _, rfl, q1, HB.out⟩
  · have e0 : (K1 == 0) = false := by simpa using h0
    have q2 := rk_neg q1 h0
    have xX30 := X3.at (i := 0) (v := .int .i64 K1) rfl
    have zX30 := X3.frozen 0
    have xX31 := X3.at (i := 1) (v := .bool s1) rfl
    have zX31 := X3.frozen 1
    have xX32 := X3.at (i := 2) (v := .int .u64 M1) rfl
    have zX32 := X3.frozen 2
    have xX33 := X3.at (i := 3) (v := .int .i64 E1) rfl
    have zX33 := X3.frozen 3
    go_upto_region 4 with (fail)
    clear xX30 zX30 xX31 zX31 xX32 zX32 xX33 zX33
    have SX : StN w3 (World.setCell w3 ⟨w2.heap.size, 1, none⟩ (.bool (!s1))) _ _ #[.int .i64 K1, .bool (!s1), .int .u64 M1, .int .i64 E1] _ := StN.at4 X3 1 (.bool (!s1))
    replace X1 := X1.stn SX (by omega)
    replace XR := XR.stn SX (by omega)
    replace HB := Lib.hid (SX.below HB.out (by omega))
    replace X3 := SX.box
    clear SX
    generalize World.setCell w3 ⟨w2.heap.size, 1, none⟩ (.bool (!s1)) = w4 at *
    have xXR0 := XR.at (i := 0) (v := .int .i64 0) rfl
    have zXR0 := XR.frozen 0
    have xXR1 := XR.at (i := 1) (v := .bool false) rfl
    have zXR1 := XR.frozen 1
    have xXR2 := XR.at (i := 2) (v := .int .u64 0) rfl
    have zXR2 := XR.frozen 2
    have xXR3 := XR.at (i := 3) (v := .int .i64 0) rfl
    have zXR3 := XR.frozen 3
    have xX30 := X3.at (i := 0) (v := .int .i64 K1) rfl
    have xX31 := X3.at (i := 1) (v := .bool (!s1)) rfl
    have xX32 := X3.at (i := 2) (v := .int .u64 M1) rfl
    have xX33 := X3.at (i := 3) (v := .int .i64 E1) rfl
    go_wp2
    clear xXR0 zXR0 xXR1 zXR1 xXR2 zXR2 xXR3 zXR3 xX30 xX31 xX32 xX33
    have SX := StN.mk4 XR (.int .i64 K1) (.bool (!s1)) (.int .u64 M1) (.int .i64 E1)
    replace X1 := X1.stn SX (by omega)
    replace X3 := X3.stn SX (by omega)
    replace HB := Lib.hid (SX.below HB.out (by omega))
    replace XR := SX.box
    clear SX
    generalize (World.setCell (World.setCell (World.setCell (World.setCell w4 ⟨w.heap.size + 1, 0, none⟩ (.int .i64 K1)) ⟨w.heap.size + 1, 1, none⟩ (.bool (!s1))) ⟨w.heap.size + 1, 2, none⟩ (.int .u64 M1)) ⟨w.heap.size + 1, 3, none⟩ (.int .i64 E1)) = w5 at *
    have r0 := XR.cell 0
    have r1 := XR.cell 1
    have r2 := XR.cell 2
    have r3 := XR.cell 3
    exact bodyPost_ret (v := .agg #[.int .i64 K1, .bool (!s1), .int .u64 M1, .int .i64 E1]) (by simp [results, Tryd.results44, go_sem, r0, r1, r2, r3]) rfl ⟨_, _, _, _, rfl, q2, HB.out⟩
end Go.Proofs.YtbhnpmkdmnnclaaDoor

/-
  What num.farther and Cmp do, and the document's Cmp.
-/
namespace Go.Proofs.YtbhnpmkdmnnclaaDoor
open Go.RowKit
set_option linter.unusedVariables false
set_option linter.unusedSimpArgs false
set_option maxRecDepth 100000

theorem compare64_any (x y : Int) (w : World) : Calls Tryd.prog 82 #[.int .u64 x, .int .u64 y] w fun e w' => e = .returned (.int .i64 (cmpI x y)) ∧ w = w' := by
  go_enter Tryd.func82, Tryd.ntmps82
  go_wp2
  all_goals go_ret
  · exact ⟨ret_int (cmpI_lt (by assumption)).symm, rfl⟩
  · exact ⟨ret_int (cmpI_gt (by assumption)).symm, rfl⟩
  · exact ⟨ret_int (cmpI_eq (by omega)).symm, rfl⟩

theorem vCmpI {x y z : Int} (w : World) (h : cmpI x y = z) : Calls Tryd.prog 48 #[.int .i64 x, .int .i64 y] w (PI w z) := by
  subst h
  refine (compareInt_any x y w).mono ?_
  rintro e w' ⟨rfl, rfl⟩
  exact ⟨rfl, Below.refl _ _⟩
theorem vCmpU {x y z : Int} (w : World) (h : cmpI x y = z) : Calls Tryd.prog 82 #[.int .u64 x, .int .u64 y] w (PI w z) := by
  subst h
  refine (compare64_any x y w).mono ?_
  rintro e w' ⟨rfl, rfl⟩
  exact ⟨rfl, Below.refl _ _⟩
set_option maxHeartbeats 2000000 in
theorem nFar {w : World} {D D' M M' E E' : Int} {s s' : Bool} {r : Int} (hr : fa D M E D' M' E' = r) : Calls Tryd.prog 49 #[.agg #[.int .i64 D, .bool s, .int .u64 M, .int .i64 E], .agg #[.int .i64 D', .bool s', .int .u64 M', .int .i64 E']] w (PI w r) := by
  unfold fa at hr
  by_cases hk : D ≠ D'
  · rw [if_pos hk] at hr
    have e0 : (D == D') = false := by simpa using hk
    have HR := Lib.hid hr
    clear hr hk
    go_enter Tryd.func49, Tryd.ntmps49
    go_upto_region 1 with (fail)
    have X1 := (Bo.newAt w (g := w.heap.size) (by simp) #[.int .i64 D, .bool s, .int .u64 M, .int .i64 E] 24).below (bel1 _ (.cells #[.int .i64 D', .bool s', .int .u64 M', .int .i64 E'] 24))
    have X2 := (Bo.newAt (w.alloc (.cells #[.int .i64 D, .bool s, .int .u64 M, .int .i64 E] 24)) (g := w.heap.size + 1) (by simp) #[.int .i64 D', .bool s', .int .u64 M', .int .i64 E'] 24)
    have HB := Lib.hid (bel2 w (.cells #[.int .i64 D, .bool s, .int .u64 M, .int .i64 E] 24) (.cells #[.int .i64 D', .bool s', .int .u64 M', .int .i64 E'] 24))
    generalize hW1 : ((w.alloc (.cells #[.int .i64 D, .bool s, .int .u64 M, .int .i64 E] 24)).alloc (.cells #[.int .i64 D', .bool s', .int .u64 M', .int .i64 E'] 24)) = w1 at *
    clear hW1
    have xX10 := X1.at (i := 0) (v := .int .i64 D) rfl
    have xX11 := X1.at (i := 1) (v := .bool s) rfl
    have xX12 := X1.at (i := 2) (v := .int .u64 M) rfl
    have xX13 := X1.at (i := 3) (v := .int .i64 E) rfl
    have xX20 := X2.at (i := 0) (v := .int .i64 D') rfl
    have xX21 := X2.at (i := 1) (v := .bool s') rfl
    have xX22 := X2.at (i := 2) (v := .int .u64 M') rfl
    have xX23 := X2.at (i := 3) (v := .int .i64 E') rfl
    go_wp2_with fail
    refine (vCmpI _ HR.out).mono ?_
    rintro ee w2 ⟨rfl, B⟩
    clear xX10 xX11 xX12 xX13 xX20 xX21 xX22 xX23
    replace X1 := X1.below B
    replace X2 := X2.below B
    replace HB := Lib.hid (bt HB.out B)
    clear B
    go_wp2
    go_ret
    exact ⟨rfl, HB.out⟩
  · rw [if_neg hk] at hr
    obtain rfl : D = D' := Decidable.not_not.1 hk
    clear hk
    by_cases he : E ≠ E'
    · rw [if_pos he] at hr
      have e0 : (E == E') = false := by simpa using he
      have HR := Lib.hid hr
      clear hr he
      go_enter Tryd.func49, Tryd.ntmps49
      go_upto_region 1 with (fail)
      have X1 := (Bo.newAt w (g := w.heap.size) (by simp) #[.int .i64 D, .bool s, .int .u64 M, .int .i64 E] 24).below (bel1 _ (.cells #[.int .i64 D, .bool s', .int .u64 M', .int .i64 E'] 24))
      have X2 := (Bo.newAt (w.alloc (.cells #[.int .i64 D, .bool s, .int .u64 M, .int .i64 E] 24)) (g := w.heap.size + 1) (by simp) #[.int .i64 D, .bool s', .int .u64 M', .int .i64 E'] 24)
      have HB := Lib.hid (bel2 w (.cells #[.int .i64 D, .bool s, .int .u64 M, .int .i64 E] 24) (.cells #[.int .i64 D, .bool s', .int .u64 M', .int .i64 E'] 24))
      generalize hW1 : ((w.alloc (.cells #[.int .i64 D, .bool s, .int .u64 M, .int .i64 E] 24)).alloc (.cells #[.int .i64 D, .bool s', .int .u64 M', .int .i64 E'] 24)) = w1 at *
      clear hW1
      have xX10 := X1.at (i := 0) (v := .int .i64 D) rfl
      have xX11 := X1.at (i := 1) (v := .bool s) rfl
      have xX12 := X1.at (i := 2) (v := .int .u64 M) rfl
      have xX13 := X1.at (i := 3) (v := .int .i64 E) rfl
      have xX20 := X2.at (i := 0) (v := .int .i64 D) rfl
      have xX21 := X2.at (i := 1) (v := .bool s') rfl
      have xX22 := X2.at (i := 2) (v := .int .u64 M') rfl
      have xX23 := X2.at (i := 3) (v := .int .i64 E') rfl
      go_wp2_with fail
      refine (vCmpI _ HR.out).mono ?_
      rintro ee w2 ⟨rfl, B⟩
      clear xX10 xX11 xX12 xX13 xX20 xX21 xX22 xX23
      replace X1 := X1.below B
      replace X2 := X2.below B
      replace HB := Lib.hid (bt HB.out B)
      clear B
      go_wp2
      go_ret
      exact ⟨rfl, HB.out⟩
    · rw [if_neg he] at hr
      obtain rfl : E = E' := Decidable.not_not.1 he
      have HR := Lib.hid hr
      clear hr he
      go_enter Tryd.func49, Tryd.ntmps49
      go_upto_region 1 with (fail)
      have X1 := (Bo.newAt w (g := w.heap.size) (by simp) #[.int .i64 D, .bool s, .int .u64 M, .int .i64 E] 24).below (bel1 _ (.cells #[.int .i64 D, .bool s', .int .u64 M', .int .i64 E] 24))
      have X2 := (Bo.newAt (w.alloc (.cells #[.int .i64 D, .bool s, .int .u64 M, .int .i64 E] 24)) (g := w.heap.size + 1) (by simp) #[.int .i64 D, .bool s', .int .u64 M', .int .i64 E] 24)
      have HB := Lib.hid (bel2 w (.cells #[.int .i64 D, .bool s, .int .u64 M, .int .i64 E] 24) (.cells #[.int .i64 D, .bool s', .int .u64 M', .int .i64 E] 24))
      generalize hW1 : ((w.alloc (.cells #[.int .i64 D, .bool s, .int .u64 M, .int .i64 E] 24)).alloc (.cells #[.int .i64 D, .bool s', .int .u64 M', .int .i64 E] 24)) = w1 at *
      clear hW1
      have xX10 := X1.at (i := 0) (v := .int .i64 D) rfl
      have xX11 := X1.at (i := 1) (v := .bool s) rfl
      have xX12 := X1.at (i := 2) (v := .int .u64 M) rfl
      have xX13 := X1.at (i := 3) (v := .int .i64 E) rfl
      have xX20 := X2.at (i := 0) (v := .int .i64 D) rfl
      have xX21 := X2.at (i := 1) (v := .bool s') rfl
      have xX22 := X2.at (i := 2) (v := .int .u64 M') rfl
      have xX23 := X2.at (i := 3) (v := .int .i64 E) rfl
      go_wp2_with fail
      refine (vCmpU _ HR.out).mono ?_
      rintro ee w2 ⟨rfl, B⟩
      clear xX10 xX11 xX12 xX13 xX20 xX21 xX22 xX23
      replace X1 := X1.below B
      replace X2 := X2.below B
      replace HB := Lib.hid (bt HB.out B)
      clear B
      go_wp2
      go_ret
      exact ⟨rfl, HB.out⟩
set_option maxHeartbeats 2000000 in
theorem nCmp {w : World} {D D' M M' E E' : Int} {s s' : Bool} {z : Int} (hM : M < 18446744073709551616) (hM' : M' < 18446744073709551616) (hz : cmpI (rk D s M E) (rk D' s' M' E') = z) : Calls Tryd.prog 26 #[.agg #[.int .i64 D, .bool s, .int .u64 M, .int .i64 E], .agg #[.int .i64 D', .bool s', .int .u64 M', .int .i64 E']] w (PI w z) := by
  have hs := cmp_sign (x := rk D s M E) (y := rk D' s' M' E')
  have hf := cmp_far (K := D) (s := s) (E := E) (K' := D') (s' := s') (E' := E') hM hM'
  have b1 := fa_bd D M E D' M' E'
  have b2 := cmpI_bd (rk D s M E) 0
  revert hs hf b1 b2
  generalize hσ : cmpI (rk D s M E) 0 = σ
  generalize hτ : cmpI (rk D' s' M' E') 0 = τ
  generalize hφ : fa D M E D' M' E' = φ
  rw [hz]
  intro hs hf b1 b2
  have HS := Lib.hid hσ
  have HT := Lib.hid hτ
  have HF := Lib.hid hφ
  clear hσ hτ hφ hz
  by_cases he : σ ≠ τ
  · have e0 : (σ == τ) = false := by simpa using he
    have HZ := Lib.hid (hs he)
    clear hs hf he b1 b2
    go_enter Tryd.func26, Tryd.ntmps26
    go_upto_region 1 with (fail)
    have X1 := (Bo.newAt w (g := w.heap.size) (by simp) #[.int .i64 D, .bool s, .int .u64 M, .int .i64 E] 24).below (bel1 _ (.cells #[.int .i64 D', .bool s', .int .u64 M', .int .i64 E'] 24))
    have X2 := (Bo.newAt (w.alloc (.cells #[.int .i64 D, .bool s, .int .u64 M, .int .i64 E] 24)) (g := w.heap.size + 1) (by simp) #[.int .i64 D', .bool s', .int .u64 M', .int .i64 E'] 24)
    have HB := Lib.hid (bel2 w (.cells #[.int .i64 D, .bool s, .int .u64 M, .int .i64 E] 24) (.cells #[.int .i64 D', .bool s', .int .u64 M', .int .i64 E'] 24))
    generalize hW1 : ((w.alloc (.cells #[.int .i64 D, .bool s, .int .u64 M, .int .i64 E] 24)).alloc (.cells #[.int .i64 D', .bool s', .int .u64 M', .int .i64 E'] 24)) = w1 at *
    clear hW1
    refine Jo.region_joint (T := [0, 1, 2, 3, 4, 5]) (ds := [some 7, some 8, some 9, some 10, some 5, some 6]) (ls := [[], [0], [], [2], [1], [3]]) (k := 6) (L := [(some 7, 0), (some 8, 1), (some 9, 2), (some 10, 3), (some 5, 4), (some 6, 5)]) (fuel := 0) (J := fun wj => Below (World.heap w1).size w1 wj)
      (F := [Jo.Fact.eq (.agg #[.int .i64 D, .bool s, .int .u64 M, .int .i64 E]), Jo.Fact.eq (.int .i64 σ), Jo.Fact.eq (.agg #[.int .i64 D', .bool s', .int .u64 M', .int .i64 E']), Jo.Fact.eq (.int .i64 τ), Jo.Fact.eq (.int .i64 σ), Jo.Fact.eq (.int .i64 τ)])
      (by kernel_rfl) (by kernel_rfl) (by decide) rfl rfl (fun _ _ h b => bt h b) ((Below.refl _ _).drew) ?_ (fun vs w2 hJ hd => ?_)
    · refine Jo.jcons (i := 0) (o := ⟨some 7, _, _, _, _, _⟩) (di := some 7) (L := []) (f := Jo.Fact.eq (.agg #[.int .i64 D, .bool s, .int .u64 M, .int .i64 E])) rfl rfl rfl rfl (fun vs wj hJ hd K hK => ?_) ?_
      · clear hd
        simp only [Jo.putl, List.foldl_nil, Act.put, List.setIfInBounds_toArray, List.set_cons_zero, List.set_cons_succ] at hK ⊢
        have xX10 : World.cell? wj ⟨w.heap.size, 0, none⟩ = some (.int .i64 D) := (X1.below hJ).cell 0
        have xX11 : World.cell? wj ⟨w.heap.size, 1, none⟩ = some (.bool s) := (X1.below hJ).cell 1
        have xX12 : World.cell? wj ⟨w.heap.size, 2, none⟩ = some (.int .u64 M) := (X1.below hJ).cell 2
        have xX13 : World.cell? wj ⟨w.heap.size, 3, none⟩ = some (.int .i64 E) := (X1.below hJ).cell 3
        go_simp
        exact hK.out _ _ rfl (Below.refl _ _)
      refine Jo.jcons (i := 1) (o := ⟨some 8, _, _, _, _, _⟩) (di := some 8) (L := [(some 7, 0)]) (f := Jo.Fact.eq (.int .i64 σ)) rfl rfl rfl rfl (fun vs wj hJ hd K hK => ?_) ?_
      · have d0 : (Jo.Fact.eq (.agg #[.int .i64 D, .bool s, .int .u64 M, .int .i64 E])).P (vs 0) wj := hd 0 (by decide)
        clear hd
        simp only [Jo.putl, List.foldl_cons, List.foldl_nil, Act.put, List.setIfInBounds_toArray, List.set_cons_zero, List.set_cons_succ] at hK ⊢
        generalize vs 0 = u0 at hK d0 ⊢
        replace d0 : u0 = _ := d0
        subst d0
        go_simp
        refine (nSign hM HS.out).mono ?_
        rintro ee wk ⟨rfl, B⟩
        exact hK.out _ _ rfl B
      refine Jo.jcons (i := 2) (o := ⟨some 9, _, _, _, _, _⟩) (di := some 9) (L := []) (f := Jo.Fact.eq (.agg #[.int .i64 D', .bool s', .int .u64 M', .int .i64 E'])) rfl rfl rfl rfl (fun vs wj hJ hd K hK => ?_) ?_
      · clear hd
        simp only [Jo.putl, List.foldl_nil, Act.put, List.setIfInBounds_toArray, List.set_cons_zero, List.set_cons_succ] at hK ⊢
        have xX20 : World.cell? wj ⟨w.heap.size + 1, 0, none⟩ = some (.int .i64 D') := (X2.below hJ).cell 0
        have xX21 : World.cell? wj ⟨w.heap.size + 1, 1, none⟩ = some (.bool s') := (X2.below hJ).cell 1
        have xX22 : World.cell? wj ⟨w.heap.size + 1, 2, none⟩ = some (.int .u64 M') := (X2.below hJ).cell 2
        have xX23 : World.cell? wj ⟨w.heap.size + 1, 3, none⟩ = some (.int .i64 E') := (X2.below hJ).cell 3
        go_simp
        exact hK.out _ _ rfl (Below.refl _ _)
      refine Jo.jcons (i := 3) (o := ⟨some 10, _, _, _, _, _⟩) (di := some 10) (L := [(some 9, 2)]) (f := Jo.Fact.eq (.int .i64 τ)) rfl rfl rfl rfl (fun vs wj hJ hd K hK => ?_) ?_
      · have d2 : (Jo.Fact.eq (.agg #[.int .i64 D', .bool s', .int .u64 M', .int .i64 E'])).P (vs 2) wj := hd 2 (by decide)
        clear hd
        simp only [Jo.putl, List.foldl_cons, List.foldl_nil, Act.put, List.setIfInBounds_toArray, List.set_cons_zero, List.set_cons_succ] at hK ⊢
        generalize vs 2 = u2 at hK d2 ⊢
        replace d2 : u2 = _ := d2
        subst d2
        go_simp
        refine (nSign hM' HT.out).mono ?_
        rintro ee wk ⟨rfl, B⟩
        exact hK.out _ _ rfl B
      refine Jo.jcons (i := 4) (o := ⟨some 5, _, _, _, _, _⟩) (di := some 5) (L := [(some 8, 1)]) (f := Jo.Fact.eq (.int .i64 σ)) rfl rfl rfl rfl (fun vs wj hJ hd K hK => ?_) ?_
      · have d1 : (Jo.Fact.eq (.int .i64 σ)).P (vs 1) wj := hd 1 (by decide)
        clear hd
        simp only [Jo.putl, List.foldl_cons, List.foldl_nil, Act.put, List.setIfInBounds_toArray, List.set_cons_zero, List.set_cons_succ] at hK ⊢
        generalize vs 1 = u1 at hK d1 ⊢
        replace d1 : u1 = _ := d1
        subst d1
        go_simp
        exact hK.out _ _ rfl (Below.refl _ _)
      refine Jo.jcons (i := 5) (o := ⟨some 6, _, _, _, _, _⟩) (di := some 6) (L := [(some 10, 3)]) (f := Jo.Fact.eq (.int .i64 τ)) rfl rfl rfl rfl (fun vs wj hJ hd K hK => ?_) ?_
      · have d3 : (Jo.Fact.eq (.int .i64 τ)).P (vs 3) wj := hd 3 (by decide)
        clear hd
        simp only [Jo.putl, List.foldl_cons, List.foldl_nil, Act.put, List.setIfInBounds_toArray, List.set_cons_zero, List.set_cons_succ] at hK ⊢
        generalize vs 3 = u3 at hK d3 ⊢
        replace d3 : u3 = _ := d3
        subst d3
        go_simp
        exact hK.out _ _ rfl (Below.refl _ _)
      exact Jo.Steps.nil
    have d0 : (Jo.Fact.eq (.agg #[.int .i64 D, .bool s, .int .u64 M, .int .i64 E])).P (vs 0) w2 := hd 0 (by decide)
    have d1 : (Jo.Fact.eq (.int .i64 σ)).P (vs 1) w2 := hd 1 (by decide)
    have d2 : (Jo.Fact.eq (.agg #[.int .i64 D', .bool s', .int .u64 M', .int .i64 E'])).P (vs 2) w2 := hd 2 (by decide)
    have d3 : (Jo.Fact.eq (.int .i64 τ)).P (vs 3) w2 := hd 3 (by decide)
    have d4 : (Jo.Fact.eq (.int .i64 σ)).P (vs 4) w2 := hd 4 (by decide)
    have d5 : (Jo.Fact.eq (.int .i64 τ)).P (vs 5) w2 := hd 5 (by decide)
    clear hd
    simp only [Jo.putl, List.foldl_cons, List.foldl_nil, Act.put, List.setIfInBounds_toArray, List.set_cons_zero, List.set_cons_succ]
    generalize vs 0 = u0 at d0 ⊢
    generalize vs 1 = u1 at d1 ⊢
    generalize vs 2 = u2 at d2 ⊢
    generalize vs 3 = u3 at d3 ⊢
    generalize vs 4 = u4 at d4 ⊢
    generalize vs 5 = u5 at d5 ⊢
    clear vs
    replace d0 : u0 = _ := d0
    subst d0
    replace d1 : u1 = _ := d1
    subst d1
    replace d2 : u2 = _ := d2
    subst d2
    replace d3 : u3 = _ := d3
    subst d3
    replace d4 : u4 = _ := d4
    subst d4
    replace d5 : u5 = _ := d5
    subst d5
    replace X1 := X1.below hJ
    replace X2 := X2.below hJ
    replace HB := Lib.hid (bt HB.out hJ)
    refine Jo.jdone (by kernel_rfl) ?_
    go_wp2_with fail
    refine (vCmpI _ HZ.out).mono ?_
    rintro ee w3 ⟨rfl, B⟩
    replace X1 := X1.below B
    replace X2 := X2.below B
    replace HB := Lib.hid (bt HB.out B)
    clear B
    go_wp2
    go_ret
    exact ⟨rfl, HB.out⟩
  · obtain rfl : σ = τ := Decidable.not_not.1 he
    have HZ := Lib.hid (hf rfl)
    have HW : Hid (IntKind.i64.wrap (σ * φ) = z) := Lib.hid (by
      rw [hf rfl]
      refine IntWalk.i64_in _ ?_
      rw [← hf rfl]
      rcases (show σ = -1 ∨ σ = 0 ∨ σ = 1 by omega) with h | h | h <;> rw [h] <;> omega)
    clear hs hf he b1 b2
    go_enter Tryd.func26, Tryd.ntmps26
    go_upto_region 1 with (fail)
    have X1 := (Bo.newAt w (g := w.heap.size) (by simp) #[.int .i64 D, .bool s, .int .u64 M, .int .i64 E] 24).below (bel1 _ (.cells #[.int .i64 D', .bool s', .int .u64 M', .int .i64 E'] 24))
    have X2 := (Bo.newAt (w.alloc (.cells #[.int .i64 D, .bool s, .int .u64 M, .int .i64 E] 24)) (g := w.heap.size + 1) (by simp) #[.int .i64 D', .bool s', .int .u64 M', .int .i64 E'] 24)
    have HB := Lib.hid (bel2 w (.cells #[.int .i64 D, .bool s, .int .u64 M, .int .i64 E] 24) (.cells #[.int .i64 D', .bool s', .int .u64 M', .int .i64 E'] 24))
    generalize hW1 : ((w.alloc (.cells #[.int .i64 D, .bool s, .int .u64 M, .int .i64 E] 24)).alloc (.cells #[.int .i64 D', .bool s', .int .u64 M', .int .i64 E'] 24)) = w1 at *
    clear hW1
    refine Jo.region_joint (T := [0, 1, 2, 3, 4, 5]) (ds := [some 7, some 8, some 9, some 10, some 5, some 6]) (ls := [[], [0], [], [2], [1], [3]]) (k := 6) (L := [(some 7, 0), (some 8, 1), (some 9, 2), (some 10, 3), (some 5, 4), (some 6, 5)]) (fuel := 0) (J := fun wj => Below (World.heap w1).size w1 wj)
      (F := [Jo.Fact.eq (.agg #[.int .i64 D, .bool s, .int .u64 M, .int .i64 E]), Jo.Fact.eq (.int .i64 σ), Jo.Fact.eq (.agg #[.int .i64 D', .bool s', .int .u64 M', .int .i64 E']), Jo.Fact.eq (.int .i64 σ), Jo.Fact.eq (.int .i64 σ), Jo.Fact.eq (.int .i64 σ)])
      (by kernel_rfl) (by kernel_rfl) (by decide) rfl rfl (fun _ _ h b => bt h b) ((Below.refl _ _).drew) ?_ (fun vs w2 hJ hd => ?_)
    · refine Jo.jcons (i := 0) (o := ⟨some 7, _, _, _, _, _⟩) (di := some 7) (L := []) (f := Jo.Fact.eq (.agg #[.int .i64 D, .bool s, .int .u64 M, .int .i64 E])) rfl rfl rfl rfl (fun vs wj hJ hd K hK => ?_) ?_
      · clear hd
        simp only [Jo.putl, List.foldl_nil, Act.put, List.setIfInBounds_toArray, List.set_cons_zero, List.set_cons_succ] at hK ⊢
        have xX10 : World.cell? wj ⟨w.heap.size, 0, none⟩ = some (.int .i64 D) := (X1.below hJ).cell 0
        have xX11 : World.cell? wj ⟨w.heap.size, 1, none⟩ = some (.bool s) := (X1.below hJ).cell 1
        have xX12 : World.cell? wj ⟨w.heap.size, 2, none⟩ = some (.int .u64 M) := (X1.below hJ).cell 2
        have xX13 : World.cell? wj ⟨w.heap.size, 3, none⟩ = some (.int .i64 E) := (X1.below hJ).cell 3
        go_simp
        exact hK.out _ _ rfl (Below.refl _ _)
      refine Jo.jcons (i := 1) (o := ⟨some 8, _, _, _, _, _⟩) (di := some 8) (L := [(some 7, 0)]) (f := Jo.Fact.eq (.int .i64 σ)) rfl rfl rfl rfl (fun vs wj hJ hd K hK => ?_) ?_
      · have d0 : (Jo.Fact.eq (.agg #[.int .i64 D, .bool s, .int .u64 M, .int .i64 E])).P (vs 0) wj := hd 0 (by decide)
        clear hd
        simp only [Jo.putl, List.foldl_cons, List.foldl_nil, Act.put, List.setIfInBounds_toArray, List.set_cons_zero, List.set_cons_succ] at hK ⊢
        generalize vs 0 = u0 at hK d0 ⊢
        replace d0 : u0 = _ := d0
        subst d0
        go_simp
        refine (nSign hM HS.out).mono ?_
        rintro ee wk ⟨rfl, B⟩
        exact hK.out _ _ rfl B
      refine Jo.jcons (i := 2) (o := ⟨some 9, _, _, _, _, _⟩) (di := some 9) (L := []) (f := Jo.Fact.eq (.agg #[.int .i64 D', .bool s', .int .u64 M', .int .i64 E'])) rfl rfl rfl rfl (fun vs wj hJ hd K hK => ?_) ?_
      · clear hd
        simp only [Jo.putl, List.foldl_nil, Act.put, List.setIfInBounds_toArray, List.set_cons_zero, List.set_cons_succ] at hK ⊢
        have xX20 : World.cell? wj ⟨w.heap.size + 1, 0, none⟩ = some (.int .i64 D') := (X2.below hJ).cell 0
        have xX21 : World.cell? wj ⟨w.heap.size + 1, 1, none⟩ = some (.bool s') := (X2.below hJ).cell 1
        have xX22 : World.cell? wj ⟨w.heap.size + 1, 2, none⟩ = some (.int .u64 M') := (X2.below hJ).cell 2
        have xX23 : World.cell? wj ⟨w.heap.size + 1, 3, none⟩ = some (.int .i64 E') := (X2.below hJ).cell 3
        go_simp
        exact hK.out _ _ rfl (Below.refl _ _)
      refine Jo.jcons (i := 3) (o := ⟨some 10, _, _, _, _, _⟩) (di := some 10) (L := [(some 9, 2)]) (f := Jo.Fact.eq (.int .i64 σ)) rfl rfl rfl rfl (fun vs wj hJ hd K hK => ?_) ?_
      · have d2 : (Jo.Fact.eq (.agg #[.int .i64 D', .bool s', .int .u64 M', .int .i64 E'])).P (vs 2) wj := hd 2 (by decide)
        clear hd
        simp only [Jo.putl, List.foldl_cons, List.foldl_nil, Act.put, List.setIfInBounds_toArray, List.set_cons_zero, List.set_cons_succ] at hK ⊢
        generalize vs 2 = u2 at hK d2 ⊢
        replace d2 : u2 = _ := d2
        subst d2
        go_simp
        refine (nSign hM' HT.out).mono ?_
        rintro ee wk ⟨rfl, B⟩
        exact hK.out _ _ rfl B
      refine Jo.jcons (i := 4) (o := ⟨some 5, _, _, _, _, _⟩) (di := some 5) (L := [(some 8, 1)]) (f := Jo.Fact.eq (.int .i64 σ)) rfl rfl rfl rfl (fun vs wj hJ hd K hK => ?_) ?_
      · have d1 : (Jo.Fact.eq (.int .i64 σ)).P (vs 1) wj := hd 1 (by decide)
        clear hd
        simp only [Jo.putl, List.foldl_cons, List.foldl_nil, Act.put, List.setIfInBounds_toArray, List.set_cons_zero, List.set_cons_succ] at hK ⊢
        generalize vs 1 = u1 at hK d1 ⊢
        replace d1 : u1 = _ := d1
        subst d1
        go_simp
        exact hK.out _ _ rfl (Below.refl _ _)
      refine Jo.jcons (i := 5) (o := ⟨some 6, _, _, _, _, _⟩) (di := some 6) (L := [(some 10, 3)]) (f := Jo.Fact.eq (.int .i64 σ)) rfl rfl rfl rfl (fun vs wj hJ hd K hK => ?_) ?_
      · have d3 : (Jo.Fact.eq (.int .i64 σ)).P (vs 3) wj := hd 3 (by decide)
        clear hd
        simp only [Jo.putl, List.foldl_cons, List.foldl_nil, Act.put, List.setIfInBounds_toArray, List.set_cons_zero, List.set_cons_succ] at hK ⊢
        generalize vs 3 = u3 at hK d3 ⊢
        replace d3 : u3 = _ := d3
        subst d3
        go_simp
        exact hK.out _ _ rfl (Below.refl _ _)
      exact Jo.Steps.nil
    have d0 : (Jo.Fact.eq (.agg #[.int .i64 D, .bool s, .int .u64 M, .int .i64 E])).P (vs 0) w2 := hd 0 (by decide)
    have d1 : (Jo.Fact.eq (.int .i64 σ)).P (vs 1) w2 := hd 1 (by decide)
    have d2 : (Jo.Fact.eq (.agg #[.int .i64 D', .bool s', .int .u64 M', .int .i64 E'])).P (vs 2) w2 := hd 2 (by decide)
    have d3 : (Jo.Fact.eq (.int .i64 σ)).P (vs 3) w2 := hd 3 (by decide)
    have d4 : (Jo.Fact.eq (.int .i64 σ)).P (vs 4) w2 := hd 4 (by decide)
    have d5 : (Jo.Fact.eq (.int .i64 σ)).P (vs 5) w2 := hd 5 (by decide)
    clear hd
    simp only [Jo.putl, List.foldl_cons, List.foldl_nil, Act.put, List.setIfInBounds_toArray, List.set_cons_zero, List.set_cons_succ]
    generalize vs 0 = u0 at d0 ⊢
    generalize vs 1 = u1 at d1 ⊢
    generalize vs 2 = u2 at d2 ⊢
    generalize vs 3 = u3 at d3 ⊢
    generalize vs 4 = u4 at d4 ⊢
    generalize vs 5 = u5 at d5 ⊢
    clear vs
    replace d0 : u0 = _ := d0
    subst d0
    replace d1 : u1 = _ := d1
    subst d1
    replace d2 : u2 = _ := d2
    subst d2
    replace d3 : u3 = _ := d3
    subst d3
    replace d4 : u4 = _ := d4
    subst d4
    replace d5 : u5 = _ := d5
    subst d5
    replace X1 := X1.below hJ
    replace X2 := X2.below hJ
    replace HB := Lib.hid (bt HB.out hJ)
    refine Jo.jdone (by kernel_rfl) ?_
    have xX10 := X1.at (i := 0) (v := .int .i64 D) rfl
    have xX11 := X1.at (i := 1) (v := .bool s) rfl
    have xX12 := X1.at (i := 2) (v := .int .u64 M) rfl
    have xX13 := X1.at (i := 3) (v := .int .i64 E) rfl
    have xX20 := X2.at (i := 0) (v := .int .i64 D') rfl
    have xX21 := X2.at (i := 1) (v := .bool s') rfl
    have xX22 := X2.at (i := 2) (v := .int .u64 M') rfl
    have xX23 := X2.at (i := 3) (v := .int .i64 E') rfl
    go_wp2_with fail
    refine (nFar HF.out).mono ?_
    rintro ee w3 ⟨rfl, B⟩
    clear xX10 xX11 xX12 xX13 xX20 xX21 xX22 xX23
    replace X1 := X1.below B
    replace X2 := X2.below B
    replace HB := Lib.hid (bt HB.out B)
    clear B
    have hw := HW.out
    go_wp2
    go_ret
    exact ⟨rfl, HB.out⟩
end Go.Proofs.YtbhnpmkdmnnclaaDoor

/-
  Contracts and words that the statement's proof rests on, several texts in one: Cc, Ck, Fp.
-/
import Derived.Below
import Derived.BigQuiet
import Derived.Carry
import Derived.Deep.DeepCutAuto
import Derived.Deep.Draws
import Derived.Deep.MidRow
import Derived.Deep.QuietTactic
import Derived.Deep.RegionHeld3
import Derived.Deep.RegionWith
import Derived.IntWalk
import Derived.Laws.Bits64b
import Derived.Laws.CopyOwn
import Derived.Laws.Externs
import Derived.Laws.MakeOwn
import Derived.Laws.OwnMore
import Derived.Laws.Rows
import Derived.Lib.BitFns
import Derived.Lib.Hide
import Derived.Lib.Mul64
import Derived.Lib.TrailingZeros
import Derived.Maps.AppendAt
import Derived.StillTailTactics
import Derived.Test.YteejbcimmmcnlaaGreatDoorRows
import Derived.WalkKit
import Derived.WalkLawsBesides
import Derived.WalkSpells
import Derived.Test.YteejbcimmmcnlaaGreatDoorYCau
import Derived.Test.YteejbcimmmcnlaaGreatDoorYCaz
import Derived.Test.YteejbcimmmcnlaaGreatDoorYCbf
/-
  The cells of an interval, and what it is taken for.
-/
namespace Go.Proofs.YteejbcimmmcnlaaGreatDoor
open Go.RowKit
set_option linter.unusedVariables false

theorem StN.trans {w w' w'' : World} {g : Nat} {a b c : Array Value} {T : TypeId} (h : StN w w' g a b T) (k : StN w' w'' g b c T) : StN w w'' g a c T :=
  ⟨h.1, k.2.1, fun j hj => (k.2.2.1 j hj).trans (h.2.2.1 j hj), fun B x hB hb => k.2.2.2 B x hB (h.2.2.2 B x hB hb)⟩
theorem StN.mk9 {w : World} {g : Nat} {T : TypeId} {a0 a1 a2 a3 a4 a5 a6 a7 a8 : Value} (X : Bo w g #[a0, a1, a2, a3, a4, a5, a6, a7, a8] T) (v0 v1 v2 v3 v4 v5 v6 v7 v8 : Value) :
    StN w (((((((((w.setCell ⟨g, 0, none⟩ v0).setCell ⟨g, 1, none⟩ v1).setCell ⟨g, 2, none⟩ v2).setCell ⟨g, 3, none⟩ v3).setCell ⟨g, 4, none⟩ v4).setCell ⟨g, 5, none⟩ v5).setCell ⟨g, 6, none⟩ v6).setCell ⟨g, 7, none⟩ v7).setCell ⟨g, 8, none⟩ v8) g #[a0, a1, a2, a3, a4, a5, a6, a7, a8] #[v0, v1, v2, v3, v4, v5, v6, v7, v8] T := by
  have t0 : StN w (w.setCell ⟨g, 0, none⟩ v0) g #[a0, a1, a2, a3, a4, a5, a6, a7, a8] #[v0, a1, a2, a3, a4, a5, a6, a7, a8] T := StN.at4 X 0 v0
  have s0 := t0
  have t1 : StN (w.setCell ⟨g, 0, none⟩ v0) ((w.setCell ⟨g, 0, none⟩ v0).setCell ⟨g, 1, none⟩ v1) g #[v0, a1, a2, a3, a4, a5, a6, a7, a8] #[v0, v1, a2, a3, a4, a5, a6, a7, a8] T := StN.at4 s0.box 1 v1
  have s1 := s0.trans t1
  have t2 : StN ((w.setCell ⟨g, 0, none⟩ v0).setCell ⟨g, 1, none⟩ v1) (((w.setCell ⟨g, 0, none⟩ v0).setCell ⟨g, 1, none⟩ v1).setCell ⟨g, 2, none⟩ v2) g #[v0, v1, a2, a3, a4, a5, a6, a7, a8] #[v0, v1, v2, a3, a4, a5, a6, a7, a8] T := StN.at4 s1.box 2 v2
  have s2 := s1.trans t2
  have t3 : StN (((w.setCell ⟨g, 0, none⟩ v0).setCell ⟨g, 1, none⟩ v1).setCell ⟨g, 2, none⟩ v2) ((((w.setCell ⟨g, 0, none⟩ v0).setCell ⟨g, 1, none⟩ v1).setCell ⟨g, 2, none⟩ v2).setCell ⟨g, 3, none⟩ v3) g #[v0, v1, v2, a3, a4, a5, a6, a7, a8] #[v0, v1, v2, v3, a4, a5, a6, a7, a8] T := StN.at4 s2.box 3 v3
  have s3 := s2.trans t3
  have t4 : StN ((((w.setCell ⟨g, 0, none⟩ v0).setCell ⟨g, 1, none⟩ v1).setCell ⟨g, 2, none⟩ v2).setCell ⟨g, 3, none⟩ v3) (((((w.setCell ⟨g, 0, none⟩ v0).setCell ⟨g, 1, none⟩ v1).setCell ⟨g, 2, none⟩ v2).setCell ⟨g, 3, none⟩ v3).setCell ⟨g, 4, none⟩ v4) g #[v0, v1, v2, v3, a4, a5, a6, a7, a8] #[v0, v1, v2, v3, v4, a5, a6, a7, a8] T := StN.at4 s3.box 4 v4
  have s4 := s3.trans t4
  have t5 : StN (((((w.setCell ⟨g, 0, none⟩ v0).setCell ⟨g, 1, none⟩ v1).setCell ⟨g, 2, none⟩ v2).setCell ⟨g, 3, none⟩ v3).setCell ⟨g, 4, none⟩ v4) ((((((w.setCell ⟨g, 0, none⟩ v0).setCell ⟨g, 1, none⟩ v1).setCell ⟨g, 2, none⟩ v2).setCell ⟨g, 3, none⟩ v3).setCell ⟨g, 4, none⟩ v4).setCell ⟨g, 5, none⟩ v5) g #[v0, v1, v2, v3, v4, a5, a6, a7, a8] #[v0, v1, v2, v3, v4, v5, a6, a7, a8] T := StN.at4 s4.box 5 v5
  have s5 := s4.trans t5
  have t6 : StN ((((((w.setCell ⟨g, 0, none⟩ v0).setCell ⟨g, 1, none⟩ v1).setCell ⟨g, 2, none⟩ v2).setCell ⟨g, 3, none⟩ v3).setCell ⟨g, 4, none⟩ v4).setCell ⟨g, 5, none⟩ v5) (((((((w.setCell ⟨g, 0, none⟩ v0).setCell ⟨g, 1, none⟩ v1).setCell ⟨g, 2, none⟩ v2).setCell ⟨g, 3, none⟩ v3).setCell ⟨g, 4, none⟩ v4).setCell ⟨g, 5, none⟩ v5).setCell ⟨g, 6, none⟩ v6) g #[v0, v1, v2, v3, v4, v5, a6, a7, a8] #[v0, v1, v2, v3, v4, v5, v6, a7, a8] T := StN.at4 s5.box 6 v6
  have s6 := s5.trans t6
  have t7 : StN (((((((w.setCell ⟨g, 0, none⟩ v0).setCell ⟨g, 1, none⟩ v1).setCell ⟨g, 2, none⟩ v2).setCell ⟨g, 3, none⟩ v3).setCell ⟨g, 4, none⟩ v4).setCell ⟨g, 5, none⟩ v5).setCell ⟨g, 6, none⟩ v6) ((((((((w.setCell ⟨g, 0, none⟩ v0).setCell ⟨g, 1, none⟩ v1).setCell ⟨g, 2, none⟩ v2).setCell ⟨g, 3, none⟩ v3).setCell ⟨g, 4, none⟩ v4).setCell ⟨g, 5, none⟩ v5).setCell ⟨g, 6, none⟩ v6).setCell ⟨g, 7, none⟩ v7) g #[v0, v1, v2, v3, v4, v5, v6, a7, a8] #[v0, v1, v2, v3, v4, v5, v6, v7, a8] T := StN.at4 s6.box 7 v7
  have s7 := s6.trans t7
  have t8 : StN ((((((((w.setCell ⟨g, 0, none⟩ v0).setCell ⟨g, 1, none⟩ v1).setCell ⟨g, 2, none⟩ v2).setCell ⟨g, 3, none⟩ v3).setCell ⟨g, 4, none⟩ v4).setCell ⟨g, 5, none⟩ v5).setCell ⟨g, 6, none⟩ v6).setCell ⟨g, 7, none⟩ v7) (((((((((w.setCell ⟨g, 0, none⟩ v0).setCell ⟨g, 1, none⟩ v1).setCell ⟨g, 2, none⟩ v2).setCell ⟨g, 3, none⟩ v3).setCell ⟨g, 4, none⟩ v4).setCell ⟨g, 5, none⟩ v5).setCell ⟨g, 6, none⟩ v6).setCell ⟨g, 7, none⟩ v7).setCell ⟨g, 8, none⟩ v8) g #[v0, v1, v2, v3, v4, v5, v6, v7, a8] #[v0, v1, v2, v3, v4, v5, v6, v7, v8] T := StN.at4 s7.box 8 v8
  have s8 := s7.trans t8; exact s8
/-- The cells of an interval that may be, and which one it is. -/
def Ci (e : Bool) (K : Int) (s : Bool) (M E K' : Int) (s' : Bool) (M' E' : Int) : Sp → Prop
  | none => e = true ∧ Fq K s M E 0 ∧ Fq K' s' M' E' 0
  | some (a, b) => e = false ∧ Fq K s M E a ∧ Fq K' s' M' E' b ∧ a ≤ b ∧ a < 19342822337206103650074625 ∧ -19342822337206103650074625 < b
section
variable {e e2 : Bool} {K M E K' M' E' K2 M2 E2 K2' M2' E2' : Int} {s s' s2 s2' : Bool} {x y : Sp}
theorem Ci.ok (h : Ci e K s M E K' s' M' E' x) : SpOk x := by
  rcases x with _ | ⟨a, b⟩
  · exact trivial
  · obtain ⟨_, q1, q2, h1, h2, h3⟩ := h; exact ⟨q1.bd.1, h1, q2.bd.2, h2, h3⟩
theorem Ci.top (h : Ci e K s M E K' s' M' E' x) : M < 18446744073709551616 ∧ M' < 18446744073709551616 := by
  rcases x with _ | ⟨a, b⟩
  · exact ⟨h.2.1.top, h.2.2.top⟩
  · exact ⟨h.2.1.top, h.2.2.1.top⟩
theorem Ci.uniq (h : Ci e K s M E K' s' M' E' x) (k : Ci e2 K2 s2 M2 E2 K2' s2' M2' E2' x) : e = e2 ∧ K = K2 ∧ s = s2 ∧ M = M2 ∧ E = E2 ∧ K' = K2' ∧ s' = s2' ∧ M' = M2' ∧ E' = E2' := by
  rcases x with _ | ⟨a, b⟩
  · obtain ⟨h1, q1, q2⟩ := h; obtain ⟨k1, p1, p2⟩ := k; obtain ⟨c1, c2, c3, c4⟩ := q1.uniq p1; obtain ⟨d1, d2, d3, d4⟩ := q2.uniq p2; exact ⟨h1.trans k1.symm, c1, c2, c3, c4, d1, d2, d3, d4⟩
  · obtain ⟨h1, q1, q2, _⟩ := h; obtain ⟨k1, p1, p2, _⟩ := k; obtain ⟨c1, c2, c3, c4⟩ := q1.uniq p1; obtain ⟨d1, d2, d3, d4⟩ := q2.uniq p2; exact ⟨h1.trans k1.symm, c1, c2, c3, c4, d1, d2, d3, d4⟩
theorem Ci.fn (h : Ci e K s M E K' s' M' E' x) (k : Ci e K s M E K' s' M' E' y) : x = y := by
  rcases x with _ | ⟨a, b⟩ <;> rcases y with _ | ⟨c, d⟩
  · rfl
  · have := h.1.symm.trans k.1
    cases this
  · have := h.1.symm.trans k.1
    cases this
  · rw [← h.2.1.rk, ← h.2.2.1.rk, ← k.2.1.rk, ← k.2.2.1.rk]
end
theorem Ci.none : Ci true 0 false 0 0 0 false 0 0 none := ⟨rfl, Fq.nought, Fq.nought⟩
/-- What an interval is taken for, whatever its cells. -/
def rkI (e : Bool) (K : Int) (s : Bool) (M E K' : Int) (s' : Bool) (M' E' : Int) : Sp := if e = true then none else if MayQ K s M E ∧ MayQ K' s' M' E' then mkI (rk K s M E) (rk K' s' M' E') else none
/-- Whether it may be. -/
def mayI (e : Bool) (K : Int) (s : Bool) (M E K' : Int) (s' : Bool) (M' E' : Int) : Bool := if e = true then (decide (K = 0 ∧ s = false ∧ M = 0 ∧ E = 0) && decide (K' = 0 ∧ s' = false ∧ M' = 0 ∧ E' = 0)) else decide (rkI e K s M E K' s' M' E' ≠ none)
section
variable {e : Bool} {K M E K' M' E' : Int} {s s' : Bool} {x : Sp}
theorem rkI_t : rkI true K s M E K' s' M' E' = none := if_pos rfl
theorem rkI_f : rkI false K s M E K' s' M' E' = if MayQ K s M E ∧ MayQ K' s' M' E' then mkI (rk K s M E) (rk K' s' M' E') else none := if_neg ff
theorem rkI_ok (hM : M < 18446744073709551616) (hM' : M' < 18446744073709551616) : SpOk (rkI e K s M E K' s' M' E') := by
  cases e
  · rw [rkI_f]
    by_cases h : MayQ K s M E ∧ MayQ K' s' M' E'
    · rw [if_pos h]; exact mkI_ok (rk_fq hM h.1).bd.1 (rk_fq hM' h.2).bd.2
    · rw [if_neg h]; exact trivial
  · exact trivial
theorem mayI_ci (hM : M < 18446744073709551616) (hM' : M' < 18446744073709551616) (h : mayI e K s M E K' s' M' E' = true) : Ci e K s M E K' s' M' E' (rkI e K s M E K' s' M' E') := by
  unfold mayI at h
  cases e
  · rw [if_neg ff, decide_eq_true_iff] at h; rw [rkI_f] at h ⊢
    by_cases hq : MayQ K s M E ∧ MayQ K' s' M' E'
    · rw [if_pos hq] at h ⊢
      by_cases hc : rk K s M E ≤ rk K' s' M' E' ∧ rk K s M E < 19342822337206103650074625 ∧ -19342822337206103650074625 < rk K' s' M' E'
      · rw [mkI_some hc.1 hc.2.1 hc.2.2]; exact ⟨rfl, rk_fq hM hq.1, rk_fq hM' hq.2, hc⟩
      · exact absurd (mkI_none hc) h
    · rw [if_neg hq] at h; exact absurd rfl h
  · rw [if_pos rfl, Bool.and_eq_true, decide_eq_true_iff, decide_eq_true_iff] at h; obtain ⟨⟨rfl, rfl, rfl, rfl⟩, rfl, rfl, rfl, rfl⟩ := h; exact Ci.none
theorem mayI_no (h : mayI e K s M E K' s' M' E' = false) : rkI e K s M E K' s' M' E' = none := by
  cases e
  · unfold mayI at h
    rw [if_neg ff, decide_eq_false_iff_not] at h; exact Decidable.not_not.1 h
  · exact rkI_t
theorem Ci.rk (h : Ci e K s M E K' s' M' E' x) : rkI e K s M E K' s' M' E' = x := by
  rcases x with _ | ⟨a, b⟩
  · obtain ⟨rfl, _⟩ := h; exact rkI_t
  · obtain ⟨rfl, q1, q2, h1, h2, h3⟩ := h; rw [rkI_f, if_pos ⟨q1.1, q2.1⟩, q1.rk, q2.rk, mkI_some h1 h2 h3]
theorem Ci.may (h : Ci e K s M E K' s' M' E' x) : mayI e K s M E K' s' M' E' = true := by
  have hr := h.rk
  unfold mayI
  rcases x with _ | ⟨a, b⟩
  · obtain ⟨rfl, q1, q2⟩ := h; obtain ⟨rfl, rfl, rfl, rfl⟩ := q1.uniq Fq.nought; obtain ⟨rfl, rfl, rfl, rfl⟩ := q2.uniq Fq.nought
    rfl
  · obtain ⟨rfl, _⟩ := h; rw [if_neg ff, hr]
    rfl
end
/-- An interval is answered. -/
def PV (w : World) (x : Sp) (e : Ending) (w' : World) : Prop := ∃ e0 K s M E K' s' M' E', e = .returned (.agg #[.bool e0, .int .i64 K, .bool s, .int .u64 M, .int .i64 E, .int .i64 K', .bool s', .int .u64 M', .int .i64 E']) ∧ Ci e0 K s M E K' s' M' E' x ∧ Below w.heap.size w w'
def Jo.Fact.iv (x : Sp) : Jo.Fact := ⟨fun v w => ∃ e0 K s M E K' s' M' E', v = .agg #[.bool e0, .int .i64 K, .bool s, .int .u64 M, .int .i64 E, .int .i64 K', .bool s', .int .u64 M', .int .i64 E'] ∧ Ci e0 K s M E K' s' M' E' x, fun v w w' h b => h⟩
/-- A slice of intervals, as they came in; what they are taken for is l. -/
def Il8 (w : World) (A : Option Addr) (n c : Nat) (l : List Sp) : Prop :=
  l.length = n ∧ n ≤ c ∧ n ≤ 1099511627776 ∧ (0 < n → ∃ b o, A = some ⟨b, o, none⟩ ∧ ∀ k, k < n → ∃ e K s M E K' s' M' E', w.cell? ⟨b, o + k * 9, none⟩ = some (.bool e) ∧ w.cell? ⟨b, o + k * 9 + 1, none⟩ = some (.int .i64 K) ∧ w.cell? ⟨b, o + k * 9 + 2, none⟩ = some (.bool s) ∧ w.cell? ⟨b, o + k * 9 + 3, none⟩ = some (.int .u64 M) ∧ w.cell? ⟨b, o + k * 9 + 4, none⟩ = some (.int .i64 E) ∧ w.cell? ⟨b, o + k * 9 + 5, none⟩ = some (.int .i64 K') ∧ w.cell? ⟨b, o + k * 9 + 6, none⟩ = some (.bool s') ∧ w.cell? ⟨b, o + k * 9 + 7, none⟩ = some (.int .u64 M') ∧ w.cell? ⟨b, o + k * 9 + 8, none⟩ = some (.int .i64 E') ∧ M < 18446744073709551616 ∧ M' < 18446744073709551616 ∧ rkI e K s M E K' s' M' E' = l.getD k none)
theorem Il8.below {w w' : World} {A : Option Addr} {n c : Nat} {l : List Sp} (h : Il8 w A n c l) (hb : Below w.heap.size w w') : Il8 w' A n c l := by
  obtain ⟨h1, h2, h3, h4⟩ := h
  refine ⟨h1, h2, h3, fun hn => ?_⟩
  obtain ⟨b, o, e, hc⟩ := h4 hn
  refine ⟨b, o, e, fun k hk => ?_⟩
  obtain ⟨e, K, s, M, E, K', s', M', E', c0, c1, c2, c3, c4, c5, c6, c7, c8, hM, hM', hr⟩ := hc k hk
  have t : ∀ {i : Nat} {v : Value}, w.cell? ⟨b, i, none⟩ = some v → w'.cell? ⟨b, i, none⟩ = some v := fun c => (hb.cell (p := ⟨b, _, none⟩) (block_lt_of_cell c)).trans c
  exact ⟨e, K, s, M, E, K', s', M', E', t c0, t c1, t c2, t c3, t c4, t c5, t c6, t c7, t c8, hM, hM', hr⟩
theorem Il8.ok {w : World} {A : Option Addr} {n c : Nat} {l : List Sp} (h : Il8 w A n c l) : ∀ y ∈ l, SpOk y := by
  intro y hy
  obtain ⟨k, hk, e⟩ := List.getElem_of_mem hy; obtain ⟨h1, h2, h3, h4⟩ := h; obtain ⟨b, o, _, hc⟩ := h4 (by omega); obtain ⟨e0, K, s, M, E, K', s', M', E', _, _, _, _, _, _, _, _, _, hM, hM', hr⟩ := hc k (by omega)
  have : l.getD k none = y := by
    rw [List.getD_eq_getElem?_getD, List.getElem?_eq_getElem hk, e]
    rfl
  rw [← this, ← hr]; exact rkI_ok hM hM'
end Go.Proofs.YteejbcimmmcnlaaGreatDoor
namespace Go.Proofs.YteejbcimmmcnlaaGreatDoor
open Go.RowKit
set_option linter.unusedVariables false
theorem StN.of9 {w w1 : World} {g : Nat} {T : TypeId} {a0 a1 a2 a3 a4 a5 a6 a7 a8 v0 v1 v2 v3 v4 v5 v6 v7 v8 : Value} (X : Bo w g #[a0, a1, a2, a3, a4, a5, a6, a7, a8] T) (h : ((((((((w.setCell ⟨g, 0, none⟩ v0).setCell ⟨g, 1, none⟩ v1).setCell ⟨g, 2, none⟩ v2).setCell ⟨g, 3, none⟩ v3).setCell ⟨g, 4, none⟩ v4).setCell ⟨g, 5, none⟩ v5).setCell ⟨g, 6, none⟩ v6).setCell ⟨g, 7, none⟩ v7).setCell ⟨g, 8, none⟩ v8 = w1) : StN w w1 g #[a0, a1, a2, a3, a4, a5, a6, a7, a8] #[v0, v1, v2, v3, v4, v5, v6, v7, v8] T := h ▸ StN.mk9 X v0 v1 v2 v3 v4 v5 v6 v7 v8
end Go.Proofs.YteejbcimmmcnlaaGreatDoor

/-
  The lower and the upper ends of many intervals, what they have together and their hull by these. Plain; no Go text.
-/
namespace Go.Proofs.YteejbcimmmcnlaaGreatDoor
open Go.RowKit
set_option linter.unusedVariables false

/-- The ends of one: none of the empty one. -/
def lo1 : Sp → List Int
  | none => []
  | some (a, _) => [a]
def hi1 : Sp → List Int
  | none => []
  | some (_, b) => [b]
def lowL : List Sp → List Int
  | [] => []
  | x :: l => lo1 x ++ lowL l
def highL : List Sp → List Int
  | [] => []
  | x :: l => hi1 x ++ highL l
theorem lowL_append : ∀ (l m : List Sp), lowL (l ++ m) = lowL l ++ lowL m
  | [], m => rfl
  | x :: l, m => by
    show lo1 x ++ lowL (l ++ m) = (lo1 x ++ lowL l) ++ lowL m
    rw [lowL_append l m, List.append_assoc]
theorem highL_append : ∀ (l m : List Sp), highL (l ++ m) = highL l ++ highL m
  | [], m => rfl
  | x :: l, m => by
    show hi1 x ++ highL (l ++ m) = (hi1 x ++ highL l) ++ highL m
    rw [highL_append l m, List.append_assoc]
theorem lowL_take {l : List Sp} {k : Nat} (h : k < l.length) : lowL (l.take (k + 1)) = lowL (l.take k) ++ lo1 (l.getD k none) := by
  rw [List.take_succ_eq_append_getElem h, lowL_append, List.getD_eq_getElem?_getD, List.getElem?_eq_getElem h]; exact congrArg _ (List.append_nil _)
theorem highL_take {l : List Sp} {k : Nat} (h : k < l.length) : highL (l.take (k + 1)) = highL (l.take k) ++ hi1 (l.getD k none) := by
  rw [List.take_succ_eq_append_getElem h, highL_append, List.getD_eq_getElem?_getD, List.getElem?_eq_getElem h]; exact congrArg _ (List.append_nil _)
/-- A row of numbers, by their cells. -/
def nrow : List (Int × Bool × Int × Int) → List Value
  | [] => []
  | (K, s, M, E) :: l => .int .i64 K :: .bool s :: .int .u64 M :: .int .i64 E :: nrow l
theorem nrow_append : ∀ l m, nrow (l ++ m) = nrow l ++ nrow m
  | [], m => rfl
  | (K, s, M, E) :: l, m => by
    show _ :: _ :: _ :: _ :: nrow (l ++ m) = _
    rw [nrow_append l m]
    rfl
theorem nrow_at : ∀ (l : List (Int × Bool × Int × Int)) (k : Nat) (K : Int) (s : Bool) (M E : Int), l[k]? = some (K, s, M, E) → (nrow l)[k * 4]? = some (.int .i64 K) ∧ (nrow l)[k * 4 + 1]? = some (.bool s) ∧ (nrow l)[k * 4 + 2]? = some (.int .u64 M) ∧ (nrow l)[k * 4 + 3]? = some (.int .i64 E)
  | [], k, _, _, _, _, h => by cases h
  | (K, s, M, E) :: l, 0, _, _, _, _, h => by
    cases h
    exact ⟨rfl, rfl, rfl, rfl⟩
  | (K, s, M, E) :: l, k + 1, K2, s2, M2, E2, h => by
    have := nrow_at l k K2 s2 M2 E2 h
    have e : (k + 1) * 4 = k * 4 + 4 := by omega
    rw [e]; exact this
/-- A slice of numbers of the call's own, that may be appended to; their places are l. -/
def Na (w : World) (base : Nat) (A : Option Addr) (n c : Nat) (l : List Int) : Prop :=
  ∃ r : List (Int × Bool × Int × Int), w.ownsRow base 24 4 (.slice A n c) n (nrow r) ∧ r.length = n ∧ l.length = n ∧ ∀ k, k < n → ∃ K s M E, r[k]? = some (K, s, M, E) ∧ Fq K s M E (l.getD k 0)
theorem Na.nil (w : World) (base : Nat) : Na w base none 0 0 [] := ⟨[], World.ownsRow_nil w base _ 4, rfl, rfl, fun k h => absurd h (Nat.not_lt_zero _)⟩
/-- It lies below, so nothing above changes it. -/
theorem Na.below {w w' : World} {base n c : Nat} {A : Option Addr} {l : List Int} (h : Na w base A n c l) (hb : Below w.heap.size w w') : Na w' base A n c l := by
  obtain ⟨r, h1, h2⟩ := h; refine ⟨r, ⟨h1.1, ?_⟩, h2⟩
  rcases h1.2 with h3 | ⟨g, cap, cur, hv, hg, hh, q⟩
  · exact .inl h3
  · refine .inr ⟨g, cap, cur, hv, hg, ?_, q⟩; rw [hb.block g (Array.getElem?_eq_some_iff.1 hh).1]; exact hh
/-- It reads as a slice. -/
theorem Na.nl {w : World} {base n c : Nat} {A : Option Addr} {l : List Int} (h : Na w base A n c l) (hn : n ≤ 1099511627776) : Nl w A n c l := by
  obtain ⟨r, h1, h2, h3, h4⟩ := h
  rcases h1.2 with ⟨e1, e2⟩ | ⟨g, cap, cur, hv, hg, hh, hc, hm, hs, ht⟩
  · injection e1 with a1 a2 a3
    subst a1; subst a2; subst a3
    exact ⟨h3, Nat.le_refl _, by omega, fun h => absurd h (Nat.lt_irrefl _)⟩
  · injection hv with a1 a2 a3
    subst a1; subst a3
    refine ⟨h3, hc, hn, fun _ => ⟨g, 0, rfl, fun k hk => ?_⟩⟩
    obtain ⟨K, s, M, E, hr, q⟩ := h4 k hk; obtain ⟨c0, c1, c2, c3⟩ := nrow_at r k K s M E hr
    have cell : ∀ j v, (nrow r)[j]? = some v → w.cell? ⟨g, 0 + j, none⟩ = some v := by
      intro j v hv
      rw [cell_of_row w g (0 + j) _ _ (0, 0) hh, Nat.zero_add, ← Array.getElem?_toList]; rw [← ht, List.getElem?_take] at hv
      split at hv
      · exact hv
      · cases hv
    exact ⟨K, s, M, E, cell _ _ c0, by rw [Nat.add_assoc]; exact cell _ _ c1, by rw [Nat.add_assoc]; exact cell _ _ c2, by rw [Nat.add_assoc]; exact cell _ _ c3, q.top, q.rk⟩
end Go.Proofs.YteejbcimmmcnlaaGreatDoor

/-
  Sums of many intervals by the sums of their ends; which lists have an empty one. Plain arithmetic; no Go text.
-/
namespace Go.Proofs.YteejbcimmmcnlaaGreatDoor
open Go.RowKit
set_option linter.unusedVariables false

def gone : List Sp → Bool
  | [] => false
  | none :: _ => true
  | some _ :: l => gone l
theorem gone_at : ∀ {l : List Sp} {k : Nat}, k < l.length → l.getD k none = none → gone l = true
  | none :: _, _, _, _ => rfl
  | some _ :: l, 0, _, e => by cases e
  | some _ :: l, k + 1, h, e => gone_at (l := l) (k := k) (Nat.lt_of_succ_lt_succ h) e
theorem gone_no : ∀ {l : List Sp}, (∀ k, k < l.length → l.getD k none ≠ none) → gone l = false
  | [], _ => rfl
  | none :: l, h => absurd rfl (h 0 (Nat.succ_pos _))
  | some _ :: l, h => gone_no (l := l) fun k hk => h (k + 1) (Nat.succ_lt_succ hk)
theorem gone_get : ∀ {l : List Sp} {k : Nat}, gone l = false → k < l.length → ∃ a b, l.getD k none = some (a, b)
  | none :: _, _, h, _ => by cases h
  | some (a, b) :: l, 0, _, _ => ⟨a, b, rfl⟩
  | some _ :: l, k + 1, h, hk => gone_get (l := l) (k := k) h (Nat.lt_of_succ_lt_succ hk)
theorem gone_fold : ∀ l : List Sp, l.foldl addI none = none
  | [] => rfl
  | x :: l => gone_fold l
theorem gone_fold2 : ∀ {l : List Sp} (x : Sp), gone l = true → l.foldl addI x = none
  | none :: l, x, _ => by
    show l.foldl addI (addI x none) = none
    rw [add_none, gone_fold]
  | some _ :: l, x, h => gone_fold2 (l := l) _ h
theorem add_gone : ∀ {l : List Sp}, gone l = true → addL l = none
  | none :: l, _ => gone_fold l
  | some p :: l, h => gone_fold2 (l := l) (some p) h
theorem addp_lt {x y : Int} (x1 : -19342822337206103650074625 ≤ x) (x2 : x < 19342822337206103650074625) (y1 : -19342822337206103650074625 ≤ y) (y2 : y < 19342822337206103650074625) : addp false x y < 19342822337206103650074625 := by
  cases hx : infp x
  · cases hy : infp y
    · obtain ⟨a, b⟩ := infp_false x1 (by omega) hx; obtain ⟨c, d⟩ := infp_false y1 (by omega) hy; have h := (addp_spec false a b c d).1.2.1
      omega
    · rw [addp_ft false hx hy]; exact y2
  · have e := infp_true hx
    cases hy : infp y
    · rw [addp_tf false hx hy]; exact x2
    · have e2 := infp_true hy; rw [addp_same false hx (by omega)]; exact x2
theorem addp_gt {x y : Int} (x1 : -19342822337206103650074625 < x) (x2 : x ≤ 19342822337206103650074625) (y1 : -19342822337206103650074625 < y) (y2 : y ≤ 19342822337206103650074625) : -19342822337206103650074625 < addp true x y := by
  have h := addp_lt (x := -x) (y := -y) (by omega) (by omega) (by omega) (by omega); have e := addp_neg (x := x) (y := y) true; rw [Bool.not_true] at e
  omega
theorem addI_some {a b c d : Int} (h : SpOk (some (a, b))) (k : SpOk (some (c, d))) : addI (some (a, b)) (some (c, d)) = some (addp false a c, addp true b d) ∧ SpOk (some (addp false a c, addp true b d)) := by
  obtain ⟨h1, h2, h3, h4, h5⟩ := h; obtain ⟨k1, k2, k3, k4, k5⟩ := k; have l1 := addp_lt h1 h4 k1 k4; have l2 := addp_gt h5 h3 k5 k3
  have l3 : addp false a c ≤ addp true b d := by
    refine Int.le_trans (addp_le2 false ⟨by omega, by omega⟩ ⟨by omega, by omega⟩ ⟨by omega, by omega⟩ ⟨by omega, by omega⟩ h2 k2) ?_; exact addp_le (by omega) (by omega) (by omega) (by omega)
  have b1 := addp_bd (x := a) (y := c) false (by omega) (by omega) (by omega) (by omega); have b2 := addp_bd (x := b) (y := d) true (by omega) (by omega) (by omega) (by omega)
  have o : SpOk (some (addp false a c, addp true b d)) := ⟨b1.1, l3, b2.2, l1, l2⟩
  exact ⟨o.mk, o⟩
theorem add_fold : ∀ {l : List Sp} {a b : Int}, gone l = false → (∀ y ∈ l, SpOk y) → SpOk (some (a, b)) → l.foldl addI (some (a, b)) = some ((lowL l).foldl (addp false) a, (highL l).foldl (addp true) b) ∧ SpOk (some ((lowL l).foldl (addp false) a, (highL l).foldl (addp true) b))
  | [], a, b, _, _, h => ⟨rfl, h⟩
  | none :: l, _, _, h, _, _ => by cases h
  | some (c, d) :: l, a, b, h, hl, hab => by
    obtain ⟨e, o⟩ := addI_some hab (hl (some (c, d)) (List.mem_cons_self ..))
    have := add_fold (l := l) h (fun y hy => hl y (List.mem_cons_of_mem _ hy)) o
    rw [← e] at this; exact this
/-- What Add makes of the sums of the ends. -/
theorem add_ends : ∀ {l : List Sp}, gone l = false → (∀ y ∈ l, SpOk y) → mkI ((lowL l).foldl (addp false) 0) ((highL l).foldl (addp true) 0) = addL l
  | [], _, _ => by decide
  | none :: l, h, _ => by cases h
  | some (c, d) :: l, h, hl => by
    have k := hl (some (c, d)) (List.mem_cons_self ..); have i := k.in1
    obtain ⟨e, o⟩ := add_fold (l := l) h (fun y hy => hl y (List.mem_cons_of_mem _ hy)) k
    show mkI ((lowL l).foldl (addp false) (addp false 0 c)) ((highL l).foldl (addp true) (addp true 0 d)) = l.foldl addI (some (c, d))
    rw [addp_comm (x := 0) (y := c), addp_comm (x := 0) (y := d), addp_zero false i.1.1 i.1.2, addp_zero true i.2.1 i.2.2, e, o.mk]
end Go.Proofs.YteejbcimmmcnlaaGreatDoor

/-
  Contracts and words that the statement's proof rests on, several texts in one: Cb, Cc.
-/
import Derived.Below
import Derived.BigQuiet
import Derived.Carry
import Derived.Deep.DeepCutAuto
import Derived.Deep.Draws
import Derived.Deep.MidRow
import Derived.Deep.QuietTactic
import Derived.Deep.RegionHeld3
import Derived.Deep.RegionWith
import Derived.IntWalk
import Derived.Laws.Bits64b
import Derived.Laws.CopyOwn
import Derived.Laws.Externs
import Derived.Laws.MakeOwn
import Derived.Laws.OwnMore
import Derived.Laws.Rows
import Derived.Lib.BitFns
import Derived.Lib.Hide
import Derived.Lib.Mul64
import Derived.Lib.TrailingZeros
import Derived.Maps.AppendAt
import Derived.StillTailTactics
import Derived.Test.YthhlccdmflgbbaaRows
import Derived.WalkKit
import Derived.WalkLawsBesides
import Derived.WalkSpells
import Derived.Test.YthhlccdmflgbbaaYAad
import Derived.Test.YthhlccdmflgbbaaYAae
import Derived.Test.YthhlccdmflgbbaaYAaf
import Derived.Test.YthhlccdmflgbbaaYAag
import Derived.Test.YthhlccdmflgbbaaYAai
import Derived.Test.YthhlccdmflgbbaaYAaj
import Derived.Test.YthhlccdmflgbbaaYAal
import Derived.Test.YthhlccdmflgbbaaYAam
/-
  The middle of an interval, its halves, what is wider; many intervals. Plain arithmetic; no Go text.
-/
namespace Go.Proofs.Ythhlccdmflgbbaa
open Go.RowKit
set_option linter.unusedVariables false

theorem has_in {a b n : Int} (h1 : -19342822337206103650074625 < n) (h2 : n < 19342822337206103650074625) (h3 : a ≤ n) (h4 : n ≤ b) : hasI (some (a, b)) n = true := by
  simp [hasI, infp_fin h1 h2]
  omega
theorem meetL_take {l : List Sp} {k : Nat} (h : k < l.length) : meetL (l.take (k + 1)) = meetI (meetL (l.take k)) (l.getD k none) := by
  unfold meetL
  rw [List.take_succ_eq_append_getElem h, List.foldl_append]
  simp [List.getD_eq_getElem?_getD, h]
theorem hullL_take {l : List Sp} {k : Nat} (h : k < l.length) : hullL (l.take (k + 1)) = hullI (hullL (l.take k)) (l.getD k none) := by
  unfold hullL
  rw [List.take_succ_eq_append_getElem h, List.foldl_append]
  simp [List.getD_eq_getElem?_getD, h]
/-- Once there is none, there is none. -/
theorem meet_stuck : ∀ l : List Sp, l.foldl meetI none = none
  | [] => rfl
  | _ :: l => meet_stuck l
theorem many {a b c : Sp} (ha : SpOk a) (hb : SpOk b) (hc : SpOk c) :
    meetL [meetL [c, a], b] = meetL [a, b, c] ∧ hullL [b, hullL [a, c]] = hullL [a, b, c] ∧ meetL [a] = a ∧ hullL [a] = a ∧ hullL [a, a] = a ∧ meetL [a, a] = a := by
  have m1 : ∀ {x}, SpOk x → meetI allI x = x := meet_all
  have e1 : meetL [c, a] = meetI c a := by
    show meetI (meetI allI c) a = _
    rw [m1 hc]
  have e2 : hullL [a, c] = hullI a c := by
    show hullI (hullI none a) c = _
    rfl
  refine ⟨?_, ?_, m1 ha, rfl, ?_, ?_⟩
  · rw [e1]
    show meetI (meetI allI (meetI c a)) b = meetI (meetI (meetI allI a) b) c
    rw [m1 (meetI_ok hc ha), m1 ha, meet_assoc hc ha hb, meet_comm]
  · rw [e2]
    show hullI (hullI none b) (hullI a c) = hullI (hullI (hullI none a) b) c
    show hullI b (hullI a c) = hullI (hullI a b) c
    rw [← hull_assoc hb ha hc, hull_comm (x := b)]
  · show hullI (hullI none a) a = a
    exact hull_self ha
  · show meetI (meetI allI a) a = a
    rw [m1 ha]
    exact meet_self ha
end Go.Proofs.Ythhlccdmflgbbaa

/-
  The cells of an interval, and what it is taken for.
-/
namespace Go.Proofs.Ythhlccdmflgbbaa
open Go.RowKit
set_option linter.unusedVariables false

theorem StN.trans {w w' w'' : World} {g : Nat} {a b c : Array Value} {T : TypeId} (h : StN w w' g a b T) (k : StN w' w'' g b c T) : StN w w'' g a c T :=
  ⟨h.1, k.2.1, fun j hj => (k.2.2.1 j hj).trans (h.2.2.1 j hj), fun B x hB hb => k.2.2.2 B x hB (h.2.2.2 B x hB hb)⟩
theorem StN.mk9 {w : World} {g : Nat} {T : TypeId} {a0 a1 a2 a3 a4 a5 a6 a7 a8 : Value} (X : Bo w g #[a0, a1, a2, a3, a4, a5, a6, a7, a8] T) (v0 v1 v2 v3 v4 v5 v6 v7 v8 : Value) :
    StN w (((((((((w.setCell ⟨g, 0, none⟩ v0).setCell ⟨g, 1, none⟩ v1).setCell ⟨g, 2, none⟩ v2).setCell ⟨g, 3, none⟩ v3).setCell ⟨g, 4, none⟩ v4).setCell ⟨g, 5, none⟩ v5).setCell ⟨g, 6, none⟩ v6).setCell ⟨g, 7, none⟩ v7).setCell ⟨g, 8, none⟩ v8) g #[a0, a1, a2, a3, a4, a5, a6, a7, a8] #[v0, v1, v2, v3, v4, v5, v6, v7, v8] T := by
  have t0 : StN w (w.setCell ⟨g, 0, none⟩ v0) g #[a0, a1, a2, a3, a4, a5, a6, a7, a8] #[v0, a1, a2, a3, a4, a5, a6, a7, a8] T := StN.at4 X 0 v0
  have s0 := t0
  have t1 : StN (w.setCell ⟨g, 0, none⟩ v0) ((w.setCell ⟨g, 0, none⟩ v0).setCell ⟨g, 1, none⟩ v1) g #[v0, a1, a2, a3, a4, a5, a6, a7, a8] #[v0, v1, a2, a3, a4, a5, a6, a7, a8] T := StN.at4 s0.box 1 v1
  have s1 := s0.trans t1
  have t2 : StN ((w.setCell ⟨g, 0, none⟩ v0).setCell ⟨g, 1, none⟩ v1) (((w.setCell ⟨g, 0, none⟩ v0).setCell ⟨g, 1, none⟩ v1).setCell ⟨g, 2, none⟩ v2) g #[v0, v1, a2, a3, a4, a5, a6, a7, a8] #[v0, v1, v2, a3, a4, a5, a6, a7, a8] T := StN.at4 s1.box 2 v2
  have s2 := s1.trans t2
  have t3 : StN (((w.setCell ⟨g, 0, none⟩ v0).setCell ⟨g, 1, none⟩ v1).setCell ⟨g, 2, none⟩ v2) ((((w.setCell ⟨g, 0, none⟩ v0).setCell ⟨g, 1, none⟩ v1).setCell ⟨g, 2, none⟩ v2).setCell ⟨g, 3, none⟩ v3) g #[v0, v1, v2, a3, a4, a5, a6, a7, a8] #[v0, v1, v2, v3, a4, a5, a6, a7, a8] T := StN.at4 s2.box 3 v3
  have s3 := s2.trans t3
  have t4 : StN ((((w.setCell ⟨g, 0, none⟩ v0).setCell ⟨g, 1, none⟩ v1).setCell ⟨g, 2, none⟩ v2).setCell ⟨g, 3, none⟩ v3) (((((w.setCell ⟨g, 0, none⟩ v0).setCell ⟨g, 1, none⟩ v1).setCell ⟨g, 2, none⟩ v2).setCell ⟨g, 3, none⟩ v3).setCell ⟨g, 4, none⟩ v4) g #[v0, v1, v2, v3, a4, a5, a6, a7, a8] #[v0, v1, v2, v3, v4, a5, a6, a7, a8] T := StN.at4 s3.box 4 v4
  have s4 := s3.trans t4
  have t5 : StN (((((w.setCell ⟨g, 0, none⟩ v0).setCell ⟨g, 1, none⟩ v1).setCell ⟨g, 2, none⟩ v2).setCell ⟨g, 3, none⟩ v3).setCell ⟨g, 4, none⟩ v4) ((((((w.setCell ⟨g, 0, none⟩ v0).setCell ⟨g, 1, none⟩ v1).setCell ⟨g, 2, none⟩ v2).setCell ⟨g, 3, none⟩ v3).setCell ⟨g, 4, none⟩ v4).setCell ⟨g, 5, none⟩ v5) g #[v0, v1, v2, v3, v4, a5, a6, a7, a8] #[v0, v1, v2, v3, v4, v5, a6, a7, a8] T := StN.at4 s4.box 5 v5
  have s5 := s4.trans t5
  have t6 : StN ((((((w.setCell ⟨g, 0, none⟩ v0).setCell ⟨g, 1, none⟩ v1).setCell ⟨g, 2, none⟩ v2).setCell ⟨g, 3, none⟩ v3).setCell ⟨g, 4, none⟩ v4).setCell ⟨g, 5, none⟩ v5) (((((((w.setCell ⟨g, 0, none⟩ v0).setCell ⟨g, 1, none⟩ v1).setCell ⟨g, 2, none⟩ v2).setCell ⟨g, 3, none⟩ v3).setCell ⟨g, 4, none⟩ v4).setCell ⟨g, 5, none⟩ v5).setCell ⟨g, 6, none⟩ v6) g #[v0, v1, v2, v3, v4, v5, a6, a7, a8] #[v0, v1, v2, v3, v4, v5, v6, a7, a8] T := StN.at4 s5.box 6 v6
  have s6 := s5.trans t6
  have t7 : StN (((((((w.setCell ⟨g, 0, none⟩ v0).setCell ⟨g, 1, none⟩ v1).setCell ⟨g, 2, none⟩ v2).setCell ⟨g, 3, none⟩ v3).setCell ⟨g, 4, none⟩ v4).setCell ⟨g, 5, none⟩ v5).setCell ⟨g, 6, none⟩ v6) ((((((((w.setCell ⟨g, 0, none⟩ v0).setCell ⟨g, 1, none⟩ v1).setCell ⟨g, 2, none⟩ v2).setCell ⟨g, 3, none⟩ v3).setCell ⟨g, 4, none⟩ v4).setCell ⟨g, 5, none⟩ v5).setCell ⟨g, 6, none⟩ v6).setCell ⟨g, 7, none⟩ v7) g #[v0, v1, v2, v3, v4, v5, v6, a7, a8] #[v0, v1, v2, v3, v4, v5, v6, v7, a8] T := StN.at4 s6.box 7 v7
  have s7 := s6.trans t7
  have t8 : StN ((((((((w.setCell ⟨g, 0, none⟩ v0).setCell ⟨g, 1, none⟩ v1).setCell ⟨g, 2, none⟩ v2).setCell ⟨g, 3, none⟩ v3).setCell ⟨g, 4, none⟩ v4).setCell ⟨g, 5, none⟩ v5).setCell ⟨g, 6, none⟩ v6).setCell ⟨g, 7, none⟩ v7) (((((((((w.setCell ⟨g, 0, none⟩ v0).setCell ⟨g, 1, none⟩ v1).setCell ⟨g, 2, none⟩ v2).setCell ⟨g, 3, none⟩ v3).setCell ⟨g, 4, none⟩ v4).setCell ⟨g, 5, none⟩ v5).setCell ⟨g, 6, none⟩ v6).setCell ⟨g, 7, none⟩ v7).setCell ⟨g, 8, none⟩ v8) g #[v0, v1, v2, v3, v4, v5, v6, v7, a8] #[v0, v1, v2, v3, v4, v5, v6, v7, v8] T := StN.at4 s7.box 8 v8
  have s8 := s7.trans t8
  exact s8
/-- The cells of an interval that may be, and which one it is. -/
def Ci (e : Bool) (K : Int) (s : Bool) (M E K' : Int) (s' : Bool) (M' E' : Int) : Sp → Prop
  | none => e = true ∧ Fq K s M E 0 ∧ Fq K' s' M' E' 0
  | some (a, b) => e = false ∧ Fq K s M E a ∧ Fq K' s' M' E' b ∧ a ≤ b ∧ a < 19342822337206103650074625 ∧ -19342822337206103650074625 < b
section
variable {e e2 : Bool} {K M E K' M' E' K2 M2 E2 K2' M2' E2' : Int} {s s' s2 s2' : Bool} {x y : Sp}
theorem Ci.ok (h : Ci e K s M E K' s' M' E' x) : SpOk x := by
  rcases x with _ | ⟨a, b⟩
  · exact trivial
  · obtain ⟨_, q1, q2, h1, h2, h3⟩ := h
    exact ⟨q1.bd.1, h1, q2.bd.2, h2, h3⟩
theorem Ci.top (h : Ci e K s M E K' s' M' E' x) : M < 18446744073709551616 ∧ M' < 18446744073709551616 := by
  rcases x with _ | ⟨a, b⟩
  · exact ⟨h.2.1.top, h.2.2.top⟩
  · exact ⟨h.2.1.top, h.2.2.1.top⟩
theorem Ci.uniq (h : Ci e K s M E K' s' M' E' x) (k : Ci e2 K2 s2 M2 E2 K2' s2' M2' E2' x) : e = e2 ∧ K = K2 ∧ s = s2 ∧ M = M2 ∧ E = E2 ∧ K' = K2' ∧ s' = s2' ∧ M' = M2' ∧ E' = E2' := by
  rcases x with _ | ⟨a, b⟩
  · obtain ⟨h1, q1, q2⟩ := h
    obtain ⟨k1, p1, p2⟩ := k
    obtain ⟨c1, c2, c3, c4⟩ := q1.uniq p1
    obtain ⟨d1, d2, d3, d4⟩ := q2.uniq p2
    exact ⟨h1.trans k1.symm, c1, c2, c3, c4, d1, d2, d3, d4⟩
  · obtain ⟨h1, q1, q2, _⟩ := h
    obtain ⟨k1, p1, p2, _⟩ := k
    obtain ⟨c1, c2, c3, c4⟩ := q1.uniq p1
    obtain ⟨d1, d2, d3, d4⟩ := q2.uniq p2
    exact ⟨h1.trans k1.symm, c1, c2, c3, c4, d1, d2, d3, d4⟩
theorem Ci.fn (h : Ci e K s M E K' s' M' E' x) (k : Ci e K s M E K' s' M' E' y) : x = y := by
  rcases x with _ | ⟨a, b⟩ <;> rcases y with _ | ⟨c, d⟩
  · rfl
  · have := h.1.symm.trans k.1
    cases this
  · have := h.1.symm.trans k.1
    cases this
  · rw [← h.2.1.rk, ← h.2.2.1.rk, ← k.2.1.rk, ← k.2.2.1.rk]
/-- The cells are one if the intervals are. -/
theorem Ci.same (h : Ci e K s M E K' s' M' E' x) (k : Ci e2 K2 s2 M2 E2 K2' s2' M2' E2' y) : (e = e2 ∧ K = K2 ∧ s = s2 ∧ M = M2 ∧ E = E2 ∧ K' = K2' ∧ s' = s2' ∧ M' = M2' ∧ E' = E2') ↔ x = y := by
  constructor
  · rintro ⟨rfl, rfl, rfl, rfl, rfl, rfl, rfl, rfl, rfl⟩
    exact h.fn k
  · rintro rfl
    exact h.uniq k
end
theorem Ci.none : Ci true 0 false 0 0 0 false 0 0 none := ⟨rfl, Fq.nought, Fq.nought⟩
/-- What an interval is taken for, whatever its cells. -/
def rkI (e : Bool) (K : Int) (s : Bool) (M E K' : Int) (s' : Bool) (M' E' : Int) : Sp := if e = true then none else if MayQ K s M E ∧ MayQ K' s' M' E' then mkI (rk K s M E) (rk K' s' M' E') else none
/-- Whether it may be. -/
def mayI (e : Bool) (K : Int) (s : Bool) (M E K' : Int) (s' : Bool) (M' E' : Int) : Bool := if e = true then (decide (K = 0 ∧ s = false ∧ M = 0 ∧ E = 0) && decide (K' = 0 ∧ s' = false ∧ M' = 0 ∧ E' = 0)) else decide (rkI e K s M E K' s' M' E' ≠ none)
section
variable {e : Bool} {K M E K' M' E' : Int} {s s' : Bool} {x : Sp}
theorem rkI_t : rkI true K s M E K' s' M' E' = none := if_pos rfl
theorem rkI_f : rkI false K s M E K' s' M' E' = if MayQ K s M E ∧ MayQ K' s' M' E' then mkI (rk K s M E) (rk K' s' M' E') else none := if_neg ff
theorem rkI_ok (hM : M < 18446744073709551616) (hM' : M' < 18446744073709551616) : SpOk (rkI e K s M E K' s' M' E') := by
  cases e
  · rw [rkI_f]
    by_cases h : MayQ K s M E ∧ MayQ K' s' M' E'
    · rw [if_pos h]
      exact mkI_ok (rk_fq hM h.1).bd.1 (rk_fq hM' h.2).bd.2
    · rw [if_neg h]
      exact trivial
  · exact trivial
theorem mayI_ci (hM : M < 18446744073709551616) (hM' : M' < 18446744073709551616) (h : mayI e K s M E K' s' M' E' = true) : Ci e K s M E K' s' M' E' (rkI e K s M E K' s' M' E') := by
  unfold mayI at h
  cases e
  · rw [if_neg ff, decide_eq_true_iff] at h
    rw [rkI_f] at h ⊢
    by_cases hq : MayQ K s M E ∧ MayQ K' s' M' E'
    · rw [if_pos hq] at h ⊢
      by_cases hc : rk K s M E ≤ rk K' s' M' E' ∧ rk K s M E < 19342822337206103650074625 ∧ -19342822337206103650074625 < rk K' s' M' E'
      · rw [mkI_some hc.1 hc.2.1 hc.2.2]
        exact ⟨rfl, rk_fq hM hq.1, rk_fq hM' hq.2, hc⟩
      · exact absurd (mkI_none hc) h
    · rw [if_neg hq] at h
      exact absurd rfl h
  · rw [if_pos rfl, Bool.and_eq_true, decide_eq_true_iff, decide_eq_true_iff] at h
    obtain ⟨⟨rfl, rfl, rfl, rfl⟩, rfl, rfl, rfl, rfl⟩ := h
    exact Ci.none
theorem mayI_no (h : mayI e K s M E K' s' M' E' = false) : rkI e K s M E K' s' M' E' = none := by
  cases e
  · unfold mayI at h
    rw [if_neg ff, decide_eq_false_iff_not] at h
    exact Decidable.not_not.1 h
  · exact rkI_t
theorem Ci.rk (h : Ci e K s M E K' s' M' E' x) : rkI e K s M E K' s' M' E' = x := by
  rcases x with _ | ⟨a, b⟩
  · obtain ⟨rfl, _⟩ := h
    exact rkI_t
  · obtain ⟨rfl, q1, q2, h1, h2, h3⟩ := h
    rw [rkI_f, if_pos ⟨q1.1, q2.1⟩, q1.rk, q2.rk, mkI_some h1 h2 h3]
theorem Ci.may (h : Ci e K s M E K' s' M' E' x) : mayI e K s M E K' s' M' E' = true := by
  have hr := h.rk
  unfold mayI
  rcases x with _ | ⟨a, b⟩
  · obtain ⟨rfl, q1, q2⟩ := h
    obtain ⟨rfl, rfl, rfl, rfl⟩ := q1.uniq Fq.nought
    obtain ⟨rfl, rfl, rfl, rfl⟩ := q2.uniq Fq.nought
    rfl
  · obtain ⟨rfl, _⟩ := h
    rw [if_neg ff, hr]
    rfl
end
/-- An interval is answered. -/
def PV (w : World) (x : Sp) (e : Ending) (w' : World) : Prop := ∃ e0 K s M E K' s' M' E', e = .returned (.agg #[.bool e0, .int .i64 K, .bool s, .int .u64 M, .int .i64 E, .int .i64 K', .bool s', .int .u64 M', .int .i64 E']) ∧ Ci e0 K s M E K' s' M' E' x ∧ Below w.heap.size w w'
def Jo.Fact.iv (x : Sp) : Jo.Fact := ⟨fun v w => ∃ e0 K s M E K' s' M' E', v = .agg #[.bool e0, .int .i64 K, .bool s, .int .u64 M, .int .i64 E, .int .i64 K', .bool s', .int .u64 M', .int .i64 E'] ∧ Ci e0 K s M E K' s' M' E' x, fun v w w' h b => h⟩
/-- A slice of intervals, as they came in; what they are taken for is l. -/
def Il8 (w : World) (A : Option Addr) (n c : Nat) (l : List Sp) : Prop :=
  l.length = n ∧ n ≤ c ∧ n ≤ 1099511627776 ∧ (0 < n → ∃ b o, A = some ⟨b, o, none⟩ ∧ ∀ k, k < n → ∃ e K s M E K' s' M' E', w.cell? ⟨b, o + k * 9, none⟩ = some (.bool e) ∧ w.cell? ⟨b, o + k * 9 + 1, none⟩ = some (.int .i64 K) ∧ w.cell? ⟨b, o + k * 9 + 2, none⟩ = some (.bool s) ∧ w.cell? ⟨b, o + k * 9 + 3, none⟩ = some (.int .u64 M) ∧ w.cell? ⟨b, o + k * 9 + 4, none⟩ = some (.int .i64 E) ∧ w.cell? ⟨b, o + k * 9 + 5, none⟩ = some (.int .i64 K') ∧ w.cell? ⟨b, o + k * 9 + 6, none⟩ = some (.bool s') ∧ w.cell? ⟨b, o + k * 9 + 7, none⟩ = some (.int .u64 M') ∧ w.cell? ⟨b, o + k * 9 + 8, none⟩ = some (.int .i64 E') ∧ M < 18446744073709551616 ∧ M' < 18446744073709551616 ∧ rkI e K s M E K' s' M' E' = l.getD k none)
theorem Il8.below {w w' : World} {A : Option Addr} {n c : Nat} {l : List Sp} (h : Il8 w A n c l) (hb : Below w.heap.size w w') : Il8 w' A n c l := by
  obtain ⟨h1, h2, h3, h4⟩ := h
  refine ⟨h1, h2, h3, fun hn => ?_⟩
  obtain ⟨b, o, e, hc⟩ := h4 hn
  refine ⟨b, o, e, fun k hk => ?_⟩
  obtain ⟨e, K, s, M, E, K', s', M', E', c0, c1, c2, c3, c4, c5, c6, c7, c8, hM, hM', hr⟩ := hc k hk
  have t : ∀ {i : Nat} {v : Value}, w.cell? ⟨b, i, none⟩ = some v → w'.cell? ⟨b, i, none⟩ = some v := fun c => (hb.cell (p := ⟨b, _, none⟩) (block_lt_of_cell c)).trans c
  exact ⟨e, K, s, M, E, K', s', M', E', t c0, t c1, t c2, t c3, t c4, t c5, t c6, t c7, t c8, hM, hM', hr⟩
theorem Il8.ok {w : World} {A : Option Addr} {n c : Nat} {l : List Sp} (h : Il8 w A n c l) : ∀ y ∈ l, SpOk y := by
  intro y hy
  obtain ⟨k, hk, e⟩ := List.getElem_of_mem hy
  obtain ⟨h1, h2, h3, h4⟩ := h
  obtain ⟨b, o, _, hc⟩ := h4 (by omega)
  obtain ⟨e0, K, s, M, E, K', s', M', E', _, _, _, _, _, _, _, _, _, hM, hM', hr⟩ := hc k (by omega)
  have : l.getD k none = y := by
    rw [List.getD_eq_getElem?_getD, List.getElem?_eq_getElem hk, e]
    rfl
  rw [← this, ← hr]
  exact rkI_ok hM hM'
end Go.Proofs.Ythhlccdmflgbbaa

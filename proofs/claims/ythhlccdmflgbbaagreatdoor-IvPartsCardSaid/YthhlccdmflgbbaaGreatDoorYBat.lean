/-
  Contracts and words that the statement's proof rests on, several texts in one: Cc, Cd, Ce, Cf, Ck, Cl.
-/
import Derived.Maps.AppendAt
import Derived.Test.YthhlccdmflgbbaaGreatDoorYBao
import Derived.Test.YthhlccdmflgbbaaGreatDoorYBaq
import Derived.Test.YthhlccdmflgbbaaGreatDoorYBas
/-
  The cells of an interval, and what it is taken for.
-/
namespace Go.Proofs.YthhlccdmflgbbaaGreatDoor
open Go.RowKit
set_option linter.unusedVariables false

theorem StN.trans {w w' w'' : World} {g : Nat} {a b c : Array Value} {T : TypeId} (h : StN w w' g a b T) (k : StN w' w'' g b c T) : StN w w'' g a c T :=
  ⟨h.1, k.2.1, fun j hj => (k.2.2.1 j hj).trans (h.2.2.1 j hj), fun B x hB hb => k.2.2.2 B x hB (h.2.2.2 B x hB hb)⟩
theorem StN.mk9 {w : World} {g : Nat} {T : TypeId} {a0 a1 a2 a3 a4 a5 a6 a7 a8 : Value} (X : Bo w g #[a0, a1, a2, a3, a4, a5, a6, a7, a8] T) (v0 v1 v2 v3 v4 v5 v6 v7 v8 : Value) :
    StN w (((((((((w.setCell ⟨g, 0, none⟩ v0).setCell ⟨g, 1, none⟩ v1).setCell ⟨g, 2, none⟩ v2).setCell ⟨g, 3, none⟩ v3).setCell ⟨g, 4, none⟩ v4).setCell ⟨g, 5, none⟩ v5).setCell ⟨g, 6, none⟩ v6).setCell ⟨g, 7, none⟩ v7).setCell ⟨g, 8, none⟩ v8) g #[a0, a1, a2, a3, a4, a5, a6, a7, a8] #[v0, v1, v2, v3, v4, v5, v6, v7, v8] T := by
  have t0 : StN w (w.setCell ⟨g, 0, none⟩ v0) g #[a0, a1, a2, a3, a4, a5, a6, a7, a8] #[v0, a1, a2, a3, a4, a5, a6, a7, a8] T := StN.at4 X 0 v0
  have s0 := t0
  have t1 : StN (w.setCell ⟨g, 0, none⟩ v0) ((w.setCell ⟨g, 0, none⟩ v0).setCell ⟨g, 1, none⟩ v1) g #[v0, a1, a2, a3, a4, a5, a6, a7, a8] #[v0, v1, a2, a3, a4, a5, a6, a7, a8] T := StN.at4 s0.box 1 v1
  have s1 := s0.trans t1
  have t2 : StN ((w.setCell ⟨g, 0, none⟩ v0).setCell ⟨g, 1, none⟩ v1) (((w.setCell ⟨g, 0, none⟩ v0).setCell ⟨g, 1, none⟩ v1).setCell ⟨g, 2, none⟩ v2) g #[v0, v1, a2, a3, a4, a5, a6, a7, a8] #[v0, v1, v2, a3, a4, a5, a6, a7, a8] T := StN.at4 s1.box 2 v2
  have s2 := s1.trans t2
  have t3 : StN (((w.setCell ⟨g, 0, none⟩ v0).setCell ⟨g, 1, none⟩ v1).setCell ⟨g, 2, none⟩ v2) ((((w.setCell ⟨g, 0, none⟩ v0).setCell ⟨g, 1, none⟩ v1).setCell ⟨g, 2, none⟩ v2).setCell ⟨g, 3, none⟩ v3) g #[v0, v1, v2, a3, a4, a5, a6, a7, a8] #[v0, v1, v2, v3, a4, a5, a6, a7, a8] T := StN.at4 s2.box 3 v3
  have s3 := s2.trans t3
  have t4 : StN ((((w.setCell ⟨g, 0, none⟩ v0).setCell ⟨g, 1, none⟩ v1).setCell ⟨g, 2, none⟩ v2).setCell ⟨g, 3, none⟩ v3) (((((w.setCell ⟨g, 0, none⟩ v0).setCell ⟨g, 1, none⟩ v1).setCell ⟨g, 2, none⟩ v2).setCell ⟨g, 3, none⟩ v3).setCell ⟨g, 4, none⟩ v4) g #[v0, v1, v2, v3, a4, a5, a6, a7, a8] #[v0, v1, v2, v3, v4, a5, a6, a7, a8] T := StN.at4 s3.box 4 v4
  have s4 := s3.trans t4
  have t5 : StN (((((w.setCell ⟨g, 0, none⟩ v0).setCell ⟨g, 1, none⟩ v1).setCell ⟨g, 2, none⟩ v2).setCell ⟨g, 3, none⟩ v3).setCell ⟨g, 4, none⟩ v4) ((((((w.setCell ⟨g, 0, none⟩ v0).setCell ⟨g, 1, none⟩ v1).setCell ⟨g, 2, none⟩ v2).setCell ⟨g, 3, none⟩ v3).setCell ⟨g, 4, none⟩ v4).setCell ⟨g, 5, none⟩ v5) g #[v0, v1, v2, v3, v4, a5, a6, a7, a8] #[v0, v1, v2, v3, v4, v5, a6, a7, a8] T := StN.at4 s4.box 5 v5
  have s5 := s4.trans t5
  have t6 : StN ((((((w.setCell ⟨g, 0, none⟩ v0).setCell ⟨g, 1, none⟩ v1).setCell ⟨g, 2, none⟩ v2).setCell ⟨g, 3, none⟩ v3).setCell ⟨g, 4, none⟩ v4).setCell ⟨g, 5, none⟩ v5) (((((((w.setCell ⟨g, 0, none⟩ v0).setCell ⟨g, 1, none⟩ v1).setCell ⟨g, 2, none⟩ v2).setCell ⟨g, 3, none⟩ v3).setCell ⟨g, 4, none⟩ v4).setCell ⟨g, 5, none⟩ v5).setCell ⟨g, 6, none⟩ v6) g #[v0, v1, v2, v3, v4, v5, a6, a7, a8] #[v0, v1, v2, v3, v4, v5, v6, a7, a8] T := StN.at4 s5.box 6 v6
  have s6 := s5.trans t6
  have t7 : StN (((((((w.setCell ⟨g, 0, none⟩ v0).setCell ⟨g, 1, none⟩ v1).setCell ⟨g, 2, none⟩ v2).setCell ⟨g, 3, none⟩ v3).setCell ⟨g, 4, none⟩ v4).setCell ⟨g, 5, none⟩ v5).setCell ⟨g, 6, none⟩ v6) ((((((((w.setCell ⟨g, 0, none⟩ v0).setCell ⟨g, 1, none⟩ v1).setCell ⟨g, 2, none⟩ v2).setCell ⟨g, 3, none⟩ v3).setCell ⟨g, 4, none⟩ v4).setCell ⟨g, 5, none⟩ v5).setCell ⟨g, 6, none⟩ v6).setCell ⟨g, 7, none⟩ v7) g #[v0, v1, v2, v3, v4, v5, v6, a7, a8] #[v0, v1, v2, v3, v4, v5, v6, v7, a8] T := StN.at4 s6.box 7 v7
  have s7 := s6.trans t7
  have t8 : StN ((((((((w.setCell ⟨g, 0, none⟩ v0).setCell ⟨g, 1, none⟩ v1).setCell ⟨g, 2, none⟩ v2).setCell ⟨g, 3, none⟩ v3).setCell ⟨g, 4, none⟩ v4).setCell ⟨g, 5, none⟩ v5).setCell ⟨g, 6, none⟩ v6).setCell ⟨g, 7, none⟩ v7) (((((((((w.setCell ⟨g, 0, none⟩ v0).setCell ⟨g, 1, none⟩ v1).setCell ⟨g, 2, none⟩ v2).setCell ⟨g, 3, none⟩ v3).setCell ⟨g, 4, none⟩ v4).setCell ⟨g, 5, none⟩ v5).setCell ⟨g, 6, none⟩ v6).setCell ⟨g, 7, none⟩ v7).setCell ⟨g, 8, none⟩ v8) g #[v0, v1, v2, v3, v4, v5, v6, v7, a8] #[v0, v1, v2, v3, v4, v5, v6, v7, v8] T := StN.at4 s7.box 8 v8
  have s8 := s7.trans t8; exact s8
/-- The cells of an interval that may be, and which one it is. -/
def Ci (e : Bool) (K : Int) (s : Bool) (M E K' : Int) (s' : Bool) (M' E' : Int) : Sp → Prop
  | none => e = true ∧ Fq K s M E 0 ∧ Fq K' s' M' E' 0
  | some (a, b) => e = false ∧ Fq K s M E a ∧ Fq K' s' M' E' b ∧ a ≤ b ∧ a < 19342822337206103650074625 ∧ -19342822337206103650074625 < b
section
variable {e e2 : Bool} {K M E K' M' E' K2 M2 E2 K2' M2' E2' : Int} {s s' s2 s2' : Bool} {x y : Sp}
theorem Ci.top (h : Ci e K s M E K' s' M' E' x) : M < 18446744073709551616 ∧ M' < 18446744073709551616 := by
  rcases x with _ | ⟨a, b⟩
  · exact ⟨h.2.1.top, h.2.2.top⟩
  · exact ⟨h.2.1.top, h.2.2.1.top⟩
theorem Ci.uniq (h : Ci e K s M E K' s' M' E' x) (k : Ci e2 K2 s2 M2 E2 K2' s2' M2' E2' x) : e = e2 ∧ K = K2 ∧ s = s2 ∧ M = M2 ∧ E = E2 ∧ K' = K2' ∧ s' = s2' ∧ M' = M2' ∧ E' = E2' := by
  rcases x with _ | ⟨a, b⟩
  · obtain ⟨h1, q1, q2⟩ := h; obtain ⟨k1, p1, p2⟩ := k; obtain ⟨c1, c2, c3, c4⟩ := q1.uniq p1; obtain ⟨d1, d2, d3, d4⟩ := q2.uniq p2; exact ⟨h1.trans k1.symm, c1, c2, c3, c4, d1, d2, d3, d4⟩
  · obtain ⟨h1, q1, q2, _⟩ := h; obtain ⟨k1, p1, p2, _⟩ := k; obtain ⟨c1, c2, c3, c4⟩ := q1.uniq p1; obtain ⟨d1, d2, d3, d4⟩ := q2.uniq p2; exact ⟨h1.trans k1.symm, c1, c2, c3, c4, d1, d2, d3, d4⟩
end
theorem Ci.none : Ci true 0 false 0 0 0 false 0 0 none := ⟨rfl, Fq.nought, Fq.nought⟩
/-- What an interval is taken for, whatever its cells. -/
def rkI (e : Bool) (K : Int) (s : Bool) (M E K' : Int) (s' : Bool) (M' E' : Int) : Sp := if e = true then none else if MayQ K s M E ∧ MayQ K' s' M' E' then mkI (rk K s M E) (rk K' s' M' E') else none
/-- Whether it may be. -/
def mayI (e : Bool) (K : Int) (s : Bool) (M E K' : Int) (s' : Bool) (M' E' : Int) : Bool := if e = true then (decide (K = 0 ∧ s = false ∧ M = 0 ∧ E = 0) && decide (K' = 0 ∧ s' = false ∧ M' = 0 ∧ E' = 0)) else decide (rkI e K s M E K' s' M' E' ≠ none)
section
variable {e : Bool} {K M E K' M' E' : Int} {s s' : Bool} {x : Sp}
theorem rkI_t : rkI true K s M E K' s' M' E' = none := if_pos rfl
theorem rkI_f : rkI false K s M E K' s' M' E' = if MayQ K s M E ∧ MayQ K' s' M' E' then mkI (rk K s M E) (rk K' s' M' E') else none := if_neg ff
theorem rkI_ok (hM : M < 18446744073709551616) (hM' : M' < 18446744073709551616) : SpOk (rkI e K s M E K' s' M' E') := by
  cases e
  · rw [rkI_f]
    by_cases h : MayQ K s M E ∧ MayQ K' s' M' E'
    · rw [if_pos h]; exact mkI_ok (rk_fq hM h.1).bd.1 (rk_fq hM' h.2).bd.2
    · rw [if_neg h]; exact trivial
  · exact trivial
theorem mayI_ci (hM : M < 18446744073709551616) (hM' : M' < 18446744073709551616) (h : mayI e K s M E K' s' M' E' = true) : Ci e K s M E K' s' M' E' (rkI e K s M E K' s' M' E') := by
  unfold mayI at h
  cases e
  · rw [if_neg ff, decide_eq_true_iff] at h; rw [rkI_f] at h ⊢
    by_cases hq : MayQ K s M E ∧ MayQ K' s' M' E'
    · rw [if_pos hq] at h ⊢
      by_cases hc : rk K s M E ≤ rk K' s' M' E' ∧ rk K s M E < 19342822337206103650074625 ∧ -19342822337206103650074625 < rk K' s' M' E'
      · rw [mkI_some hc.1 hc.2.1 hc.2.2]; exact ⟨rfl, rk_fq hM hq.1, rk_fq hM' hq.2, hc⟩
      · exact absurd (mkI_none hc) h
    · rw [if_neg hq] at h; exact absurd rfl h
  · rw [if_pos rfl, Bool.and_eq_true, decide_eq_true_iff, decide_eq_true_iff] at h; obtain ⟨⟨rfl, rfl, rfl, rfl⟩, rfl, rfl, rfl, rfl⟩ := h; exact Ci.none
theorem mayI_no (h : mayI e K s M E K' s' M' E' = false) : rkI e K s M E K' s' M' E' = none := by
  cases e
  · unfold mayI at h
    rw [if_neg ff, decide_eq_false_iff_not] at h; exact Decidable.not_not.1 h
  · exact rkI_t
theorem Ci.rk (h : Ci e K s M E K' s' M' E' x) : rkI e K s M E K' s' M' E' = x := by
  rcases x with _ | ⟨a, b⟩
  · obtain ⟨rfl, _⟩ := h; exact rkI_t
  · obtain ⟨rfl, q1, q2, h1, h2, h3⟩ := h; rw [rkI_f, if_pos ⟨q1.1, q2.1⟩, q1.rk, q2.rk, mkI_some h1 h2 h3]
theorem Ci.may (h : Ci e K s M E K' s' M' E' x) : mayI e K s M E K' s' M' E' = true := by
  have hr := h.rk
  unfold mayI
  rcases x with _ | ⟨a, b⟩
  · obtain ⟨rfl, q1, q2⟩ := h; obtain ⟨rfl, rfl, rfl, rfl⟩ := q1.uniq Fq.nought; obtain ⟨rfl, rfl, rfl, rfl⟩ := q2.uniq Fq.nought
    rfl
  · obtain ⟨rfl, _⟩ := h; rw [if_neg ff, hr]
    rfl
end
/-- An interval is answered. -/
def PV (w : World) (x : Sp) (e : Ending) (w' : World) : Prop := ∃ e0 K s M E K' s' M' E', e = .returned (.agg #[.bool e0, .int .i64 K, .bool s, .int .u64 M, .int .i64 E, .int .i64 K', .bool s', .int .u64 M', .int .i64 E']) ∧ Ci e0 K s M E K' s' M' E' x ∧ Below w.heap.size w w'
def Jo.Fact.iv (x : Sp) : Jo.Fact := ⟨fun v w => ∃ e0 K s M E K' s' M' E', v = .agg #[.bool e0, .int .i64 K, .bool s, .int .u64 M, .int .i64 E, .int .i64 K', .bool s', .int .u64 M', .int .i64 E'] ∧ Ci e0 K s M E K' s' M' E' x, fun v w w' h b => h⟩
/-- A slice of intervals, as they came in; what they are taken for is l. -/
def Il8 (w : World) (A : Option Addr) (n c : Nat) (l : List Sp) : Prop :=
  l.length = n ∧ n ≤ c ∧ n ≤ 1099511627776 ∧ (0 < n → ∃ b o, A = some ⟨b, o, none⟩ ∧ ∀ k, k < n → ∃ e K s M E K' s' M' E', w.cell? ⟨b, o + k * 9, none⟩ = some (.bool e) ∧ w.cell? ⟨b, o + k * 9 + 1, none⟩ = some (.int .i64 K) ∧ w.cell? ⟨b, o + k * 9 + 2, none⟩ = some (.bool s) ∧ w.cell? ⟨b, o + k * 9 + 3, none⟩ = some (.int .u64 M) ∧ w.cell? ⟨b, o + k * 9 + 4, none⟩ = some (.int .i64 E) ∧ w.cell? ⟨b, o + k * 9 + 5, none⟩ = some (.int .i64 K') ∧ w.cell? ⟨b, o + k * 9 + 6, none⟩ = some (.bool s') ∧ w.cell? ⟨b, o + k * 9 + 7, none⟩ = some (.int .u64 M') ∧ w.cell? ⟨b, o + k * 9 + 8, none⟩ = some (.int .i64 E') ∧ M < 18446744073709551616 ∧ M' < 18446744073709551616 ∧ rkI e K s M E K' s' M' E' = l.getD k none)
theorem Il8.below {w w' : World} {A : Option Addr} {n c : Nat} {l : List Sp} (h : Il8 w A n c l) (hb : Below w.heap.size w w') : Il8 w' A n c l := by
  obtain ⟨h1, h2, h3, h4⟩ := h
  refine ⟨h1, h2, h3, fun hn => ?_⟩
  obtain ⟨b, o, e, hc⟩ := h4 hn
  refine ⟨b, o, e, fun k hk => ?_⟩
  obtain ⟨e, K, s, M, E, K', s', M', E', c0, c1, c2, c3, c4, c5, c6, c7, c8, hM, hM', hr⟩ := hc k hk
  have t : ∀ {i : Nat} {v : Value}, w.cell? ⟨b, i, none⟩ = some v → w'.cell? ⟨b, i, none⟩ = some v := fun c => (hb.cell (p := ⟨b, _, none⟩) (block_lt_of_cell c)).trans c
  exact ⟨e, K, s, M, E, K', s', M', E', t c0, t c1, t c2, t c3, t c4, t c5, t c6, t c7, t c8, hM, hM', hr⟩
theorem Il8.ok {w : World} {A : Option Addr} {n c : Nat} {l : List Sp} (h : Il8 w A n c l) : ∀ y ∈ l, SpOk y := by
  intro y hy
  obtain ⟨k, hk, e⟩ := List.getElem_of_mem hy; obtain ⟨h1, h2, h3, h4⟩ := h; obtain ⟨b, o, _, hc⟩ := h4 (by omega); obtain ⟨e0, K, s, M, E, K', s', M', E', _, _, _, _, _, _, _, _, _, hM, hM', hr⟩ := hc k (by omega)
  have : l.getD k none = y := by
    rw [List.getD_eq_getElem?_getD, List.getElem?_eq_getElem hk, e]
    rfl
  rw [← this, ← hr]; exact rkI_ok hM hM'
end Go.Proofs.YthhlccdmflgbbaaGreatDoor
namespace Go.Proofs.YthhlccdmflgbbaaGreatDoor
open Go.RowKit
set_option linter.unusedVariables false
theorem StN.of9 {w w1 : World} {g : Nat} {T : TypeId} {a0 a1 a2 a3 a4 a5 a6 a7 a8 v0 v1 v2 v3 v4 v5 v6 v7 v8 : Value} (X : Bo w g #[a0, a1, a2, a3, a4, a5, a6, a7, a8] T) (h : ((((((((w.setCell ⟨g, 0, none⟩ v0).setCell ⟨g, 1, none⟩ v1).setCell ⟨g, 2, none⟩ v2).setCell ⟨g, 3, none⟩ v3).setCell ⟨g, 4, none⟩ v4).setCell ⟨g, 5, none⟩ v5).setCell ⟨g, 6, none⟩ v6).setCell ⟨g, 7, none⟩ v7).setCell ⟨g, 8, none⟩ v8 = w1) : StN w w1 g #[a0, a1, a2, a3, a4, a5, a6, a7, a8] #[v0, v1, v2, v3, v4, v5, v6, v7, v8] T := h ▸ StN.mk9 X v0 v1 v2 v3 v4 v5 v6 v7 v8
end Go.Proofs.YthhlccdmflgbbaaGreatDoor

/-
  What the document's None, All, May, Fair, Make and Point of intervals do.
-/
namespace Go.Proofs.YthhlccdmflgbbaaGreatDoor
open Go.RowKit
set_option linter.unusedVariables false
set_option linter.unusedSimpArgs false
set_option maxRecDepth 100000

theorem fq_inf2 (s : Bool) : Fq 2 s 0 0 (sgi s TP) := ⟨.inr (.inr ⟨rfl, rfl, rfl⟩), by decide, by
  cases s <;> rfl⟩
theorem ci_all : Ci false 2 true 0 0 2 false 0 0 allI := ⟨rfl, fq_inf2 true, fq_inf2 false, by decide, by decide, by decide⟩
theorem yInfE {w : World} (s : Bool) : Calls Tryz.prog 52 #[.bool s] w (fun e w' => e = .returned (.agg #[.int .i64 2, .bool s, .int .u64 0, .int .i64 0]) ∧ Below w.heap.size w w') := by
  refine (yInf (s := s) rfl).mono ?_; rintro ee w2 ⟨K, s1, M, E, rfl, q, B⟩; obtain ⟨rfl, rfl, rfl, rfl⟩ := q.uniq (fq_inf2 s); exact ⟨rfl, B⟩
set_option maxHeartbeats 2000000 in
theorem jvNone {w : World}  : Calls Tryz.prog 24 #[] w (PV w none) := by
  go_enter Tryz.func24, Tryz.ntmps24
  go_upto_region 1 with (fail)
  generalize hW1 : w.alloc _ = w1 at *; obtain ⟨XR, HB⟩ := Bo.en1 hW1; clear hW1; obtain ⟨xXR0, xXR1, xXR2, xXR3, xXR4, xXR5, xXR6, xXR7, xXR8⟩ := XR.u9; have zXR0 := XR.frozen; go_wp2; clear xXR0 zXR0 xXR1 xXR2 xXR3 xXR4 xXR5 xXR6 xXR7 xXR8; have SX := StN.mk9 XR (.bool true) (.int .i64 0) (.bool false) (.int .u64 0) (.int .i64 0) (.int .i64 0) (.bool false) (.int .u64 0) (.int .i64 0); exact bodyPost_ret (by simp [results, Tryz.results24, go_sem, SX.box.cell]) rfl ⟨_, _, _, _, _, _, _, _, _, rfl, Ci.none, (SX.below HB.out (by omega))⟩
set_option maxHeartbeats 2000000 in
theorem jvAll {w : World}  : Calls Tryz.prog 31 #[] w (PV w allI) := by
  go_enter Tryz.func31, Tryz.ntmps31
  go_upto_region 1 with (fail)
  generalize hW1 : w.alloc _ = w1 at *; obtain ⟨XR, HB⟩ := Bo.en1 hW1; clear hW1
  go_wp2_with fail
  refine (yInfE true).mono ?_; rintro ee w2 ⟨rfl, B⟩; replace XR := XR.below B; replace HB := Lib.hid (bt HB.out B); clear B
  go_wp2_with fail
  refine (yInfE false).mono ?_; rintro ee w3 ⟨rfl, B⟩; replace XR := XR.below B; replace HB := Lib.hid (bt HB.out B); clear B; obtain ⟨xXR0, xXR1, xXR2, xXR3, xXR4, xXR5, xXR6, xXR7, xXR8⟩ := XR.u9; have zXR0 := XR.frozen; go_wp2; clear xXR0 zXR0 xXR1 xXR2 xXR3 xXR4 xXR5 xXR6 xXR7 xXR8; have SX := StN.mk9 XR (.bool false) (.int .i64 2) (.bool true) (.int .u64 0) (.int .i64 0) (.int .i64 2) (.bool false) (.int .u64 0) (.int .i64 0)
  exact bodyPost_ret (by simp [results, Tryz.results31, go_sem, SX.box.cell]) rfl ⟨_, _, _, _, _, _, _, _, _, rfl, ci_all, (SX.below HB.out (by omega))⟩
theorem jvNoneE {w : World} : Calls Tryz.prog 24 #[] w (fun e w' => e = .returned (.agg #[.bool true, .int .i64 0, .bool false, .int .u64 0, .int .i64 0, .int .i64 0, .bool false, .int .u64 0, .int .i64 0]) ∧ Below w.heap.size w w') := by
  refine jvNone.mono ?_; rintro ee w2 ⟨e1, K1, s1, M1, E1, K1b, s1b, M1b, E1b, rfl, v1, B⟩; obtain ⟨rfl, rfl, rfl, rfl, rfl, rfl, rfl, rfl, rfl⟩ := v1.uniq Ci.none; exact ⟨rfl, B⟩
set_option maxHeartbeats 1000000 in
theorem jvmay_t {w : World} {D M E D' M' E' : Int} {s s' : Bool} {r : Bool} (hr : mayI true D s M E D' s' M' E' = r) : Calls Tryz.prog 48 #[.agg #[.bool true, .int .i64 D, .bool s, .int .u64 M, .int .i64 E, .int .i64 D', .bool s', .int .u64 M', .int .i64 E']] w (PB w r) := by
  have HR := Lib.hid hr; clear hr
  go_enter Tryz.func48, Tryz.ntmps48
  go_upto_region 1 with (fail)
  generalize hW1 : w.alloc _ = w1 at *; obtain ⟨X1, HB⟩ := Bo.en1 hW1; clear hW1; obtain ⟨xX10, xX11, xX12, xX13, xX14, xX15, xX16, xX17, xX18⟩ := X1.u9
  go_upto_region 2 with (fail)
  clear xX10 xX11 xX12 xX13 xX14 xX15 xX16 xX17 xX18; refine Jo.rj [0, 1, 2, 3] [some 7, some 8, some 9, some 2] [[], [], [0, 1], [2]] 4 [(some 7, 0), (some 8, 1), (some 9, 2), (some 2, 3)] 0 [Jo.q9 true D s M E D' s' M' E', Jo.q9 true 0 false 0 0 0 false 0 0, Jo.qb r, Jo.qb r] (by kernel_rfl) (by kernel_rfl) (by decide) rfl rfl ?_ ?_
  · refine Jo.jn 0 (some 7) [] _ rfl rfl rfl rfl ?_ ?_
    · rintro wj hJ K hK; simp only [Jo.z] at hK ⊢; obtain ⟨xX10, xX11, xX12, xX13, xX14, xX15, xX16, xX17, xX18⟩ := (X1.below hJ).u9; go_simp; exact hK.out _ _ rfl (br _ _)
    refine Jo.jn 1 (some 8) [] _ rfl rfl rfl rfl ?_ ?_
    · rintro wj hJ K hK; simp only [Jo.z] at hK ⊢; go_simp; refine (jvNoneE).mono ?_; rintro ee wk ⟨rfl, B⟩; exact hK.out _ _ rfl B
    refine Jo.jn 2 (some 9) [(some 7, 0), (some 8, 1)] _ rfl rfl rfl rfl ?_ ?_
    · rintro wj hJ _ rfl _ rfl K hK; simp only [Jo.z] at hK ⊢; go_simp
      repeat' split
      all_goals exact hK.out _ _ (congrArg Value.bool (by rw [← HR.out]; unfold mayI; simp [*])) (br _ _)
    refine Jo.jn 3 (some 2) [(some 9, 2)] _ rfl rfl rfl rfl ?_ ?_
    · rintro wj hJ _ rfl K hK; simp only [Jo.z] at hK ⊢; go_simp; exact hK.out _ _ rfl (br _ _)
    exact Jo.Steps.nil
  rintro w8 hJ _ rfl _ rfl _ rfl _ rfl -; simp only [Jo.z]; replace X1 := X1.below hJ; replace HB := Lib.hid (bt HB.out hJ); refine Jo.jdone (by kernel_rfl) ?_; go_wp2
  go_ret
  exact ⟨rfl, HB.out⟩
set_option maxHeartbeats 2000000 in
theorem jvmay_fp {w : World} {D M E D' M' E' : Int} {s s' : Bool} (hM : (M : Int) < 18446744073709551616) (hM' : (M' : Int) < 18446744073709551616) (hp : decide (MayQ D s M E) = false) {q : Bool} (hq : decide (MayQ D' s' M' E') = q) : Calls Tryz.prog 48 #[.agg #[.bool false, .int .i64 D, .bool s, .int .u64 M, .int .i64 E, .int .i64 D', .bool s', .int .u64 M', .int .i64 E']] w (PB w false) := by
  have HP := Lib.hid hp; have HQ := Lib.hid hq; clear hp hq
  go_enter Tryz.func48, Tryz.ntmps48
  go_upto_region 1 with (fail)
  generalize hW1 : w.alloc _ = w1 at *; obtain ⟨X1, HB⟩ := Bo.en1 hW1; clear hW1; obtain ⟨xX10, xX11, xX12, xX13, xX14, xX15, xX16, xX17, xX18⟩ := X1.u9
  go_wp2_with fail
  refine (yMay HP.out).mono ?_; rintro ee w2 ⟨rfl, B⟩; clear xX10 xX11 xX12 xX13 xX14 xX15 xX16 xX17 xX18; replace X1 := X1.below B; replace HB := Lib.hid (bt HB.out B); clear B; obtain ⟨xX10, xX11, xX12, xX13, xX14, xX15, xX16, xX17, xX18⟩ := X1.u9
  go_wp2_with fail
  refine (yMay HQ.out).mono ?_; rintro ee w3 ⟨rfl, B⟩; clear xX10 xX11 xX12 xX13 xX14 xX15 xX16 xX17 xX18; replace X1 := X1.below B; replace HB := Lib.hid (bt HB.out B); clear B; obtain ⟨xX10, xX11, xX12, xX13, xX14, xX15, xX16, xX17, xX18⟩ := X1.u9
  go_upto_region 5 with (fail)
  clear xX10 xX11 xX12 xX13 xX14 xX15 xX16 xX17 xX18; refine Jo.rj [0, 1, 2, 3, 4, 5, 6, 7, 8, 9, 10, 11, 12, 13, 14, 15, 16, 17, 18, 19, 20, 21, 22, 23, 24] [some 16, some 17, some 18, some 19, some 20, some 21, some 22, some 23, some 24, some 25, some 26, some 27, some 28, some 29, some 30, some 31, some 32, some 33, some 34, some 35, some 36, some 37, some 38, some 39, some 2] [[], [0], [1], [1, 2], [3], [4], [4, 5], [4], [4, 7], [4, 6, 8], [4, 9], [4, 10], [11], [12], [12, 13], [12], [12, 14, 15], [12, 16], [17], [18], [18, 19], [18], [18, 20, 21], [18, 22], [23]] 25 [(some 16, 0), (some 17, 1), (some 18, 2), (some 19, 3), (some 20, 4), (some 21, 5), (some 22, 6), (some 23, 7), (some 24, 8), (some 25, 9), (some 26, 10), (some 27, 11), (some 28, 12), (some 29, 13), (some 30, 14), (some 31, 15), (some 32, 16), (some 33, 17), (some 34, 18), (some 35, 19), (some 36, 20), (some 37, 21), (some 38, 22), (some 39, 23), (some 2, 24)] 0 [Jo.qb false, Jo.qb false, Jo.qu, Jo.qb false, Jo.qb false, Jo.qu, Jo.qu, Jo.qu, Jo.qu, Jo.qu, Jo.qu, Jo.qb false, Jo.qb false, Jo.qu, Jo.qu, Jo.qu, Jo.qu, Jo.qb false, Jo.qb false, Jo.qu, Jo.qu, Jo.qu, Jo.qu, Jo.qb false, Jo.qb false] (by kernel_rfl) (by kernel_rfl) (by decide) rfl rfl ?_ ?_
  · refine Jo.jn 0 (some 16) [] _ rfl rfl rfl rfl ?_ ?_
    · rintro wj hJ K hK; simp only [Jo.z] at hK ⊢; go_simp; exact hK.out _ _ rfl (br _ _)
    refine Jo.jn 1 (some 17) [(some 16, 0)] _ rfl rfl rfl rfl ?_ ?_
    · rintro wj hJ _ rfl K hK; simp only [Jo.z] at hK ⊢; go_simp; exact hK.out _ _ rfl (br _ _)
    refine Jo.jn 2 (some 18) [(some 17, 1)] _ rfl rfl rfl rfl ?_ ?_
    · rintro wj hJ _ rfl K hK; simp only [Jo.z] at hK ⊢; go_simp; exact hK.out _ _ rfl (br _ _)
    refine Jo.jn 3 (some 19) [(some 17, 1), (some 18, 2)] _ rfl rfl rfl rfl ?_ ?_
    · rintro wj hJ _ rfl _ rfl K hK; simp only [Jo.z] at hK ⊢; go_simp; exact hK.out _ _ rfl (br _ _)
    refine Jo.jn 4 (some 20) [(some 19, 3)] _ rfl rfl rfl rfl ?_ ?_
    · rintro wj hJ _ rfl K hK; simp only [Jo.z] at hK ⊢; go_simp; exact hK.out _ _ rfl (br _ _)
    refine Jo.jn 5 (some 21) [(some 20, 4)] _ rfl rfl rfl rfl ?_ ?_
    · rintro wj hJ _ rfl K hK; simp only [Jo.z] at hK ⊢; go_simp; exact hK.out _ _ rfl (br _ _)
    refine Jo.jn 6 (some 22) [(some 20, 4), (some 21, 5)] _ rfl rfl rfl rfl ?_ ?_
    · rintro wj hJ _ rfl _ rfl K hK; simp only [Jo.z] at hK ⊢; go_simp; exact hK.out _ _ rfl (br _ _)
    refine Jo.jn 7 (some 23) [(some 20, 4)] _ rfl rfl rfl rfl ?_ ?_
    · rintro wj hJ _ rfl K hK; simp only [Jo.z] at hK ⊢; go_simp; exact hK.out _ _ rfl (br _ _)
    refine Jo.jn 8 (some 24) [(some 20, 4), (some 23, 7)] _ rfl rfl rfl rfl ?_ ?_
    · rintro wj hJ _ rfl _ rfl K hK; simp only [Jo.z] at hK ⊢; go_simp; exact hK.out _ _ rfl (br _ _)
    refine Jo.jn 9 (some 25) [(some 20, 4), (some 22, 6), (some 24, 8)] _ rfl rfl rfl rfl ?_ ?_
    · rintro wj hJ _ rfl _ rfl _ rfl K hK; simp only [Jo.z] at hK ⊢; go_simp; exact hK.out _ _ rfl (br _ _)
    refine Jo.jn 10 (some 26) [(some 20, 4), (some 25, 9)] _ rfl rfl rfl rfl ?_ ?_
    · rintro wj hJ _ rfl _ rfl K hK; simp only [Jo.z] at hK ⊢; go_simp; exact hK.out _ _ rfl (br _ _)
    refine Jo.jn 11 (some 27) [(some 20, 4), (some 26, 10)] _ rfl rfl rfl rfl ?_ ?_
    · rintro wj hJ _ rfl _ rfl K hK; simp only [Jo.z] at hK ⊢; go_simp; exact hK.out _ _ rfl (br _ _)
    refine Jo.jn 12 (some 28) [(some 27, 11)] _ rfl rfl rfl rfl ?_ ?_
    · rintro wj hJ _ rfl K hK; simp only [Jo.z] at hK ⊢; go_simp; exact hK.out _ _ rfl (br _ _)
    refine Jo.jn 13 (some 29) [(some 28, 12)] _ rfl rfl rfl rfl ?_ ?_
    · rintro wj hJ _ rfl K hK; simp only [Jo.z] at hK ⊢; go_simp; exact hK.out _ _ rfl (br _ _)
    refine Jo.jn 14 (some 30) [(some 28, 12), (some 29, 13)] _ rfl rfl rfl rfl ?_ ?_
    · rintro wj hJ _ rfl _ rfl K hK; simp only [Jo.z] at hK ⊢; go_simp; exact hK.out _ _ rfl (br _ _)
    refine Jo.jn 15 (some 31) [(some 28, 12)] _ rfl rfl rfl rfl ?_ ?_
    · rintro wj hJ _ rfl K hK; simp only [Jo.z] at hK ⊢; go_simp; exact hK.out _ _ rfl (br _ _)
    refine Jo.jn 16 (some 32) [(some 28, 12), (some 30, 14), (some 31, 15)] _ rfl rfl rfl rfl ?_ ?_
    · rintro wj hJ _ rfl _ rfl _ rfl K hK; simp only [Jo.z] at hK ⊢; go_simp; exact hK.out _ _ rfl (br _ _)
    refine Jo.jn 17 (some 33) [(some 28, 12), (some 32, 16)] _ rfl rfl rfl rfl ?_ ?_
    · rintro wj hJ _ rfl _ rfl K hK; simp only [Jo.z] at hK ⊢; go_simp; exact hK.out _ _ rfl (br _ _)
    refine Jo.jn 18 (some 34) [(some 33, 17)] _ rfl rfl rfl rfl ?_ ?_
    · rintro wj hJ _ rfl K hK; simp only [Jo.z] at hK ⊢; go_simp; exact hK.out _ _ rfl (br _ _)
    refine Jo.jn 19 (some 35) [(some 34, 18)] _ rfl rfl rfl rfl ?_ ?_
    · rintro wj hJ _ rfl K hK; simp only [Jo.z] at hK ⊢; go_simp; exact hK.out _ _ rfl (br _ _)
    refine Jo.jn 20 (some 36) [(some 34, 18), (some 35, 19)] _ rfl rfl rfl rfl ?_ ?_
    · rintro wj hJ _ rfl _ rfl K hK; simp only [Jo.z] at hK ⊢; go_simp; exact hK.out _ _ rfl (br _ _)
    refine Jo.jn 21 (some 37) [(some 34, 18)] _ rfl rfl rfl rfl ?_ ?_
    · rintro wj hJ _ rfl K hK; simp only [Jo.z] at hK ⊢; go_simp; exact hK.out _ _ rfl (br _ _)
    refine Jo.jn 22 (some 38) [(some 34, 18), (some 36, 20), (some 37, 21)] _ rfl rfl rfl rfl ?_ ?_
    · rintro wj hJ _ rfl _ rfl _ rfl K hK; simp only [Jo.z] at hK ⊢; go_simp; exact hK.out _ _ rfl (br _ _)
    refine Jo.jn 23 (some 39) [(some 34, 18), (some 38, 22)] _ rfl rfl rfl rfl ?_ ?_
    · rintro wj hJ _ rfl _ rfl K hK; simp only [Jo.z] at hK ⊢; go_simp; exact hK.out _ _ rfl (br _ _)
    refine Jo.jn 24 (some 2) [(some 39, 23)] _ rfl rfl rfl rfl ?_ ?_
    · rintro wj hJ _ rfl K hK; simp only [Jo.z] at hK ⊢; go_simp; exact hK.out _ _ rfl (br _ _)
    exact Jo.Steps.nil
  rintro w8 hJ _ rfl _ rfl _ rfl _ rfl _ rfl _ rfl _ rfl _ rfl _ rfl _ rfl _ rfl _ rfl _ rfl _ rfl _ rfl _ rfl _ rfl _ rfl _ rfl _ rfl _ rfl _ rfl _ rfl _ rfl _ rfl -; simp only [Jo.z]; replace X1 := X1.below hJ; replace HB := Lib.hid (bt HB.out hJ); refine Jo.jdone (by kernel_rfl) ?_; go_wp2
  go_ret
  exact ⟨rfl, HB.out⟩
set_option maxHeartbeats 2000000 in
theorem jvmay_fq {w : World} {D M E D' M' E' : Int} {s s' : Bool} (hM : (M : Int) < 18446744073709551616) (hM' : (M' : Int) < 18446744073709551616) (hp : decide (MayQ D s M E) = true) (hq : decide (MayQ D' s' M' E') = false) : Calls Tryz.prog 48 #[.agg #[.bool false, .int .i64 D, .bool s, .int .u64 M, .int .i64 E, .int .i64 D', .bool s', .int .u64 M', .int .i64 E']] w (PB w false) := by
  have HP := Lib.hid hp; have HQ := Lib.hid hq; clear hp hq
  go_enter Tryz.func48, Tryz.ntmps48
  go_upto_region 1 with (fail)
  generalize hW1 : w.alloc _ = w1 at *; obtain ⟨X1, HB⟩ := Bo.en1 hW1; clear hW1; obtain ⟨xX10, xX11, xX12, xX13, xX14, xX15, xX16, xX17, xX18⟩ := X1.u9
  go_wp2_with fail
  refine (yMay HP.out).mono ?_; rintro ee w2 ⟨rfl, B⟩; clear xX10 xX11 xX12 xX13 xX14 xX15 xX16 xX17 xX18; replace X1 := X1.below B; replace HB := Lib.hid (bt HB.out B); clear B; obtain ⟨xX10, xX11, xX12, xX13, xX14, xX15, xX16, xX17, xX18⟩ := X1.u9
  go_wp2_with fail
  refine (yMay HQ.out).mono ?_; rintro ee w3 ⟨rfl, B⟩; clear xX10 xX11 xX12 xX13 xX14 xX15 xX16 xX17 xX18; replace X1 := X1.below B; replace HB := Lib.hid (bt HB.out B); clear B; obtain ⟨xX10, xX11, xX12, xX13, xX14, xX15, xX16, xX17, xX18⟩ := X1.u9
  go_upto_region 5 with (fail)
  clear xX10 xX11 xX12 xX13 xX14 xX15 xX16 xX17 xX18; refine Jo.rj [0, 1, 2, 3, 4, 5, 6, 7, 8, 9, 10, 11, 12, 13, 14, 15, 16, 17, 18, 19, 20, 21, 22, 23, 24] [some 16, some 17, some 18, some 19, some 20, some 21, some 22, some 23, some 24, some 25, some 26, some 27, some 28, some 29, some 30, some 31, some 32, some 33, some 34, some 35, some 36, some 37, some 38, some 39, some 2] [[], [0], [1], [1, 2], [3], [4], [4, 5], [4], [4, 7], [4, 6, 8], [4, 9], [4, 10], [11], [12], [12, 13], [12], [12, 14, 15], [12, 16], [17], [18], [18, 19], [18], [18, 20, 21], [18, 22], [23]] 25 [(some 16, 0), (some 17, 1), (some 18, 2), (some 19, 3), (some 20, 4), (some 21, 5), (some 22, 6), (some 23, 7), (some 24, 8), (some 25, 9), (some 26, 10), (some 27, 11), (some 28, 12), (some 29, 13), (some 30, 14), (some 31, 15), (some 32, 16), (some 33, 17), (some 34, 18), (some 35, 19), (some 36, 20), (some 37, 21), (some 38, 22), (some 39, 23), (some 2, 24)] 0 [Jo.qb true, Jo.qb true, Jo.qb false, Jo.qb false, Jo.qb false, Jo.qu, Jo.qu, Jo.qu, Jo.qu, Jo.qu, Jo.qu, Jo.qb false, Jo.qb false, Jo.qu, Jo.qu, Jo.qu, Jo.qu, Jo.qb false, Jo.qb false, Jo.qu, Jo.qu, Jo.qu, Jo.qu, Jo.qb false, Jo.qb false] (by kernel_rfl) (by kernel_rfl) (by decide) rfl rfl ?_ ?_
  · refine Jo.jn 0 (some 16) [] _ rfl rfl rfl rfl ?_ ?_
    · rintro wj hJ K hK; simp only [Jo.z] at hK ⊢; go_simp; exact hK.out _ _ rfl (br _ _)
    refine Jo.jn 1 (some 17) [(some 16, 0)] _ rfl rfl rfl rfl ?_ ?_
    · rintro wj hJ _ rfl K hK; simp only [Jo.z] at hK ⊢; go_simp; exact hK.out _ _ rfl (br _ _)
    refine Jo.jn 2 (some 18) [(some 17, 1)] _ rfl rfl rfl rfl ?_ ?_
    · rintro wj hJ _ rfl K hK; simp only [Jo.z] at hK ⊢; go_simp; exact hK.out _ _ rfl (br _ _)
    refine Jo.jn 3 (some 19) [(some 17, 1), (some 18, 2)] _ rfl rfl rfl rfl ?_ ?_
    · rintro wj hJ _ rfl _ rfl K hK; simp only [Jo.z] at hK ⊢; go_simp; exact hK.out _ _ rfl (br _ _)
    refine Jo.jn 4 (some 20) [(some 19, 3)] _ rfl rfl rfl rfl ?_ ?_
    · rintro wj hJ _ rfl K hK; simp only [Jo.z] at hK ⊢; go_simp; exact hK.out _ _ rfl (br _ _)
    refine Jo.jn 5 (some 21) [(some 20, 4)] _ rfl rfl rfl rfl ?_ ?_
    · rintro wj hJ _ rfl K hK; simp only [Jo.z] at hK ⊢; go_simp; exact hK.out _ _ rfl (br _ _)
    refine Jo.jn 6 (some 22) [(some 20, 4), (some 21, 5)] _ rfl rfl rfl rfl ?_ ?_
    · rintro wj hJ _ rfl _ rfl K hK; simp only [Jo.z] at hK ⊢; go_simp; exact hK.out _ _ rfl (br _ _)
    refine Jo.jn 7 (some 23) [(some 20, 4)] _ rfl rfl rfl rfl ?_ ?_
    · rintro wj hJ _ rfl K hK; simp only [Jo.z] at hK ⊢; go_simp; exact hK.out _ _ rfl (br _ _)
    refine Jo.jn 8 (some 24) [(some 20, 4), (some 23, 7)] _ rfl rfl rfl rfl ?_ ?_
    · rintro wj hJ _ rfl _ rfl K hK; simp only [Jo.z] at hK ⊢; go_simp; exact hK.out _ _ rfl (br _ _)
    refine Jo.jn 9 (some 25) [(some 20, 4), (some 22, 6), (some 24, 8)] _ rfl rfl rfl rfl ?_ ?_
    · rintro wj hJ _ rfl _ rfl _ rfl K hK; simp only [Jo.z] at hK ⊢; go_simp; exact hK.out _ _ rfl (br _ _)
    refine Jo.jn 10 (some 26) [(some 20, 4), (some 25, 9)] _ rfl rfl rfl rfl ?_ ?_
    · rintro wj hJ _ rfl _ rfl K hK; simp only [Jo.z] at hK ⊢; go_simp; exact hK.out _ _ rfl (br _ _)
    refine Jo.jn 11 (some 27) [(some 20, 4), (some 26, 10)] _ rfl rfl rfl rfl ?_ ?_
    · rintro wj hJ _ rfl _ rfl K hK; simp only [Jo.z] at hK ⊢; go_simp; exact hK.out _ _ rfl (br _ _)
    refine Jo.jn 12 (some 28) [(some 27, 11)] _ rfl rfl rfl rfl ?_ ?_
    · rintro wj hJ _ rfl K hK; simp only [Jo.z] at hK ⊢; go_simp; exact hK.out _ _ rfl (br _ _)
    refine Jo.jn 13 (some 29) [(some 28, 12)] _ rfl rfl rfl rfl ?_ ?_
    · rintro wj hJ _ rfl K hK; simp only [Jo.z] at hK ⊢; go_simp; exact hK.out _ _ rfl (br _ _)
    refine Jo.jn 14 (some 30) [(some 28, 12), (some 29, 13)] _ rfl rfl rfl rfl ?_ ?_
    · rintro wj hJ _ rfl _ rfl K hK; simp only [Jo.z] at hK ⊢; go_simp; exact hK.out _ _ rfl (br _ _)
    refine Jo.jn 15 (some 31) [(some 28, 12)] _ rfl rfl rfl rfl ?_ ?_
    · rintro wj hJ _ rfl K hK; simp only [Jo.z] at hK ⊢; go_simp; exact hK.out _ _ rfl (br _ _)
    refine Jo.jn 16 (some 32) [(some 28, 12), (some 30, 14), (some 31, 15)] _ rfl rfl rfl rfl ?_ ?_
    · rintro wj hJ _ rfl _ rfl _ rfl K hK; simp only [Jo.z] at hK ⊢; go_simp; exact hK.out _ _ rfl (br _ _)
    refine Jo.jn 17 (some 33) [(some 28, 12), (some 32, 16)] _ rfl rfl rfl rfl ?_ ?_
    · rintro wj hJ _ rfl _ rfl K hK; simp only [Jo.z] at hK ⊢; go_simp; exact hK.out _ _ rfl (br _ _)
    refine Jo.jn 18 (some 34) [(some 33, 17)] _ rfl rfl rfl rfl ?_ ?_
    · rintro wj hJ _ rfl K hK; simp only [Jo.z] at hK ⊢; go_simp; exact hK.out _ _ rfl (br _ _)
    refine Jo.jn 19 (some 35) [(some 34, 18)] _ rfl rfl rfl rfl ?_ ?_
    · rintro wj hJ _ rfl K hK; simp only [Jo.z] at hK ⊢; go_simp; exact hK.out _ _ rfl (br _ _)
    refine Jo.jn 20 (some 36) [(some 34, 18), (some 35, 19)] _ rfl rfl rfl rfl ?_ ?_
    · rintro wj hJ _ rfl _ rfl K hK; simp only [Jo.z] at hK ⊢; go_simp; exact hK.out _ _ rfl (br _ _)
    refine Jo.jn 21 (some 37) [(some 34, 18)] _ rfl rfl rfl rfl ?_ ?_
    · rintro wj hJ _ rfl K hK; simp only [Jo.z] at hK ⊢; go_simp; exact hK.out _ _ rfl (br _ _)
    refine Jo.jn 22 (some 38) [(some 34, 18), (some 36, 20), (some 37, 21)] _ rfl rfl rfl rfl ?_ ?_
    · rintro wj hJ _ rfl _ rfl _ rfl K hK; simp only [Jo.z] at hK ⊢; go_simp; exact hK.out _ _ rfl (br _ _)
    refine Jo.jn 23 (some 39) [(some 34, 18), (some 38, 22)] _ rfl rfl rfl rfl ?_ ?_
    · rintro wj hJ _ rfl _ rfl K hK; simp only [Jo.z] at hK ⊢; go_simp; exact hK.out _ _ rfl (br _ _)
    refine Jo.jn 24 (some 2) [(some 39, 23)] _ rfl rfl rfl rfl ?_ ?_
    · rintro wj hJ _ rfl K hK; simp only [Jo.z] at hK ⊢; go_simp; exact hK.out _ _ rfl (br _ _)
    exact Jo.Steps.nil
  rintro w8 hJ _ rfl _ rfl _ rfl _ rfl _ rfl _ rfl _ rfl _ rfl _ rfl _ rfl _ rfl _ rfl _ rfl _ rfl _ rfl _ rfl _ rfl _ rfl _ rfl _ rfl _ rfl _ rfl _ rfl _ rfl _ rfl -; simp only [Jo.z]; replace X1 := X1.below hJ; replace HB := Lib.hid (bt HB.out hJ); refine Jo.jdone (by kernel_rfl) ?_; go_wp2
  go_ret
  exact ⟨rfl, HB.out⟩
set_option maxHeartbeats 2000000 in
theorem jvmay_fc {w : World} {D M E D' M' E' c : Int} {s s' : Bool} (hM : (M : Int) < 18446744073709551616) (hM' : (M' : Int) < 18446744073709551616) (hp : decide (MayQ D s M E) = true) (hq : decide (MayQ D' s' M' E') = true) (hc : cmpI (rk D s M E) (rk D' s' M' E') = c) (hc0 : decide (c ≤ 0) = false) : Calls Tryz.prog 48 #[.agg #[.bool false, .int .i64 D, .bool s, .int .u64 M, .int .i64 E, .int .i64 D', .bool s', .int .u64 M', .int .i64 E']] w (PB w false) := by
  have HP := Lib.hid hp; have HQ := Lib.hid hq; have HC := Lib.hid hc; have HC0 := Lib.hid hc0; clear hp hq hc hc0
  go_enter Tryz.func48, Tryz.ntmps48
  go_upto_region 1 with (fail)
  generalize hW1 : w.alloc _ = w1 at *; obtain ⟨X1, HB⟩ := Bo.en1 hW1; clear hW1; obtain ⟨xX10, xX11, xX12, xX13, xX14, xX15, xX16, xX17, xX18⟩ := X1.u9
  go_wp2_with fail
  refine (yMay HP.out).mono ?_; rintro ee w2 ⟨rfl, B⟩; clear xX10 xX11 xX12 xX13 xX14 xX15 xX16 xX17 xX18; replace X1 := X1.below B; replace HB := Lib.hid (bt HB.out B); clear B; obtain ⟨xX10, xX11, xX12, xX13, xX14, xX15, xX16, xX17, xX18⟩ := X1.u9
  go_wp2_with fail
  refine (yMay HQ.out).mono ?_; rintro ee w3 ⟨rfl, B⟩; clear xX10 xX11 xX12 xX13 xX14 xX15 xX16 xX17 xX18; replace X1 := X1.below B; replace HB := Lib.hid (bt HB.out B); clear B; obtain ⟨xX10, xX11, xX12, xX13, xX14, xX15, xX16, xX17, xX18⟩ := X1.u9
  go_upto_region 5 with (fail)
  clear xX10 xX11 xX12 xX13 xX14 xX15 xX16 xX17 xX18; refine Jo.rj [0, 1, 2, 3, 4, 5, 6, 7, 8, 9, 10, 11, 12, 13, 14, 15, 16, 17, 18, 19, 20, 21, 22, 23, 24] [some 16, some 17, some 18, some 19, some 20, some 21, some 22, some 23, some 24, some 25, some 26, some 27, some 28, some 29, some 30, some 31, some 32, some 33, some 34, some 35, some 36, some 37, some 38, some 39, some 2] [[], [0], [1], [1, 2], [3], [4], [4, 5], [4], [4, 7], [4, 6, 8], [4, 9], [4, 10], [11], [12], [12, 13], [12], [12, 14, 15], [12, 16], [17], [18], [18, 19], [18], [18, 20, 21], [18, 22], [23]] 25 [(some 16, 0), (some 17, 1), (some 18, 2), (some 19, 3), (some 20, 4), (some 21, 5), (some 22, 6), (some 23, 7), (some 24, 8), (some 25, 9), (some 26, 10), (some 27, 11), (some 28, 12), (some 29, 13), (some 30, 14), (some 31, 15), (some 32, 16), (some 33, 17), (some 34, 18), (some 35, 19), (some 36, 20), (some 37, 21), (some 38, 22), (some 39, 23), (some 2, 24)] 0 [Jo.qb true, Jo.qb true, Jo.qb true, Jo.qb true, Jo.qb true, Jo.qp w.heap.size 1, Jo.q4 D s M E, Jo.qp w.heap.size 5, Jo.q4 D' s' M' E', Jo.qi c, Jo.qb false, Jo.qb false, Jo.qb false, Jo.qu, Jo.qu, Jo.qu, Jo.qu, Jo.qb false, Jo.qb false, Jo.qu, Jo.qu, Jo.qu, Jo.qu, Jo.qb false, Jo.qb false] (by kernel_rfl) (by kernel_rfl) (by decide) rfl rfl ?_ ?_
  · refine Jo.jn 0 (some 16) [] _ rfl rfl rfl rfl ?_ ?_
    · rintro wj hJ K hK; simp only [Jo.z] at hK ⊢; go_simp; exact hK.out _ _ rfl (br _ _)
    refine Jo.jn 1 (some 17) [(some 16, 0)] _ rfl rfl rfl rfl ?_ ?_
    · rintro wj hJ _ rfl K hK; simp only [Jo.z] at hK ⊢; go_simp; exact hK.out _ _ rfl (br _ _)
    refine Jo.jn 2 (some 18) [(some 17, 1)] _ rfl rfl rfl rfl ?_ ?_
    · rintro wj hJ _ rfl K hK; simp only [Jo.z] at hK ⊢; go_simp; exact hK.out _ _ rfl (br _ _)
    refine Jo.jn 3 (some 19) [(some 17, 1), (some 18, 2)] _ rfl rfl rfl rfl ?_ ?_
    · rintro wj hJ _ rfl _ rfl K hK; simp only [Jo.z] at hK ⊢; go_simp; exact hK.out _ _ rfl (br _ _)
    refine Jo.jn 4 (some 20) [(some 19, 3)] _ rfl rfl rfl rfl ?_ ?_
    · rintro wj hJ _ rfl K hK; simp only [Jo.z] at hK ⊢; go_simp; exact hK.out _ _ rfl (br _ _)
    refine Jo.jn 5 (some 21) [(some 20, 4)] _ rfl rfl rfl rfl ?_ ?_
    · rintro wj hJ _ rfl K hK; simp only [Jo.z] at hK ⊢; go_simp; exact hK.out _ _ rfl (br _ _)
    refine Jo.jn 6 (some 22) [(some 20, 4), (some 21, 5)] _ rfl rfl rfl rfl ?_ ?_
    · rintro wj hJ _ rfl _ rfl K hK; simp only [Jo.z] at hK ⊢; obtain ⟨xX11, xX12, xX13, xX14⟩ := (X1.below hJ).w9; go_simp; exact hK.out _ _ rfl (br _ _)
    refine Jo.jn 7 (some 23) [(some 20, 4)] _ rfl rfl rfl rfl ?_ ?_
    · rintro wj hJ _ rfl K hK; simp only [Jo.z] at hK ⊢; go_simp; exact hK.out _ _ rfl (br _ _)
    refine Jo.jn 8 (some 24) [(some 20, 4), (some 23, 7)] _ rfl rfl rfl rfl ?_ ?_
    · rintro wj hJ _ rfl _ rfl K hK; simp only [Jo.z] at hK ⊢; obtain ⟨xX15, xX16, xX17, xX18⟩ := (X1.below hJ).v9; go_simp; exact hK.out _ _ rfl (br _ _)
    refine Jo.jn 9 (some 25) [(some 20, 4), (some 22, 6), (some 24, 8)] _ rfl rfl rfl rfl ?_ ?_
    · rintro wj hJ _ rfl _ rfl _ rfl K hK; simp only [Jo.z] at hK ⊢; go_simp; refine (yCmp hM hM' HC.out).mono ?_; rintro ee wk ⟨rfl, B⟩; exact hK.out _ _ rfl B
    refine Jo.jn 10 (some 26) [(some 20, 4), (some 25, 9)] _ rfl rfl rfl rfl ?_ ?_
    · rintro wj hJ _ rfl _ rfl K hK; simp only [Jo.z] at hK ⊢; have hc0 := HC0.out; go_simp
      exact hK.out _ _ (by first | rfl | (show Value.bool _ = Value.bool _; rw [hc0]) | simp_all) (br _ _)
    refine Jo.jn 11 (some 27) [(some 20, 4), (some 26, 10)] _ rfl rfl rfl rfl ?_ ?_
    · rintro wj hJ _ rfl _ rfl K hK; simp only [Jo.z] at hK ⊢; go_simp; exact hK.out _ _ rfl (br _ _)
    refine Jo.jn 12 (some 28) [(some 27, 11)] _ rfl rfl rfl rfl ?_ ?_
    · rintro wj hJ _ rfl K hK; simp only [Jo.z] at hK ⊢; go_simp; exact hK.out _ _ rfl (br _ _)
    refine Jo.jn 13 (some 29) [(some 28, 12)] _ rfl rfl rfl rfl ?_ ?_
    · rintro wj hJ _ rfl K hK; simp only [Jo.z] at hK ⊢; go_simp; exact hK.out _ _ rfl (br _ _)
    refine Jo.jn 14 (some 30) [(some 28, 12), (some 29, 13)] _ rfl rfl rfl rfl ?_ ?_
    · rintro wj hJ _ rfl _ rfl K hK; simp only [Jo.z] at hK ⊢; go_simp; exact hK.out _ _ rfl (br _ _)
    refine Jo.jn 15 (some 31) [(some 28, 12)] _ rfl rfl rfl rfl ?_ ?_
    · rintro wj hJ _ rfl K hK; simp only [Jo.z] at hK ⊢; go_simp; exact hK.out _ _ rfl (br _ _)
    refine Jo.jn 16 (some 32) [(some 28, 12), (some 30, 14), (some 31, 15)] _ rfl rfl rfl rfl ?_ ?_
    · rintro wj hJ _ rfl _ rfl _ rfl K hK; simp only [Jo.z] at hK ⊢; go_simp; exact hK.out _ _ rfl (br _ _)
    refine Jo.jn 17 (some 33) [(some 28, 12), (some 32, 16)] _ rfl rfl rfl rfl ?_ ?_
    · rintro wj hJ _ rfl _ rfl K hK; simp only [Jo.z] at hK ⊢; go_simp; exact hK.out _ _ rfl (br _ _)
    refine Jo.jn 18 (some 34) [(some 33, 17)] _ rfl rfl rfl rfl ?_ ?_
    · rintro wj hJ _ rfl K hK; simp only [Jo.z] at hK ⊢; go_simp; exact hK.out _ _ rfl (br _ _)
    refine Jo.jn 19 (some 35) [(some 34, 18)] _ rfl rfl rfl rfl ?_ ?_
    · rintro wj hJ _ rfl K hK; simp only [Jo.z] at hK ⊢; go_simp; exact hK.out _ _ rfl (br _ _)
    refine Jo.jn 20 (some 36) [(some 34, 18), (some 35, 19)] _ rfl rfl rfl rfl ?_ ?_
    · rintro wj hJ _ rfl _ rfl K hK; simp only [Jo.z] at hK ⊢; go_simp; exact hK.out _ _ rfl (br _ _)
    refine Jo.jn 21 (some 37) [(some 34, 18)] _ rfl rfl rfl rfl ?_ ?_
    · rintro wj hJ _ rfl K hK; simp only [Jo.z] at hK ⊢; go_simp; exact hK.out _ _ rfl (br _ _)
    refine Jo.jn 22 (some 38) [(some 34, 18), (some 36, 20), (some 37, 21)] _ rfl rfl rfl rfl ?_ ?_
    · rintro wj hJ _ rfl _ rfl _ rfl K hK; simp only [Jo.z] at hK ⊢; go_simp; exact hK.out _ _ rfl (br _ _)
    refine Jo.jn 23 (some 39) [(some 34, 18), (some 38, 22)] _ rfl rfl rfl rfl ?_ ?_
    · rintro wj hJ _ rfl _ rfl K hK; simp only [Jo.z] at hK ⊢; go_simp; exact hK.out _ _ rfl (br _ _)
    refine Jo.jn 24 (some 2) [(some 39, 23)] _ rfl rfl rfl rfl ?_ ?_
    · rintro wj hJ _ rfl K hK; simp only [Jo.z] at hK ⊢; go_simp; exact hK.out _ _ rfl (br _ _)
    exact Jo.Steps.nil
  rintro w8 hJ _ rfl _ rfl _ rfl _ rfl _ rfl _ _ _ rfl _ _ _ rfl _ rfl _ rfl _ rfl _ rfl _ rfl _ rfl _ rfl _ rfl _ rfl _ rfl _ rfl _ rfl _ rfl _ rfl _ rfl _ rfl -; simp only [Jo.z]; replace X1 := X1.below hJ; replace HB := Lib.hid (bt HB.out hJ); refine Jo.jdone (by kernel_rfl) ?_; go_wp2
  go_ret
  exact ⟨rfl, HB.out⟩
set_option maxHeartbeats 2000000 in
theorem jvmay_ft {w : World} {D' M' E' c : Int} {s' : Bool} (hM : (0 : Int) < 18446744073709551616) (hM' : (M' : Int) < 18446744073709551616) (hq : decide (MayQ D' s' M' E') = true) (hc : cmpI (rk 2 false 0 0) (rk D' s' M' E') = c) (hc0 : decide (c ≤ 0) = true) : Calls Tryz.prog 48 #[.agg #[.bool false, .int .i64 2, .bool false, .int .u64 0, .int .i64 0, .int .i64 D', .bool s', .int .u64 M', .int .i64 E']] w (PB w false) := by
  have HP : Hid (decide (MayQ 2 false 0 0) = true) := Lib.hid (by decide)
  have HN1 := Lib.hid trivial; have HQ := Lib.hid hq; have HC := Lib.hid hc; have HC0 := Lib.hid hc0; clear hq hc hc0
  go_enter Tryz.func48, Tryz.ntmps48
  go_upto_region 1 with (fail)
  generalize hW1 : w.alloc _ = w1 at *; obtain ⟨X1, HB⟩ := Bo.en1 hW1; clear hW1; obtain ⟨xX10, xX11, xX12, xX13, xX14, xX15, xX16, xX17, xX18⟩ := X1.u9
  go_wp2_with fail
  refine (yMay HP.out).mono ?_; rintro ee w2 ⟨rfl, B⟩; clear xX10 xX11 xX12 xX13 xX14 xX15 xX16 xX17 xX18; replace X1 := X1.below B; replace HB := Lib.hid (bt HB.out B); clear B; obtain ⟨xX10, xX11, xX12, xX13, xX14, xX15, xX16, xX17, xX18⟩ := X1.u9
  go_wp2_with fail
  refine (yMay HQ.out).mono ?_; rintro ee w3 ⟨rfl, B⟩; clear xX10 xX11 xX12 xX13 xX14 xX15 xX16 xX17 xX18; replace X1 := X1.below B; replace HB := Lib.hid (bt HB.out B); clear B; obtain ⟨xX10, xX11, xX12, xX13, xX14, xX15, xX16, xX17, xX18⟩ := X1.u9
  go_upto_region 5 with (fail)
  clear xX10 xX11 xX12 xX13 xX14 xX15 xX16 xX17 xX18; refine Jo.rj [0, 1, 2, 3, 4, 5, 6, 7, 8, 9, 10, 11, 12, 13, 14, 15, 16, 17, 18, 19, 20, 21, 22, 23, 24] [some 16, some 17, some 18, some 19, some 20, some 21, some 22, some 23, some 24, some 25, some 26, some 27, some 28, some 29, some 30, some 31, some 32, some 33, some 34, some 35, some 36, some 37, some 38, some 39, some 2] [[], [0], [1], [1, 2], [3], [4], [4, 5], [4], [4, 7], [4, 6, 8], [4, 9], [4, 10], [11], [12], [12, 13], [12], [12, 14, 15], [12, 16], [17], [18], [18, 19], [18], [18, 20, 21], [18, 22], [23]] 25 [(some 16, 0), (some 17, 1), (some 18, 2), (some 19, 3), (some 20, 4), (some 21, 5), (some 22, 6), (some 23, 7), (some 24, 8), (some 25, 9), (some 26, 10), (some 27, 11), (some 28, 12), (some 29, 13), (some 30, 14), (some 31, 15), (some 32, 16), (some 33, 17), (some 34, 18), (some 35, 19), (some 36, 20), (some 37, 21), (some 38, 22), (some 39, 23), (some 2, 24)] 0 [Jo.qb true, Jo.qb true, Jo.qb true, Jo.qb true, Jo.qb true, Jo.qp w.heap.size 1, Jo.q4 2 false 0 0, Jo.qp w.heap.size 5, Jo.q4 D' s' M' E', Jo.qi c, Jo.qb true, Jo.qb true, Jo.qb true, Jo.qp w.heap.size 1, Jo.q4 2 false 0 0, Jo.q4 2 false 0 0, Jo.qb false, Jo.qb false, Jo.qb false, Jo.qu, Jo.qu, Jo.qu, Jo.qu, Jo.qb false, Jo.qb false] (by kernel_rfl) (by kernel_rfl) (by decide) rfl rfl ?_ ?_
  · refine Jo.jn 0 (some 16) [] _ rfl rfl rfl rfl ?_ ?_
    · rintro wj hJ K hK; simp only [Jo.z] at hK ⊢; go_simp; exact hK.out _ _ rfl (br _ _)
    refine Jo.jn 1 (some 17) [(some 16, 0)] _ rfl rfl rfl rfl ?_ ?_
    · rintro wj hJ _ rfl K hK; simp only [Jo.z] at hK ⊢; go_simp; exact hK.out _ _ rfl (br _ _)
    refine Jo.jn 2 (some 18) [(some 17, 1)] _ rfl rfl rfl rfl ?_ ?_
    · rintro wj hJ _ rfl K hK; simp only [Jo.z] at hK ⊢; go_simp; exact hK.out _ _ rfl (br _ _)
    refine Jo.jn 3 (some 19) [(some 17, 1), (some 18, 2)] _ rfl rfl rfl rfl ?_ ?_
    · rintro wj hJ _ rfl _ rfl K hK; simp only [Jo.z] at hK ⊢; go_simp; exact hK.out _ _ rfl (br _ _)
    refine Jo.jn 4 (some 20) [(some 19, 3)] _ rfl rfl rfl rfl ?_ ?_
    · rintro wj hJ _ rfl K hK; simp only [Jo.z] at hK ⊢; go_simp; exact hK.out _ _ rfl (br _ _)
    refine Jo.jn 5 (some 21) [(some 20, 4)] _ rfl rfl rfl rfl ?_ ?_
    · rintro wj hJ _ rfl K hK; simp only [Jo.z] at hK ⊢; go_simp; exact hK.out _ _ rfl (br _ _)
    refine Jo.jn 6 (some 22) [(some 20, 4), (some 21, 5)] _ rfl rfl rfl rfl ?_ ?_
    · rintro wj hJ _ rfl _ rfl K hK; simp only [Jo.z] at hK ⊢; obtain ⟨xX11, xX12, xX13, xX14⟩ := (X1.below hJ).w9; go_simp; exact hK.out _ _ rfl (br _ _)
    refine Jo.jn 7 (some 23) [(some 20, 4)] _ rfl rfl rfl rfl ?_ ?_
    · rintro wj hJ _ rfl K hK; simp only [Jo.z] at hK ⊢; go_simp; exact hK.out _ _ rfl (br _ _)
    refine Jo.jn 8 (some 24) [(some 20, 4), (some 23, 7)] _ rfl rfl rfl rfl ?_ ?_
    · rintro wj hJ _ rfl _ rfl K hK; simp only [Jo.z] at hK ⊢; obtain ⟨xX15, xX16, xX17, xX18⟩ := (X1.below hJ).v9; go_simp; exact hK.out _ _ rfl (br _ _)
    refine Jo.jn 9 (some 25) [(some 20, 4), (some 22, 6), (some 24, 8)] _ rfl rfl rfl rfl ?_ ?_
    · rintro wj hJ _ rfl _ rfl _ rfl K hK; simp only [Jo.z] at hK ⊢; go_simp; refine (yCmp hM hM' HC.out).mono ?_; rintro ee wk ⟨rfl, B⟩; exact hK.out _ _ rfl B
    refine Jo.jn 10 (some 26) [(some 20, 4), (some 25, 9)] _ rfl rfl rfl rfl ?_ ?_
    · rintro wj hJ _ rfl _ rfl K hK; simp only [Jo.z] at hK ⊢; have hc0 := HC0.out; go_simp
      exact hK.out _ _ (by first | rfl | (show Value.bool _ = Value.bool _; rw [hc0]) | simp_all) (br _ _)
    refine Jo.jn 11 (some 27) [(some 20, 4), (some 26, 10)] _ rfl rfl rfl rfl ?_ ?_
    · rintro wj hJ _ rfl _ rfl K hK; simp only [Jo.z] at hK ⊢; go_simp; exact hK.out _ _ rfl (br _ _)
    refine Jo.jn 12 (some 28) [(some 27, 11)] _ rfl rfl rfl rfl ?_ ?_
    · rintro wj hJ _ rfl K hK; simp only [Jo.z] at hK ⊢; go_simp; exact hK.out _ _ rfl (br _ _)
    refine Jo.jn 13 (some 29) [(some 28, 12)] _ rfl rfl rfl rfl ?_ ?_
    · rintro wj hJ _ rfl K hK; simp only [Jo.z] at hK ⊢; go_simp; exact hK.out _ _ rfl (br _ _)
    refine Jo.jn 14 (some 30) [(some 28, 12), (some 29, 13)] _ rfl rfl rfl rfl ?_ ?_
    · rintro wj hJ _ rfl _ rfl K hK; simp only [Jo.z] at hK ⊢; obtain ⟨xX11, xX12, xX13, xX14⟩ := (X1.below hJ).w9; go_simp; exact hK.out _ _ rfl (br _ _)
    refine Jo.jn 15 (some 31) [(some 28, 12)] _ rfl rfl rfl rfl ?_ ?_
    · rintro wj hJ _ rfl K hK; simp only [Jo.z] at hK ⊢; go_simp; refine (yInfE false).mono ?_; rintro ee wk ⟨rfl, B⟩; exact hK.out _ _ rfl B
    refine Jo.jn 16 (some 32) [(some 28, 12), (some 30, 14), (some 31, 15)] _ rfl rfl rfl rfl ?_ ?_
    · rintro wj hJ _ rfl _ rfl _ rfl K hK; simp only [Jo.z] at hK ⊢; have hne := HN1.out; go_simp
      repeat' split
      all_goals exact hK.out _ _ (congrArg Value.bool (by first | rfl | (exfalso; simp_all))) (br _ _)
    refine Jo.jn 17 (some 33) [(some 28, 12), (some 32, 16)] _ rfl rfl rfl rfl ?_ ?_
    · rintro wj hJ _ rfl _ rfl K hK; simp only [Jo.z] at hK ⊢; go_simp; exact hK.out _ _ rfl (br _ _)
    refine Jo.jn 18 (some 34) [(some 33, 17)] _ rfl rfl rfl rfl ?_ ?_
    · rintro wj hJ _ rfl K hK; simp only [Jo.z] at hK ⊢; go_simp; exact hK.out _ _ rfl (br _ _)
    refine Jo.jn 19 (some 35) [(some 34, 18)] _ rfl rfl rfl rfl ?_ ?_
    · rintro wj hJ _ rfl K hK; simp only [Jo.z] at hK ⊢; go_simp; exact hK.out _ _ rfl (br _ _)
    refine Jo.jn 20 (some 36) [(some 34, 18), (some 35, 19)] _ rfl rfl rfl rfl ?_ ?_
    · rintro wj hJ _ rfl _ rfl K hK; simp only [Jo.z] at hK ⊢; go_simp; exact hK.out _ _ rfl (br _ _)
    refine Jo.jn 21 (some 37) [(some 34, 18)] _ rfl rfl rfl rfl ?_ ?_
    · rintro wj hJ _ rfl K hK; simp only [Jo.z] at hK ⊢; go_simp; exact hK.out _ _ rfl (br _ _)
    refine Jo.jn 22 (some 38) [(some 34, 18), (some 36, 20), (some 37, 21)] _ rfl rfl rfl rfl ?_ ?_
    · rintro wj hJ _ rfl _ rfl _ rfl K hK; simp only [Jo.z] at hK ⊢; go_simp; exact hK.out _ _ rfl (br _ _)
    refine Jo.jn 23 (some 39) [(some 34, 18), (some 38, 22)] _ rfl rfl rfl rfl ?_ ?_
    · rintro wj hJ _ rfl _ rfl K hK; simp only [Jo.z] at hK ⊢; go_simp; exact hK.out _ _ rfl (br _ _)
    refine Jo.jn 24 (some 2) [(some 39, 23)] _ rfl rfl rfl rfl ?_ ?_
    · rintro wj hJ _ rfl K hK; simp only [Jo.z] at hK ⊢; go_simp; exact hK.out _ _ rfl (br _ _)
    exact Jo.Steps.nil
  rintro w8 hJ _ rfl _ rfl _ rfl _ rfl _ rfl _ _ _ rfl _ _ _ rfl _ rfl _ rfl _ rfl _ rfl _ _ _ rfl _ rfl _ rfl _ rfl _ rfl _ rfl _ rfl _ rfl _ rfl _ rfl _ rfl -; simp only [Jo.z]; replace X1 := X1.below hJ; replace HB := Lib.hid (bt HB.out hJ); refine Jo.jdone (by kernel_rfl) ?_; go_wp2
  go_ret
  exact ⟨rfl, HB.out⟩
set_option maxHeartbeats 2000000 in
theorem jvmay_fb {w : World} {D M E c : Int} {s : Bool} (hM : (M : Int) < 18446744073709551616) (hM' : (0 : Int) < 18446744073709551616) (hp : decide (MayQ D s M E) = true) (hc : cmpI (rk D s M E) (rk 2 true 0 0) = c) (hc0 : decide (c ≤ 0) = true) (h1 : ¬ (D = 2 ∧ s = false ∧ M = 0 ∧ E = 0)) : Calls Tryz.prog 48 #[.agg #[.bool false, .int .i64 D, .bool s, .int .u64 M, .int .i64 E, .int .i64 2, .bool true, .int .u64 0, .int .i64 0]] w (PB w false) := by
  have HQ : Hid (decide (MayQ 2 true 0 0) = true) := Lib.hid (by decide)
  have HN2 := Lib.hid trivial; have HP := Lib.hid hp; have HC := Lib.hid hc; have HC0 := Lib.hid hc0; have HN1 := Lib.hid h1; clear hp hc hc0 h1
  go_enter Tryz.func48, Tryz.ntmps48
  go_upto_region 1 with (fail)
  generalize hW1 : w.alloc _ = w1 at *; obtain ⟨X1, HB⟩ := Bo.en1 hW1; clear hW1; obtain ⟨xX10, xX11, xX12, xX13, xX14, xX15, xX16, xX17, xX18⟩ := X1.u9
  go_wp2_with fail
  refine (yMay HP.out).mono ?_; rintro ee w2 ⟨rfl, B⟩; clear xX10 xX11 xX12 xX13 xX14 xX15 xX16 xX17 xX18; replace X1 := X1.below B; replace HB := Lib.hid (bt HB.out B); clear B; obtain ⟨xX10, xX11, xX12, xX13, xX14, xX15, xX16, xX17, xX18⟩ := X1.u9
  go_wp2_with fail
  refine (yMay HQ.out).mono ?_; rintro ee w3 ⟨rfl, B⟩; clear xX10 xX11 xX12 xX13 xX14 xX15 xX16 xX17 xX18; replace X1 := X1.below B; replace HB := Lib.hid (bt HB.out B); clear B; obtain ⟨xX10, xX11, xX12, xX13, xX14, xX15, xX16, xX17, xX18⟩ := X1.u9
  go_upto_region 5 with (fail)
  clear xX10 xX11 xX12 xX13 xX14 xX15 xX16 xX17 xX18; refine Jo.rj [0, 1, 2, 3, 4, 5, 6, 7, 8, 9, 10, 11, 12, 13, 14, 15, 16, 17, 18, 19, 20, 21, 22, 23, 24] [some 16, some 17, some 18, some 19, some 20, some 21, some 22, some 23, some 24, some 25, some 26, some 27, some 28, some 29, some 30, some 31, some 32, some 33, some 34, some 35, some 36, some 37, some 38, some 39, some 2] [[], [0], [1], [1, 2], [3], [4], [4, 5], [4], [4, 7], [4, 6, 8], [4, 9], [4, 10], [11], [12], [12, 13], [12], [12, 14, 15], [12, 16], [17], [18], [18, 19], [18], [18, 20, 21], [18, 22], [23]] 25 [(some 16, 0), (some 17, 1), (some 18, 2), (some 19, 3), (some 20, 4), (some 21, 5), (some 22, 6), (some 23, 7), (some 24, 8), (some 25, 9), (some 26, 10), (some 27, 11), (some 28, 12), (some 29, 13), (some 30, 14), (some 31, 15), (some 32, 16), (some 33, 17), (some 34, 18), (some 35, 19), (some 36, 20), (some 37, 21), (some 38, 22), (some 39, 23), (some 2, 24)] 0 [Jo.qb true, Jo.qb true, Jo.qb true, Jo.qb true, Jo.qb true, Jo.qp w.heap.size 1, Jo.q4 D s M E, Jo.qp w.heap.size 5, Jo.q4 2 true 0 0, Jo.qi c, Jo.qb true, Jo.qb true, Jo.qb true, Jo.qp w.heap.size 1, Jo.q4 D s M E, Jo.q4 2 false 0 0, Jo.qb true, Jo.qb true, Jo.qb true, Jo.qp w.heap.size 5, Jo.q4 2 true 0 0, Jo.q4 2 true 0 0, Jo.qb false, Jo.qb false, Jo.qb false] (by kernel_rfl) (by kernel_rfl) (by decide) rfl rfl ?_ ?_
  · refine Jo.jn 0 (some 16) [] _ rfl rfl rfl rfl ?_ ?_
    · rintro wj hJ K hK; simp only [Jo.z] at hK ⊢; go_simp; exact hK.out _ _ rfl (br _ _)
    refine Jo.jn 1 (some 17) [(some 16, 0)] _ rfl rfl rfl rfl ?_ ?_
    · rintro wj hJ _ rfl K hK; simp only [Jo.z] at hK ⊢; go_simp; exact hK.out _ _ rfl (br _ _)
    refine Jo.jn 2 (some 18) [(some 17, 1)] _ rfl rfl rfl rfl ?_ ?_
    · rintro wj hJ _ rfl K hK; simp only [Jo.z] at hK ⊢; go_simp; exact hK.out _ _ rfl (br _ _)
    refine Jo.jn 3 (some 19) [(some 17, 1), (some 18, 2)] _ rfl rfl rfl rfl ?_ ?_
    · rintro wj hJ _ rfl _ rfl K hK; simp only [Jo.z] at hK ⊢; go_simp; exact hK.out _ _ rfl (br _ _)
    refine Jo.jn 4 (some 20) [(some 19, 3)] _ rfl rfl rfl rfl ?_ ?_
    · rintro wj hJ _ rfl K hK; simp only [Jo.z] at hK ⊢; go_simp; exact hK.out _ _ rfl (br _ _)
    refine Jo.jn 5 (some 21) [(some 20, 4)] _ rfl rfl rfl rfl ?_ ?_
    · rintro wj hJ _ rfl K hK; simp only [Jo.z] at hK ⊢; go_simp; exact hK.out _ _ rfl (br _ _)
    refine Jo.jn 6 (some 22) [(some 20, 4), (some 21, 5)] _ rfl rfl rfl rfl ?_ ?_
    · rintro wj hJ _ rfl _ rfl K hK; simp only [Jo.z] at hK ⊢; obtain ⟨xX11, xX12, xX13, xX14⟩ := (X1.below hJ).w9; go_simp; exact hK.out _ _ rfl (br _ _)
    refine Jo.jn 7 (some 23) [(some 20, 4)] _ rfl rfl rfl rfl ?_ ?_
    · rintro wj hJ _ rfl K hK; simp only [Jo.z] at hK ⊢; go_simp; exact hK.out _ _ rfl (br _ _)
    refine Jo.jn 8 (some 24) [(some 20, 4), (some 23, 7)] _ rfl rfl rfl rfl ?_ ?_
    · rintro wj hJ _ rfl _ rfl K hK; simp only [Jo.z] at hK ⊢; obtain ⟨xX15, xX16, xX17, xX18⟩ := (X1.below hJ).v9; go_simp; exact hK.out _ _ rfl (br _ _)
    refine Jo.jn 9 (some 25) [(some 20, 4), (some 22, 6), (some 24, 8)] _ rfl rfl rfl rfl ?_ ?_
    · rintro wj hJ _ rfl _ rfl _ rfl K hK; simp only [Jo.z] at hK ⊢; go_simp; refine (yCmp hM hM' HC.out).mono ?_; rintro ee wk ⟨rfl, B⟩; exact hK.out _ _ rfl B
    refine Jo.jn 10 (some 26) [(some 20, 4), (some 25, 9)] _ rfl rfl rfl rfl ?_ ?_
    · rintro wj hJ _ rfl _ rfl K hK; simp only [Jo.z] at hK ⊢; have hc0 := HC0.out; go_simp
      exact hK.out _ _ (by first | rfl | (show Value.bool _ = Value.bool _; rw [hc0]) | simp_all) (br _ _)
    refine Jo.jn 11 (some 27) [(some 20, 4), (some 26, 10)] _ rfl rfl rfl rfl ?_ ?_
    · rintro wj hJ _ rfl _ rfl K hK; simp only [Jo.z] at hK ⊢; go_simp; exact hK.out _ _ rfl (br _ _)
    refine Jo.jn 12 (some 28) [(some 27, 11)] _ rfl rfl rfl rfl ?_ ?_
    · rintro wj hJ _ rfl K hK; simp only [Jo.z] at hK ⊢; go_simp; exact hK.out _ _ rfl (br _ _)
    refine Jo.jn 13 (some 29) [(some 28, 12)] _ rfl rfl rfl rfl ?_ ?_
    · rintro wj hJ _ rfl K hK; simp only [Jo.z] at hK ⊢; go_simp; exact hK.out _ _ rfl (br _ _)
    refine Jo.jn 14 (some 30) [(some 28, 12), (some 29, 13)] _ rfl rfl rfl rfl ?_ ?_
    · rintro wj hJ _ rfl _ rfl K hK; simp only [Jo.z] at hK ⊢; obtain ⟨xX11, xX12, xX13, xX14⟩ := (X1.below hJ).w9; go_simp; exact hK.out _ _ rfl (br _ _)
    refine Jo.jn 15 (some 31) [(some 28, 12)] _ rfl rfl rfl rfl ?_ ?_
    · rintro wj hJ _ rfl K hK; simp only [Jo.z] at hK ⊢; go_simp; refine (yInfE false).mono ?_; rintro ee wk ⟨rfl, B⟩; exact hK.out _ _ rfl B
    refine Jo.jn 16 (some 32) [(some 28, 12), (some 30, 14), (some 31, 15)] _ rfl rfl rfl rfl ?_ ?_
    · rintro wj hJ _ rfl _ rfl _ rfl K hK; simp only [Jo.z] at hK ⊢; have hne := HN1.out; go_simp
      repeat' split
      all_goals exact hK.out _ _ (congrArg Value.bool (by first | rfl | (exfalso; simp_all))) (br _ _)
    refine Jo.jn 17 (some 33) [(some 28, 12), (some 32, 16)] _ rfl rfl rfl rfl ?_ ?_
    · rintro wj hJ _ rfl _ rfl K hK; simp only [Jo.z] at hK ⊢; go_simp; exact hK.out _ _ rfl (br _ _)
    refine Jo.jn 18 (some 34) [(some 33, 17)] _ rfl rfl rfl rfl ?_ ?_
    · rintro wj hJ _ rfl K hK; simp only [Jo.z] at hK ⊢; go_simp; exact hK.out _ _ rfl (br _ _)
    refine Jo.jn 19 (some 35) [(some 34, 18)] _ rfl rfl rfl rfl ?_ ?_
    · rintro wj hJ _ rfl K hK; simp only [Jo.z] at hK ⊢; go_simp; exact hK.out _ _ rfl (br _ _)
    refine Jo.jn 20 (some 36) [(some 34, 18), (some 35, 19)] _ rfl rfl rfl rfl ?_ ?_
    · rintro wj hJ _ rfl _ rfl K hK; simp only [Jo.z] at hK ⊢; obtain ⟨xX15, xX16, xX17, xX18⟩ := (X1.below hJ).v9; go_simp; exact hK.out _ _ rfl (br _ _)
    refine Jo.jn 21 (some 37) [(some 34, 18)] _ rfl rfl rfl rfl ?_ ?_
    · rintro wj hJ _ rfl K hK; simp only [Jo.z] at hK ⊢; go_simp; refine (yInfE true).mono ?_; rintro ee wk ⟨rfl, B⟩; exact hK.out _ _ rfl B
    refine Jo.jn 22 (some 38) [(some 34, 18), (some 36, 20), (some 37, 21)] _ rfl rfl rfl rfl ?_ ?_
    · rintro wj hJ _ rfl _ rfl _ rfl K hK; simp only [Jo.z] at hK ⊢; have hne := HN2.out; go_simp
      repeat' split
      all_goals exact hK.out _ _ (congrArg Value.bool (by first | rfl | (exfalso; simp_all))) (br _ _)
    refine Jo.jn 23 (some 39) [(some 34, 18), (some 38, 22)] _ rfl rfl rfl rfl ?_ ?_
    · rintro wj hJ _ rfl _ rfl K hK; simp only [Jo.z] at hK ⊢; go_simp; exact hK.out _ _ rfl (br _ _)
    refine Jo.jn 24 (some 2) [(some 39, 23)] _ rfl rfl rfl rfl ?_ ?_
    · rintro wj hJ _ rfl K hK; simp only [Jo.z] at hK ⊢; go_simp; exact hK.out _ _ rfl (br _ _)
    exact Jo.Steps.nil
  rintro w8 hJ _ rfl _ rfl _ rfl _ rfl _ rfl _ _ _ rfl _ _ _ rfl _ rfl _ rfl _ rfl _ rfl _ _ _ rfl _ rfl _ rfl _ rfl _ rfl _ _ _ rfl _ rfl _ rfl _ rfl _ rfl -; simp only [Jo.z]; replace X1 := X1.below hJ; replace HB := Lib.hid (bt HB.out hJ); refine Jo.jdone (by kernel_rfl) ?_; go_wp2
  go_ret
  exact ⟨rfl, HB.out⟩
set_option maxHeartbeats 2000000 in
theorem jvmay_fy {w : World} {D M E D' M' E' c : Int} {s s' : Bool} (hM : (M : Int) < 18446744073709551616) (hM' : (M' : Int) < 18446744073709551616) (hp : decide (MayQ D s M E) = true) (hq : decide (MayQ D' s' M' E') = true) (hc : cmpI (rk D s M E) (rk D' s' M' E') = c) (hc0 : decide (c ≤ 0) = true) (h1 : ¬ (D = 2 ∧ s = false ∧ M = 0 ∧ E = 0)) (h2 : ¬ (D' = 2 ∧ s' = true ∧ M' = 0 ∧ E' = 0)) : Calls Tryz.prog 48 #[.agg #[.bool false, .int .i64 D, .bool s, .int .u64 M, .int .i64 E, .int .i64 D', .bool s', .int .u64 M', .int .i64 E']] w (PB w true) := by
  have HP := Lib.hid hp; have HQ := Lib.hid hq; have HC := Lib.hid hc; have HC0 := Lib.hid hc0; have HN1 := Lib.hid h1; have HN2 := Lib.hid h2; clear hp hq hc hc0 h1 h2
  go_enter Tryz.func48, Tryz.ntmps48
  go_upto_region 1 with (fail)
  generalize hW1 : w.alloc _ = w1 at *; obtain ⟨X1, HB⟩ := Bo.en1 hW1; clear hW1; obtain ⟨xX10, xX11, xX12, xX13, xX14, xX15, xX16, xX17, xX18⟩ := X1.u9
  go_wp2_with fail
  refine (yMay HP.out).mono ?_; rintro ee w2 ⟨rfl, B⟩; clear xX10 xX11 xX12 xX13 xX14 xX15 xX16 xX17 xX18; replace X1 := X1.below B; replace HB := Lib.hid (bt HB.out B); clear B; obtain ⟨xX10, xX11, xX12, xX13, xX14, xX15, xX16, xX17, xX18⟩ := X1.u9
  go_wp2_with fail
  refine (yMay HQ.out).mono ?_; rintro ee w3 ⟨rfl, B⟩; clear xX10 xX11 xX12 xX13 xX14 xX15 xX16 xX17 xX18; replace X1 := X1.below B; replace HB := Lib.hid (bt HB.out B); clear B; obtain ⟨xX10, xX11, xX12, xX13, xX14, xX15, xX16, xX17, xX18⟩ := X1.u9
  go_upto_region 5 with (fail)
  clear xX10 xX11 xX12 xX13 xX14 xX15 xX16 xX17 xX18; refine Jo.rj [0, 1, 2, 3, 4, 5, 6, 7, 8, 9, 10, 11, 12, 13, 14, 15, 16, 17, 18, 19, 20, 21, 22, 23, 24] [some 16, some 17, some 18, some 19, some 20, some 21, some 22, some 23, some 24, some 25, some 26, some 27, some 28, some 29, some 30, some 31, some 32, some 33, some 34, some 35, some 36, some 37, some 38, some 39, some 2] [[], [0], [1], [1, 2], [3], [4], [4, 5], [4], [4, 7], [4, 6, 8], [4, 9], [4, 10], [11], [12], [12, 13], [12], [12, 14, 15], [12, 16], [17], [18], [18, 19], [18], [18, 20, 21], [18, 22], [23]] 25 [(some 16, 0), (some 17, 1), (some 18, 2), (some 19, 3), (some 20, 4), (some 21, 5), (some 22, 6), (some 23, 7), (some 24, 8), (some 25, 9), (some 26, 10), (some 27, 11), (some 28, 12), (some 29, 13), (some 30, 14), (some 31, 15), (some 32, 16), (some 33, 17), (some 34, 18), (some 35, 19), (some 36, 20), (some 37, 21), (some 38, 22), (some 39, 23), (some 2, 24)] 0 [Jo.qb true, Jo.qb true, Jo.qb true, Jo.qb true, Jo.qb true, Jo.qp w.heap.size 1, Jo.q4 D s M E, Jo.qp w.heap.size 5, Jo.q4 D' s' M' E', Jo.qi c, Jo.qb true, Jo.qb true, Jo.qb true, Jo.qp w.heap.size 1, Jo.q4 D s M E, Jo.q4 2 false 0 0, Jo.qb true, Jo.qb true, Jo.qb true, Jo.qp w.heap.size 5, Jo.q4 D' s' M' E', Jo.q4 2 true 0 0, Jo.qb true, Jo.qb true, Jo.qb true] (by kernel_rfl) (by kernel_rfl) (by decide) rfl rfl ?_ ?_
  · refine Jo.jn 0 (some 16) [] _ rfl rfl rfl rfl ?_ ?_
    · rintro wj hJ K hK; simp only [Jo.z] at hK ⊢; go_simp; exact hK.out _ _ rfl (br _ _)
    refine Jo.jn 1 (some 17) [(some 16, 0)] _ rfl rfl rfl rfl ?_ ?_
    · rintro wj hJ _ rfl K hK; simp only [Jo.z] at hK ⊢; go_simp; exact hK.out _ _ rfl (br _ _)
    refine Jo.jn 2 (some 18) [(some 17, 1)] _ rfl rfl rfl rfl ?_ ?_
    · rintro wj hJ _ rfl K hK; simp only [Jo.z] at hK ⊢; go_simp; exact hK.out _ _ rfl (br _ _)
    refine Jo.jn 3 (some 19) [(some 17, 1), (some 18, 2)] _ rfl rfl rfl rfl ?_ ?_
    · rintro wj hJ _ rfl _ rfl K hK; simp only [Jo.z] at hK ⊢; go_simp; exact hK.out _ _ rfl (br _ _)
    refine Jo.jn 4 (some 20) [(some 19, 3)] _ rfl rfl rfl rfl ?_ ?_
    · rintro wj hJ _ rfl K hK; simp only [Jo.z] at hK ⊢; go_simp; exact hK.out _ _ rfl (br _ _)
    refine Jo.jn 5 (some 21) [(some 20, 4)] _ rfl rfl rfl rfl ?_ ?_
    · rintro wj hJ _ rfl K hK; simp only [Jo.z] at hK ⊢; go_simp; exact hK.out _ _ rfl (br _ _)
    refine Jo.jn 6 (some 22) [(some 20, 4), (some 21, 5)] _ rfl rfl rfl rfl ?_ ?_
    · rintro wj hJ _ rfl _ rfl K hK; simp only [Jo.z] at hK ⊢; obtain ⟨xX11, xX12, xX13, xX14⟩ := (X1.below hJ).w9; go_simp; exact hK.out _ _ rfl (br _ _)
    refine Jo.jn 7 (some 23) [(some 20, 4)] _ rfl rfl rfl rfl ?_ ?_
    · rintro wj hJ _ rfl K hK; simp only [Jo.z] at hK ⊢; go_simp; exact hK.out _ _ rfl (br _ _)
    refine Jo.jn 8 (some 24) [(some 20, 4), (some 23, 7)] _ rfl rfl rfl rfl ?_ ?_
    · rintro wj hJ _ rfl _ rfl K hK; simp only [Jo.z] at hK ⊢; obtain ⟨xX15, xX16, xX17, xX18⟩ := (X1.below hJ).v9; go_simp; exact hK.out _ _ rfl (br _ _)
    refine Jo.jn 9 (some 25) [(some 20, 4), (some 22, 6), (some 24, 8)] _ rfl rfl rfl rfl ?_ ?_
    · rintro wj hJ _ rfl _ rfl _ rfl K hK; simp only [Jo.z] at hK ⊢; go_simp; refine (yCmp hM hM' HC.out).mono ?_; rintro ee wk ⟨rfl, B⟩; exact hK.out _ _ rfl B
    refine Jo.jn 10 (some 26) [(some 20, 4), (some 25, 9)] _ rfl rfl rfl rfl ?_ ?_
    · rintro wj hJ _ rfl _ rfl K hK; simp only [Jo.z] at hK ⊢; have hc0 := HC0.out; go_simp
      exact hK.out _ _ (by first | rfl | (show Value.bool _ = Value.bool _; rw [hc0]) | simp_all) (br _ _)
    refine Jo.jn 11 (some 27) [(some 20, 4), (some 26, 10)] _ rfl rfl rfl rfl ?_ ?_
    · rintro wj hJ _ rfl _ rfl K hK; simp only [Jo.z] at hK ⊢; go_simp; exact hK.out _ _ rfl (br _ _)
    refine Jo.jn 12 (some 28) [(some 27, 11)] _ rfl rfl rfl rfl ?_ ?_
    · rintro wj hJ _ rfl K hK; simp only [Jo.z] at hK ⊢; go_simp; exact hK.out _ _ rfl (br _ _)
    refine Jo.jn 13 (some 29) [(some 28, 12)] _ rfl rfl rfl rfl ?_ ?_
    · rintro wj hJ _ rfl K hK; simp only [Jo.z] at hK ⊢; go_simp; exact hK.out _ _ rfl (br _ _)
    refine Jo.jn 14 (some 30) [(some 28, 12), (some 29, 13)] _ rfl rfl rfl rfl ?_ ?_
    · rintro wj hJ _ rfl _ rfl K hK; simp only [Jo.z] at hK ⊢; obtain ⟨xX11, xX12, xX13, xX14⟩ := (X1.below hJ).w9; go_simp; exact hK.out _ _ rfl (br _ _)
    refine Jo.jn 15 (some 31) [(some 28, 12)] _ rfl rfl rfl rfl ?_ ?_
    · rintro wj hJ _ rfl K hK; simp only [Jo.z] at hK ⊢; go_simp; refine (yInfE false).mono ?_; rintro ee wk ⟨rfl, B⟩; exact hK.out _ _ rfl B
    refine Jo.jn 16 (some 32) [(some 28, 12), (some 30, 14), (some 31, 15)] _ rfl rfl rfl rfl ?_ ?_
    · rintro wj hJ _ rfl _ rfl _ rfl K hK; simp only [Jo.z] at hK ⊢; have hne := HN1.out; go_simp
      repeat' split
      all_goals exact hK.out _ _ (congrArg Value.bool (by first | rfl | (exfalso; simp_all))) (br _ _)
    refine Jo.jn 17 (some 33) [(some 28, 12), (some 32, 16)] _ rfl rfl rfl rfl ?_ ?_
    · rintro wj hJ _ rfl _ rfl K hK; simp only [Jo.z] at hK ⊢; go_simp; exact hK.out _ _ rfl (br _ _)
    refine Jo.jn 18 (some 34) [(some 33, 17)] _ rfl rfl rfl rfl ?_ ?_
    · rintro wj hJ _ rfl K hK; simp only [Jo.z] at hK ⊢; go_simp; exact hK.out _ _ rfl (br _ _)
    refine Jo.jn 19 (some 35) [(some 34, 18)] _ rfl rfl rfl rfl ?_ ?_
    · rintro wj hJ _ rfl K hK; simp only [Jo.z] at hK ⊢; go_simp; exact hK.out _ _ rfl (br _ _)
    refine Jo.jn 20 (some 36) [(some 34, 18), (some 35, 19)] _ rfl rfl rfl rfl ?_ ?_
    · rintro wj hJ _ rfl _ rfl K hK; simp only [Jo.z] at hK ⊢; obtain ⟨xX15, xX16, xX17, xX18⟩ := (X1.below hJ).v9; go_simp; exact hK.out _ _ rfl (br _ _)
    refine Jo.jn 21 (some 37) [(some 34, 18)] _ rfl rfl rfl rfl ?_ ?_
    · rintro wj hJ _ rfl K hK; simp only [Jo.z] at hK ⊢; go_simp; refine (yInfE true).mono ?_; rintro ee wk ⟨rfl, B⟩; exact hK.out _ _ rfl B
    refine Jo.jn 22 (some 38) [(some 34, 18), (some 36, 20), (some 37, 21)] _ rfl rfl rfl rfl ?_ ?_
    · rintro wj hJ _ rfl _ rfl _ rfl K hK; simp only [Jo.z] at hK ⊢; have hne := HN2.out; go_simp
      repeat' split
      all_goals exact hK.out _ _ (congrArg Value.bool (by first | rfl | (exfalso; simp_all))) (br _ _)
    refine Jo.jn 23 (some 39) [(some 34, 18), (some 38, 22)] _ rfl rfl rfl rfl ?_ ?_
    · rintro wj hJ _ rfl _ rfl K hK; simp only [Jo.z] at hK ⊢; go_simp; exact hK.out _ _ rfl (br _ _)
    refine Jo.jn 24 (some 2) [(some 39, 23)] _ rfl rfl rfl rfl ?_ ?_
    · rintro wj hJ _ rfl K hK; simp only [Jo.z] at hK ⊢; go_simp; exact hK.out _ _ rfl (br _ _)
    exact Jo.Steps.nil
  rintro w8 hJ _ rfl _ rfl _ rfl _ rfl _ rfl _ _ _ rfl _ _ _ rfl _ rfl _ rfl _ rfl _ rfl _ _ _ rfl _ rfl _ rfl _ rfl _ rfl _ _ _ rfl _ rfl _ rfl _ rfl _ rfl -; simp only [Jo.z]; replace X1 := X1.below hJ; replace HB := Lib.hid (bt HB.out hJ); refine Jo.jdone (by kernel_rfl) ?_; go_wp2
  go_ret
  exact ⟨rfl, HB.out⟩
theorem rk_top {D : Int} {s : Bool} {M E : Int} (hM : M < 18446744073709551616) (h : MayQ D s M E) (b : Bool) : rk D s M E = sgi b TP ↔ (D = 2 ∧ s = b ∧ M = 0 ∧ E = 0) := by
  constructor
  · intro e
    have q := rk_fq hM h; rw [e] at q; exact q.uniq (fq_inf2 b)
  · rintro ⟨rfl, rfl, rfl, rfl⟩; exact (fq_inf2 s).rk
theorem jvMay {w : World} {e : Bool} {D M E D' M' E' : Int} {s s' : Bool} {r : Bool} (hM : M < 18446744073709551616) (hM' : M' < 18446744073709551616) (hr : mayI e D s M E D' s' M' E' = r) : Calls Tryz.prog 48 #[.agg #[.bool e, .int .i64 D, .bool s, .int .u64 M, .int .i64 E, .int .i64 D', .bool s', .int .u64 M', .int .i64 E']] w (PB w r) := by
  cases e
  · have e0 : decide (rkI false D s M E D' s' M' E' ≠ none) = r := by rw [← hr]; exact (if_neg ff).symm
    rw [rkI_f] at e0
    by_cases hp : MayQ D s M E
    · by_cases hq : MayQ D' s' M' E'
      · rw [if_pos ⟨hp, hq⟩] at e0; have b1 := (rk_fq hM hp).bd; have b2 := (rk_fq hM' hq).bd; have t1 := rk_top hM hp false; have t2 := rk_top hM' hq true
        have tf : sgi false TP = 19342822337206103650074625 := rfl
        have tt : sgi true TP = -19342822337206103650074625 := rfl
        rw [tf] at t1; rw [tt] at t2; have hpd := decide_eq_true hp; have hqd := decide_eq_true hq
        by_cases hc : rk D s M E ≤ rk D' s' M' E'
        · have hc0 : decide (cmpI (rk D s M E) (rk D' s' M' E') ≤ 0) = true := decide_eq_true (by rcases cmpI_tri (rk D s M E) (rk D' s' M' E') with ⟨a, b⟩ | ⟨a, b⟩ | ⟨a, b⟩ <;> rw [b] <;> omega)
          by_cases h1 : D = 2 ∧ s = false ∧ M = 0 ∧ E = 0
          · have k1 := t1.2 h1; rw [mkI_none (by omega)] at e0
            obtain rfl : false = r := e0
            obtain ⟨rfl, rfl, rfl, rfl⟩ := h1; exact jvmay_ft hM hM' hqd rfl hc0
          · have k1 : rk D s M E ≠ 19342822337206103650074625 := fun c => h1 (t1.1 c)
            by_cases h2 : D' = 2 ∧ s' = true ∧ M' = 0 ∧ E' = 0
            · have k2 := t2.2 h2; rw [mkI_none (by omega)] at e0
              obtain rfl : false = r := e0
              obtain ⟨rfl, rfl, rfl, rfl⟩ := h2; exact jvmay_fb hM hM' hpd rfl hc0 h1
            · have k2 : rk D' s' M' E' ≠ -19342822337206103650074625 := fun c => h2 (t2.1 c)
              rw [mkI_some hc (by omega) (by omega)] at e0
              obtain rfl : true = r := e0
              exact jvmay_fy hM hM' hpd hqd rfl hc0 h1 h2
        · rw [mkI_none (fun c => hc c.1)] at e0
          obtain rfl : false = r := e0
          exact jvmay_fc hM hM' hpd hqd rfl (decide_eq_false (by rcases cmpI_tri (rk D s M E) (rk D' s' M' E') with ⟨a, b⟩ | ⟨a, b⟩ | ⟨a, b⟩ <;> rw [b] <;> omega))
      · rw [if_neg (fun c => hq c.2)] at e0
        obtain rfl : false = r := e0
        exact jvmay_fq hM hM' (decide_eq_true hp) (decide_eq_false hq)
    · rw [if_neg (fun c => hp c.1)] at e0
      obtain rfl : false = r := e0
      exact jvmay_fp hM hM' (decide_eq_false hp) rfl
  · exact jvmay_t hr
set_option maxHeartbeats 2000000 in
theorem jvFair {w : World} {e : Bool} {D M E D' M' E' : Int} {s s' : Bool} {x : Sp} (hM : M < 18446744073709551616) (hM' : M' < 18446744073709551616) (hr : rkI e D s M E D' s' M' E' = x) : Calls Tryz.prog 23 #[.agg #[.bool e, .int .i64 D, .bool s, .int .u64 M, .int .i64 E, .int .i64 D', .bool s', .int .u64 M', .int .i64 E']] w (PV w x) := by
  cases hm : mayI e D s M E D' s' M' E'
  · obtain rfl : none = x := (mayI_no hm).symm.trans hr
    have HM := Lib.hid hm; clear hm hr
    go_enter Tryz.func23, Tryz.ntmps23
    go_upto_region 1 with (fail)
    generalize hW1 : (w.alloc _).alloc _ = w1 at *; obtain ⟨X1, XR, HB⟩ := Bo.en2 hW1; clear hW1; obtain ⟨xX10, xX11, xX12, xX13, xX14, xX15, xX16, xX17, xX18⟩ := X1.u9
    go_wp2_with fail
    refine (jvMay hM hM' HM.out).mono ?_; rintro ee w2 ⟨rfl, B⟩; clear xX10 xX11 xX12 xX13 xX14 xX15 xX16 xX17 xX18; replace X1 := X1.below B; replace XR := XR.below B; replace HB := Lib.hid (bt HB.out B); clear B; clear HM hM hM'
    go_wp2_with fail
    refine (jvNoneE).mono ?_; rintro ee w3 ⟨rfl, B⟩; replace X1 := X1.below B; replace XR := XR.below B; replace HB := Lib.hid (bt HB.out B); clear B; obtain ⟨xXR0, xXR1, xXR2, xXR3, xXR4, xXR5, xXR6, xXR7, xXR8⟩ := XR.u9; have zXR0 := XR.frozen; go_wp2; clear xXR0 zXR0 xXR1 xXR2 xXR3 xXR4 xXR5 xXR6 xXR7 xXR8; have SX := StN.mk9 XR (.bool true) (.int .i64 0) (.bool false) (.int .u64 0) (.int .i64 0) (.int .i64 0) (.bool false) (.int .u64 0) (.int .i64 0)
    exact bodyPost_ret (by simp [results, Tryz.results23, go_sem, SX.box.cell]) rfl ⟨_, _, _, _, _, _, _, _, _, rfl, Ci.none, (SX.below HB.out (by omega))⟩
  · have hv := mayI_ci hM hM' hm; rw [hr] at hv; have HM := Lib.hid hm; clear hm hr
    go_enter Tryz.func23, Tryz.ntmps23
    go_upto_region 1 with (fail)
    generalize hW1 : (w.alloc _).alloc _ = w1 at *; obtain ⟨X1, XR, HB⟩ := Bo.en2 hW1; clear hW1; obtain ⟨xX10, xX11, xX12, xX13, xX14, xX15, xX16, xX17, xX18⟩ := X1.u9
    go_wp2_with fail
    refine (jvMay hM hM' HM.out).mono ?_; rintro ee w2 ⟨rfl, B⟩; clear xX10 xX11 xX12 xX13 xX14 xX15 xX16 xX17 xX18; replace X1 := X1.below B; replace XR := XR.below B; replace HB := Lib.hid (bt HB.out B); clear B; clear HM hM hM'; obtain ⟨xXR0, xXR1, xXR2, xXR3, xXR4, xXR5, xXR6, xXR7, xXR8⟩ := XR.u9; have zXR0 := XR.frozen; obtain ⟨xX10, xX11, xX12, xX13, xX14, xX15, xX16, xX17, xX18⟩ := X1.u9; go_wp2
    clear xXR0 zXR0 xXR1 xXR2 xXR3 xXR4 xXR5 xXR6 xXR7 xXR8 xX10 xX11 xX12 xX13 xX14 xX15 xX16 xX17 xX18; have SX := StN.mk9 XR (.bool e) (.int .i64 D) (.bool s) (.int .u64 M) (.int .i64 E) (.int .i64 D') (.bool s') (.int .u64 M') (.int .i64 E'); exact bodyPost_ret (by simp [results, Tryz.results23, go_sem, SX.box.cell]) rfl ⟨_, _, _, _, _, _, _, _, _, rfl, hv, (SX.below HB.out (by omega))⟩
/-- The cells of some interval, and what it is taken for. -/
def Jo.Fact.ir (x : Sp) : Jo.Fact := ⟨fun v w => ∃ e K s M E K' s' M' E', v = .agg #[.bool e, .int .i64 K, .bool s, .int .u64 M, .int .i64 E, .int .i64 K', .bool s', .int .u64 M', .int .i64 E'] ∧ M < 18446744073709551616 ∧ M' < 18446744073709551616 ∧ rkI e K s M E K' s' M' E' = x, fun v w w' h b => h⟩
theorem rkI_mk {K M E K' M' E' : Int} {s s' : Bool} {a b : Int} {x : Sp} (q : Fq K s M E a) (q' : Fq K' s' M' E' b) (hx : mkI a b = x) : rkI false K s M E K' s' M' E' = x := by
  rw [rkI_f, if_pos ⟨q.1, q'.1⟩, q.rk, q'.rk, hx]
set_option maxHeartbeats 2000000 in
theorem jvMake {w : World} {D D' M M' E E' : Int} {s s' : Bool} {a b : Int} {x : Sp} (hM : M < 18446744073709551616) (hM' : M' < 18446744073709551616) (ha : rk D s M E = a) (hb : rk D' s' M' E' = b) (hx : mkI a b = x) : Calls Tryz.prog 25 #[.agg #[.int .i64 D, .bool s, .int .u64 M, .int .i64 E], .agg #[.int .i64 D', .bool s', .int .u64 M', .int .i64 E']] w (PV w x) := by
  have HA := Lib.hid ha; have HBB := Lib.hid hb; have HX := Lib.hid hx; clear ha hb hx
  go_enter Tryz.func25, Tryz.ntmps25
  go_upto_region 1 with (fail)
  generalize hW1 : ((w.alloc _).alloc _).alloc _ = w1 at *; obtain ⟨X2, X3, XR, HB⟩ := Bo.en3 hW1; clear hW1; refine Jo.rj [0, 1, 2, 3, 4, 5] [some 5, some 6, some 7, some 8, some 9, some 10, none] [[], [0], [], [2], [1, 3], [4], []] 7 [(some 5, 0), (some 6, 1), (some 7, 2), (some 8, 3), (some 9, 4), (some 10, 5)] 1 [Jo.q4 D s M E, Jo.Fact.num a, Jo.q4 D' s' M' E', Jo.Fact.num b, Jo.Fact.ir x, Jo.Fact.iv x, Jo.Fact.any] (by kernel_rfl) (by kernel_rfl) (by decide) rfl rfl ?_ ?_
  · refine Jo.jn 0 (some 5) [] _ rfl rfl rfl rfl ?_ ?_
    · rintro wj hJ K hK; simp only [Jo.z] at hK ⊢; obtain ⟨xX20, xX21, xX22, xX23⟩ := (X2.below hJ).u4; go_simp; exact hK.out _ _ rfl (br _ _)
    refine Jo.jn 1 (some 6) [(some 5, 0)] _ rfl rfl rfl rfl ?_ ?_
    · rintro wj hJ _ rfl K hK; simp only [Jo.z] at hK ⊢; go_simp; refine (gFair hM HA.out).mono ?_; rintro ee wk ⟨K1, s1, M1, E1, rfl, q1, B⟩; exact hK.out _ _ ⟨K1, s1, M1, E1, rfl, q1⟩ B
    refine Jo.jn 2 (some 7) [] _ rfl rfl rfl rfl ?_ ?_
    · rintro wj hJ K hK; simp only [Jo.z] at hK ⊢; obtain ⟨xX30, xX31, xX32, xX33⟩ := (X3.below hJ).u4; go_simp; exact hK.out _ _ rfl (br _ _)
    refine Jo.jn 3 (some 8) [(some 7, 2)] _ rfl rfl rfl rfl ?_ ?_
    · rintro wj hJ _ rfl K hK; simp only [Jo.z] at hK ⊢; go_simp; refine (gFair hM' HBB.out).mono ?_; rintro ee wk ⟨K2, s2, M2, E2, rfl, q2, B⟩; exact hK.out _ _ ⟨K2, s2, M2, E2, rfl, q2⟩ B
    refine Jo.jn 4 (some 9) [(some 6, 1), (some 8, 3)] _ rfl rfl rfl rfl ?_ ?_
    · rintro wj hJ _ ⟨K1, s1, M1, E1, rfl, q1⟩ _ ⟨K2, s2, M2, E2, rfl, q2⟩ K hK; simp only [Jo.z] at hK ⊢; go_simp; exact hK.out _ _ ⟨_, _, _, _, _, _, _, _, _, rfl, q1.top, q2.top, rkI_mk q1 q2 HX.out⟩ (br _ _)
    refine Jo.jn 5 (some 10) [(some 9, 4)] _ rfl rfl rfl rfl ?_ ?_
    · rintro wj hJ _ ⟨e4, K4, s4, M4, E4, K4b, s4b, M4b, E4b, rfl, m4, m4b, r4⟩ K hK; simp only [Jo.z] at hK ⊢; go_simp; refine (jvFair m4 m4b r4).mono ?_; rintro ee wk ⟨e5, K5, s5, M5, E5, K5b, s5b, M5b, E5b, rfl, v5, B⟩; exact hK.out _ _ ⟨e5, K5, s5, M5, E5, K5b, s5b, M5b, E5b, rfl, v5⟩ B
    exact Jo.Steps.nil
  rintro w8 hJ _ rfl _ ⟨K1, s1, M1, E1, rfl, q1⟩ _ rfl _ ⟨K2, s2, M2, E2, rfl, q2⟩ _ ⟨_, _, _, _, _, _, _, _, _, rfl, _⟩ _ ⟨e5, K5, s5, M5, E5, K5b, s5b, M5b, E5b, rfl, v5⟩ -; simp only [Jo.z]; replace X2 := X2.below hJ; replace X3 := X3.below hJ; replace XR := XR.below hJ; replace HB := Lib.hid (bt HB.out hJ); obtain ⟨xXR0, xXR1, xXR2, xXR3, xXR4, xXR5, xXR6, xXR7, xXR8⟩ := XR.u9; have zXR0 := XR.frozen
  refine Jo.jnext (i := 6) (o := ⟨none, _, _, _, _, _⟩) (by kernel_rfl) rfl (fun K hK => ?_)
  go_simp; refine hK.out _ _ ?_; clear hK K xXR0 zXR0 xXR1 xXR2 xXR3 xXR4 xXR5 xXR6 xXR7 xXR8; have SX := StN.mk9 XR (.bool e5) (.int .i64 K5) (.bool s5) (.int .u64 M5) (.int .i64 E5) (.int .i64 K5b) (.bool s5b) (.int .u64 M5b) (.int .i64 E5b); refine Jo.jdone (by kernel_rfl) ?_; go_wp2; exact bodyPost_ret (by simp [results, Tryz.results25, go_sem, SX.box.cell]) rfl ⟨_, _, _, _, _, _, _, _, _, rfl, v5, (SX.below HB.out (by omega))⟩
end Go.Proofs.YthhlccdmflgbbaaGreatDoor

/-
  What the document's Has and Within do.
-/
namespace Go.Proofs.YthhlccdmflgbbaaGreatDoor
open Go.RowKit
set_option linter.unusedVariables false
set_option linter.unusedSimpArgs false
set_option maxRecDepth 100000

theorem cmp_le {x y c : Int} (h : cmpI x y = c) : decide (c ≤ 0) = decide (x ≤ y) := by
  rw [← h]
  by_cases e : x ≤ y
  · rw [decide_eq_true e]
    exact decide_eq_true (by rcases cmpI_tri x y with ⟨a, b⟩ | ⟨a, b⟩ | ⟨a, b⟩ <;> rw [b] <;> omega)
  · rw [decide_eq_false e]
    exact decide_eq_false (by rcases cmpI_tri x y with ⟨a, b⟩ | ⟨a, b⟩ | ⟨a, b⟩ <;> rw [b] <;> omega)
end Go.Proofs.YthhlccdmflgbbaaGreatDoor

/-
  What the document's Two, Both, Meet and Hull of intervals do.
-/
namespace Go.Proofs.YthhlccdmflgbbaaGreatDoor
open Go.RowKit
set_option linter.unusedVariables false
set_option linter.unusedSimpArgs false
set_option maxRecDepth 100000

theorem Nl.lit2 {W : World} {g : Nat} {D1 D2 M1 M2 E1 E2 r1 r2 : Int} {s1 s2 : Bool} (hg : W.heap.size = g) (h1 : M1 < 18446744073709551616) (h2 : M2 < 18446744073709551616) (k1 : rk D1 s1 M1 E1 = r1) (k2 : rk D2 s2 M2 E2 = r2) :
    Nl (W.alloc (.cells #[.int .i64 D1, .bool s1, .int .u64 M1, .int .i64 E1, .int .i64 D2, .bool s2, .int .u64 M2, .int .i64 E2] 24)) (some ⟨g, 0, none⟩) 2 2 [r1, r2] := by
  subst hg; have hh := heap_alloc_new W (.cells #[.int .i64 D1, .bool s1, .int .u64 M1, .int .i64 E1, .int .i64 D2, .bool s2, .int .u64 M2, .int .i64 E2] 24)
  refine ⟨rfl, Nat.le_refl _, by decide, fun _ => ⟨_, 0, rfl, fun k hk => ?_⟩⟩
  rcases (by omega : k = 0 ∨ k = 1) with rfl | rfl
  · exact ⟨D1, s1, M1, E1, by rw [cell_of_row _ _ _ _ _ _ hh]; rfl, by rw [cell_of_row _ _ _ _ _ _ hh]; rfl, by rw [cell_of_row _ _ _ _ _ _ hh]; rfl, by rw [cell_of_row _ _ _ _ _ _ hh]; rfl, h1, k1⟩
  · exact ⟨D2, s2, M2, E2, by rw [cell_of_row _ _ _ _ _ _ hh]; rfl, by rw [cell_of_row _ _ _ _ _ _ hh]; rfl, by rw [cell_of_row _ _ _ _ _ _ hh]; rfl, by rw [cell_of_row _ _ _ _ _ _ hh]; rfl, h2, k2⟩
theorem mnp_two {a b : Int} (ha : a ≤ 19342822337206103650074625) : mnp [a, b] = min a b := by
  have := TP_eq
  show min (min TP a) b = _
  omega
theorem mxp_two {a b : Int} (ha : -19342822337206103650074625 ≤ a) : mxp [a, b] = max a b := by
  have := TP_eq
  show max (max (-TP) a) b = _
  omega
end Go.Proofs.YthhlccdmflgbbaaGreatDoor

/-
  The lower and the upper ends of many intervals, what they have together and their hull by these. Plain; no Go text.
-/
namespace Go.Proofs.YthhlccdmflgbbaaGreatDoor
open Go.RowKit
set_option linter.unusedVariables false

/-- The ends of one: none of the empty one. -/
def lo1 : Sp → List Int
  | none => []
  | some (a, _) => [a]
def hi1 : Sp → List Int
  | none => []
  | some (_, b) => [b]
def lowL : List Sp → List Int
  | [] => []
  | x :: l => lo1 x ++ lowL l
def highL : List Sp → List Int
  | [] => []
  | x :: l => hi1 x ++ highL l
theorem lowL_append : ∀ (l m : List Sp), lowL (l ++ m) = lowL l ++ lowL m
  | [], m => rfl
  | x :: l, m => by
    show lo1 x ++ lowL (l ++ m) = (lo1 x ++ lowL l) ++ lowL m
    rw [lowL_append l m, List.append_assoc]
theorem highL_append : ∀ (l m : List Sp), highL (l ++ m) = highL l ++ highL m
  | [], m => rfl
  | x :: l, m => by
    show hi1 x ++ highL (l ++ m) = (hi1 x ++ highL l) ++ highL m
    rw [highL_append l m, List.append_assoc]
theorem lowL_take {l : List Sp} {k : Nat} (h : k < l.length) : lowL (l.take (k + 1)) = lowL (l.take k) ++ lo1 (l.getD k none) := by
  rw [List.take_succ_eq_append_getElem h, lowL_append, List.getD_eq_getElem?_getD, List.getElem?_eq_getElem h]; exact congrArg _ (List.append_nil _)
theorem highL_take {l : List Sp} {k : Nat} (h : k < l.length) : highL (l.take (k + 1)) = highL (l.take k) ++ hi1 (l.getD k none) := by
  rw [List.take_succ_eq_append_getElem h, highL_append, List.getD_eq_getElem?_getD, List.getElem?_eq_getElem h]; exact congrArg _ (List.append_nil _)
theorem len_lo : ∀ l : List Sp, (lowL l).length ≤ l.length
  | [] => Nat.le_refl _
  | none :: l => Nat.le_succ_of_le (len_lo l)
  | some (a, b) :: l => Nat.succ_le_succ (len_lo l)
theorem meetI_mk (A B a b : Int) : meetI (mkI A B) (some (a, b)) = mkI (max A a) (min B b) := by
  by_cases h : A ≤ B ∧ A < 19342822337206103650074625 ∧ -19342822337206103650074625 < B
  · rw [mkI_some h.1 h.2.1 h.2.2]
    rfl
  · rw [mkI_none h, mkI_none (fun c => h (by omega))]
    rfl
theorem meet_fold : ∀ (l : List Sp) (A B : Int), (lowL l).length = l.length → l.foldl meetI (mkI A B) = mkI ((lowL l).foldl max A) ((highL l).foldl min B)
  | [], A, B, _ => rfl
  | none :: l, A, B, h => by
    have h1 : (lowL l).length = l.length + 1 := h
    have h2 := len_lo l
    omega
  | some (a, b) :: l, A, B, h => by
    show l.foldl meetI (meetI (mkI A B) (some (a, b))) = _
    rw [meetI_mk]; exact meet_fold l (max A a) (min B b) (Nat.succ_inj.1 h)
theorem meet_some {l : List Sp} (h : (lowL l).length = l.length) : meetL l = mkI (mxp (lowL l)) (mnp (highL l)) := by
  have e : allI = mkI (-19342822337206103650074625) 19342822337206103650074625 := (mkI_some (by omega) (by omega) (by omega)).symm
  unfold meetL mxp mnp
  rw [e, TP_eq]; exact meet_fold l _ _ h
theorem meet_gone : ∀ (l : List Sp) (x : Sp), (lowL l).length < l.length → l.foldl meetI x = none
  | [], x, h => absurd h (Nat.lt_irrefl _)
  | none :: l, x, h => by
    show l.foldl meetI (meetI x none) = none
    rw [meetI_none]; exact meet_stuck l
  | some (a, b) :: l, x, h => meet_gone l _ (Nat.lt_of_succ_lt_succ h)
theorem meet_no {l : List Sp} (h : (lowL l).length < l.length) : meetL l = none := meet_gone l allI h
theorem hullI_mk {A B a b : Int} (h : A = 19342822337206103650074625 ∧ B = -19342822337206103650074625 ∨ A ≤ B ∧ A < 19342822337206103650074625 ∧ -19342822337206103650074625 < B) (k : SpOk (some (a, b))) :
    hullI (mkI A B) (some (a, b)) = mkI (min A a) (max B b) ∧ (min A a ≤ max B b ∧ min A a < 19342822337206103650074625 ∧ -19342822337206103650074625 < max B b) := by
  obtain ⟨k1, k2, k3, k4, k5⟩ := k; refine ⟨?_, by omega, by omega, by omega⟩
  rcases h with ⟨rfl, rfl⟩ | ⟨h1, h2, h3⟩
  · rw [mkI_none (by omega), mkI_some (by omega) (by omega) (by omega)]
    have e1 : min 19342822337206103650074625 a = a := by omega
    have e2 : max (-19342822337206103650074625) b = b := by omega
    rw [e1, e2]
    rfl
  · rw [mkI_some h1 h2 h3]
    rfl
theorem hull_fold : ∀ (l : List Sp) (A B : Int), (A = 19342822337206103650074625 ∧ B = -19342822337206103650074625 ∨ A ≤ B ∧ A < 19342822337206103650074625 ∧ -19342822337206103650074625 < B) → (∀ y ∈ l, SpOk y) → l.foldl hullI (mkI A B) = mkI ((lowL l).foldl min A) ((highL l).foldl max B)
  | [], A, B, _, _ => rfl
  | none :: l, A, B, h, k => by
    show l.foldl hullI (hullI (mkI A B) none) = _
    rw [hullI_none]
    exact hull_fold l A B h (fun y hy => k y (List.mem_cons_of_mem _ hy))
  | some (a, b) :: l, A, B, h, k => by
    obtain ⟨e, g⟩ := hullI_mk h (k _ (List.mem_cons_self ..))
    show l.foldl hullI (hullI (mkI A B) (some (a, b))) = _
    rw [e]
    exact hull_fold l _ _ (.inr g) (fun y hy => k y (List.mem_cons_of_mem _ hy))
theorem hull_ends {l : List Sp} (h : ∀ y ∈ l, SpOk y) : hullL l = mkI (mnp (lowL l)) (mxp (highL l)) := by
  have e : (none : Sp) = mkI 19342822337206103650074625 (-19342822337206103650074625) := (mkI_none (by omega)).symm
  unfold hullL mxp mnp
  rw [e, TP_eq]; exact hull_fold l _ _ (.inl ⟨rfl, rfl⟩) h
theorem clp_min {m a b : Int} (h : a ≤ b) : min (max m a) b = clp m a b := by
  unfold clp
  split
  · omega
  · split <;> omega
/-- A row of numbers, by their cells. -/
def nrow : List (Int × Bool × Int × Int) → List Value
  | [] => []
  | (K, s, M, E) :: l => .int .i64 K :: .bool s :: .int .u64 M :: .int .i64 E :: nrow l
theorem nrow_append : ∀ l m, nrow (l ++ m) = nrow l ++ nrow m
  | [], m => rfl
  | (K, s, M, E) :: l, m => by
    show _ :: _ :: _ :: _ :: nrow (l ++ m) = _
    rw [nrow_append l m]
    rfl
theorem nrow_at : ∀ (l : List (Int × Bool × Int × Int)) (k : Nat) (K : Int) (s : Bool) (M E : Int), l[k]? = some (K, s, M, E) → (nrow l)[k * 4]? = some (.int .i64 K) ∧ (nrow l)[k * 4 + 1]? = some (.bool s) ∧ (nrow l)[k * 4 + 2]? = some (.int .u64 M) ∧ (nrow l)[k * 4 + 3]? = some (.int .i64 E)
  | [], k, _, _, _, _, h => by cases h
  | (K, s, M, E) :: l, 0, _, _, _, _, h => by
    cases h
    exact ⟨rfl, rfl, rfl, rfl⟩
  | (K, s, M, E) :: l, k + 1, K2, s2, M2, E2, h => by
    have := nrow_at l k K2 s2 M2 E2 h
    have e : (k + 1) * 4 = k * 4 + 4 := by omega
    rw [e]; exact this
/-- A slice of numbers of the call's own, that may be appended to; their places are l. -/
def Na (w : World) (base : Nat) (A : Option Addr) (n c : Nat) (l : List Int) : Prop :=
  ∃ r : List (Int × Bool × Int × Int), w.ownsRow base 24 4 (.slice A n c) n (nrow r) ∧ r.length = n ∧ l.length = n ∧ ∀ k, k < n → ∃ K s M E, r[k]? = some (K, s, M, E) ∧ Fq K s M E (l.getD k 0)
theorem Na.nil (w : World) (base : Nat) : Na w base none 0 0 [] := ⟨[], World.ownsRow_nil w base _ 4, rfl, rfl, fun k h => absurd h (Nat.not_lt_zero _)⟩
theorem Na.len {w : World} {base n c : Nat} {A : Option Addr} {l : List Int} (h : Na w base A n c l) : l.length = n := by
  obtain ⟨_, _, _, h, _⟩ := h; exact h
/-- It lies below, so nothing above changes it. -/
theorem Na.below {w w' : World} {base n c : Nat} {A : Option Addr} {l : List Int} (h : Na w base A n c l) (hb : Below w.heap.size w w') : Na w' base A n c l := by
  obtain ⟨r, h1, h2⟩ := h; refine ⟨r, ⟨h1.1, ?_⟩, h2⟩
  rcases h1.2 with h3 | ⟨g, cap, cur, hv, hg, hh, q⟩
  · exact .inl h3
  · refine .inr ⟨g, cap, cur, hv, hg, ?_, q⟩; rw [hb.block g (Array.getElem?_eq_some_iff.1 hh).1]; exact hh
/-- It reads as a slice. -/
theorem Na.nl {w : World} {base n c : Nat} {A : Option Addr} {l : List Int} (h : Na w base A n c l) (hn : n ≤ 1099511627776) : Nl w A n c l := by
  obtain ⟨r, h1, h2, h3, h4⟩ := h
  rcases h1.2 with ⟨e1, e2⟩ | ⟨g, cap, cur, hv, hg, hh, hc, hm, hs, ht⟩
  · injection e1 with a1 a2 a3
    subst a1; subst a2; subst a3
    exact ⟨h3, Nat.le_refl _, by omega, fun h => absurd h (Nat.lt_irrefl _)⟩
  · injection hv with a1 a2 a3
    subst a1; subst a3
    refine ⟨h3, hc, hn, fun _ => ⟨g, 0, rfl, fun k hk => ?_⟩⟩
    obtain ⟨K, s, M, E, hr, q⟩ := h4 k hk; obtain ⟨c0, c1, c2, c3⟩ := nrow_at r k K s M E hr
    have cell : ∀ j v, (nrow r)[j]? = some v → w.cell? ⟨g, 0 + j, none⟩ = some v := by
      intro j v hv
      rw [cell_of_row w g (0 + j) _ _ (0, 0) hh, Nat.zero_add, ← Array.getElem?_toList]; rw [← ht, List.getElem?_take] at hv
      split at hv
      · exact hv
      · cases hv
    exact ⟨K, s, M, E, cell _ _ c0, by rw [Nat.add_assoc]; exact cell _ _ c1, by rw [Nat.add_assoc]; exact cell _ _ c2, by rw [Nat.add_assoc]; exact cell _ _ c3, q.top, q.rk⟩
end Go.Proofs.YthhlccdmflgbbaaGreatDoor

/-
  append of one number, onto a row of numbers of the call's own.
-/
namespace Go.Proofs.YthhlccdmflgbbaaGreatDoor
open Go.RowKit
set_option linter.unusedVariables false
set_option maxRecDepth 100000

theorem infoNum : (Tryz.prog.info? 24).map (fun i => (i.zero, i.size, i.bytes)) = some (some (.agg #[.int .i64 0, .bool false, .int .u64 0, .int .i64 0]), 4, 32) := by kernel_rfl
section
variable {w w' : World} {base n c : Nat} {A : Option Addr} {l : List Int}
/-- The block it lies in. -/
def ownA (A : Option Addr) : Option Nat := A.map (·.block)
theorem own_eq (A : Option Addr) (n c : Nat) : (Value.slice A n c).ownBlock = ownA A := by cases A <;> rfl
/-- What grows another row leaves it. -/
theorem Na.kept {row : Option Nat} (h : Na w base A n c l) (hg : w.grownBy w' row) (hne : ownA A = none ∨ ownA A ≠ row) : Na w' base A n c l := by
  obtain ⟨r, h1, h2⟩ := h; exact ⟨r, h1.kept hg (by rw [own_eq]; exact hne), h2⟩
theorem Na.own_lt (h : Na w base A n c l) : ∀ k, ownA A = some k → base ≤ k ∧ k < w.heap.size := by
  obtain ⟨r, h1, h2⟩ := h
  intro k hk
  exact h1.lt k (by rw [own_eq]; exact hk)
theorem run_na {ty : TypeId} {g : Nat} {K M E a : Int} {s : Bool} (h : Na w base A n c l) (q : Fq K s M E a) (X : Bo w g #[.int .i64 K, .bool s, .int .u64 M, .int .i64 E] 24) (hn : n + 1 ≤ 1099511627776) (hb : base ≤ w.heap.size) :
    ∃ A2 c2 w', (Builtin.append_ #[48, 48] ty #[.slice A n c, .slice (some ⟨g, 0, none⟩) 1 1]).run Tryz.prog w = .ok (.slice A2 (n + 1) c2) w' ∧ Na w' base A2 (n + 1) c2 (l ++ [a]) ∧ w.grownBy w' (ownA A) ∧ (ownA A2 = ownA A ∨ ownA A2 = some w.heap.size) := by
  obtain ⟨i, hi, hz, hsi, hby⟩ := info_parts infoNum; obtain ⟨r, h1, h2, h3, h4⟩ := h
  obtain ⟨v', w', hr, ho, hg, _, hat⟩ := run_append_own_at (P := Tryz.prog) w base 48 ty 24 i _ 4 32 Tryz.underlying48 hi hz hsi hby rfl (by decide) _ n (nrow r) h1 ⟨g, 0, none⟩ 1 1 (nrow [(K, s, M, E)]) rfl (by
    intro j u hj
    have hc := X.cell
    rcases j with _ | _ | _ | _ | j
    · cases hj
      exact hc 0
    · cases hj
      exact hc 1
    · cases hj
      exact hc 2
    · cases hj
      exact hc 3
    · cases hj) (by
    intro u hu
    simp only [nrow, List.mem_cons, List.not_mem_nil, or_false] at hu
    rcases hu with rfl | rfl | rfl | rfl <;> rfl) (by unfold maxLen; omega) (by omega) hb
  rw [own_eq] at hg hat; rw [← nrow_append] at ho
  obtain ⟨A2, c2, rfl⟩ : ∃ A2 c2, v' = .slice A2 (n + 1) c2 := by
    rcases ho.2 with ⟨_, h0⟩ | ⟨g', cap', cur', hv, _⟩
    · omega
    · exact ⟨_, _, hv⟩
  rw [own_eq] at hat
  refine ⟨A2, c2, w', hr, ⟨_, ho, by rw [List.length_append, h2]; rfl, by rw [List.length_append, h3]; rfl, fun k hk => ?_⟩, hg, hat⟩
  by_cases hkn : k < n
  · obtain ⟨K1, s1, M1, E1, hq, qq⟩ := h4 k hkn; refine ⟨K1, s1, M1, E1, by rw [List.getElem?_append_left (by omega)]; exact hq, ?_⟩
    rw [List.getD_eq_getElem?_getD, List.getElem?_append_left (by omega), ← List.getD_eq_getElem?_getD]; exact qq
  · obtain rfl : k = n := by omega
    refine ⟨K, s, M, E, by rw [List.getElem?_append_right (by omega), h2]; simp, ?_⟩
    rw [List.getD_eq_getElem?_getD, List.getElem?_append_right (by omega), h3]
    simpa using q
/-- append(d, x), in a walk. -/
theorem wpList_na {ops : Array Oper} {rest : List Oper} {o : Oper} {a : Act} {Q : Exit → Act → World → Prop} (hgd : o.guard = none) (s x : Operand)
    (ho : o.op = .call { callee := .builtin .append, args := #[s, x], argTypes := #[48, 48] }) {g : Nat} {K M E p : Int} {b : Bool}
    (hs : a.eval s = .slice A n c) (hx : a.eval x = .slice (some ⟨g, 0, none⟩) 1 1) (h : Na w base A n c l) (q : Fq K b M E p) (X : Bo w g #[.int .i64 K, .bool b, .int .u64 M, .int .i64 E] 24) (hn : n + 1 ≤ 1099511627776) (hb : base ≤ w.heap.size)
    (hK : ∀ A2 c2 w', Na w' base A2 (n + 1) c2 (l ++ [p]) → w.grownBy w' (ownA A) → (ownA A2 = ownA A ∨ ownA A2 = some w.heap.size) → wpList Tryz.prog ops Q rest (a.put o.dst (.slice A2 (n + 1) c2)) w') : wpList Tryz.prog ops Q (o :: rest) a w := by
  refine wpList_plain hgd fun K hK2 => ?_
  obtain ⟨A2, c2, w', hr, h1, h2, h3⟩ := run_na (ty := o.type) h q X hn hb
  unfold Oper.wp execOp
  simp only [ho, resolve, invoke, builtin, Sem.run_bind, Sem.run_pure, Result.andThen_ok, List.map_toArray, List.map_cons, List.map_nil, hs, hx, hr]; exact hK2 _ _ (hK A2 c2 w' h1 h2 h3)
end
end Go.Proofs.YthhlccdmflgbbaaGreatDoor

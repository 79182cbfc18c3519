/-
 Contracts that the proof rests on.
-/
import Derived.Test.YtnbliijpjcmbjaaGreatDoorYAay
namespace Go.Proofs.YtnbliijpjcmbjaaGreatDoor
open Go.RowKit
set_option linter.unusedVariables false
theorem StN.trans {w w' w'' : World} {g : Nat} {a b c : Array Value} {T : TypeId} (h : StN w w' g a b T) (k : StN w' w'' g b c T) : StN w w'' g a c T :=
 ⟨h.1, k.2.1, fun j hj => (k.2.2.1 j hj).trans (h.2.2.1 j hj), fun B x hB hb => k.2.2.2 B x hB (h.2.2.2 B x hB hb)⟩
theorem StN.mk9 {w : World} {g : Nat} {T : TypeId} {a0 a1 a2 a3 a4 a5 a6 a7 a8 : Value} (X : Bo w g #[a0, a1, a2, a3, a4, a5, a6, a7, a8] T) (v0 v1 v2 v3 v4 v5 v6 v7 v8 : Value) :
   StN w (((((((((w.setCell ⟨g, 0, none⟩ v0).setCell ⟨g, 1, none⟩ v1).setCell ⟨g, 2, none⟩ v2).setCell ⟨g, 3, none⟩ v3).setCell ⟨g, 4, none⟩ v4).setCell ⟨g, 5, none⟩ v5).setCell ⟨g, 6, none⟩ v6).setCell ⟨g, 7, none⟩ v7).setCell ⟨g, 8, none⟩ v8) g #[a0, a1, a2, a3, a4, a5, a6, a7, a8] #[v0, v1, v2, v3, v4, v5, v6, v7, v8] T := by
 have t0 : StN w (w.setCell ⟨g, 0, none⟩ v0) g #[a0, a1, a2, a3, a4, a5, a6, a7, a8] #[v0, a1, a2, a3, a4, a5, a6, a7, a8] T := StN.at4 X 0 v0
 have s0 := t0
 have t1 : StN (w.setCell ⟨g, 0, none⟩ v0) ((w.setCell ⟨g, 0, none⟩ v0).setCell ⟨g, 1, none⟩ v1) g #[v0, a1, a2, a3, a4, a5, a6, a7, a8] #[v0, v1, a2, a3, a4, a5, a6, a7, a8] T := StN.at4 s0.box 1 v1
 have s1 := s0.trans t1
 have t2 : StN ((w.setCell ⟨g, 0, none⟩ v0).setCell ⟨g, 1, none⟩ v1) (((w.setCell ⟨g, 0, none⟩ v0).setCell ⟨g, 1, none⟩ v1).setCell ⟨g, 2, none⟩ v2) g #[v0, v1, a2, a3, a4, a5, a6, a7, a8] #[v0, v1, v2, a3, a4, a5, a6, a7, a8] T := StN.at4 s1.box 2 v2
 have s2 := s1.trans t2
 have t3 : StN (((w.setCell ⟨g, 0, none⟩ v0).setCell ⟨g, 1, none⟩ v1).setCell ⟨g, 2, none⟩ v2) ((((w.setCell ⟨g, 0, none⟩ v0).setCell ⟨g, 1, none⟩ v1).setCell ⟨g, 2, none⟩ v2).setCell ⟨g, 3, none⟩ v3) g #[v0, v1, v2, a3, a4, a5, a6, a7, a8] #[v0, v1, v2, v3, a4, a5, a6, a7, a8] T := StN.at4 s2.box 3 v3
 have s3 := s2.trans t3
 have t4 : StN ((((w.setCell ⟨g, 0, none⟩ v0).setCell ⟨g, 1, none⟩ v1).setCell ⟨g, 2, none⟩ v2).setCell ⟨g, 3, none⟩ v3) (((((w.setCell ⟨g, 0, none⟩ v0).setCell ⟨g, 1, none⟩ v1).setCell ⟨g, 2, none⟩ v2).setCell ⟨g, 3, none⟩ v3).setCell ⟨g, 4, none⟩ v4) g #[v0, v1, v2, v3, a4, a5, a6, a7, a8] #[v0, v1, v2, v3, v4, a5, a6, a7, a8] T := StN.at4 s3.box 4 v4
 have s4 := s3.trans t4
 have t5 : StN (((((w.setCell ⟨g, 0, none⟩ v0).setCell ⟨g, 1, none⟩ v1).setCell ⟨g, 2, none⟩ v2).setCell ⟨g, 3, none⟩ v3).setCell ⟨g, 4, none⟩ v4) ((((((w.setCell ⟨g, 0, none⟩ v0).setCell ⟨g, 1, none⟩ v1).setCell ⟨g, 2, none⟩ v2).setCell ⟨g, 3, none⟩ v3).setCell ⟨g, 4, none⟩ v4).setCell ⟨g, 5, none⟩ v5) g #[v0, v1, v2, v3, v4, a5, a6, a7, a8] #[v0, v1, v2, v3, v4, v5, a6, a7, a8] T := StN.at4 s4.box 5 v5
 have s5 := s4.trans t5
 have t6 : StN ((((((w.setCell ⟨g, 0, none⟩ v0).setCell ⟨g, 1, none⟩ v1).setCell ⟨g, 2, none⟩ v2).setCell ⟨g, 3, none⟩ v3).setCell ⟨g, 4, none⟩ v4).setCell ⟨g, 5, none⟩ v5) (((((((w.setCell ⟨g, 0, none⟩ v0).setCell ⟨g, 1, none⟩ v1).setCell ⟨g, 2, none⟩ v2).setCell ⟨g, 3, none⟩ v3).setCell ⟨g, 4, none⟩ v4).setCell ⟨g, 5, none⟩ v5).setCell ⟨g, 6, none⟩ v6) g #[v0, v1, v2, v3, v4, v5, a6, a7, a8] #[v0, v1, v2, v3, v4, v5, v6, a7, a8] T := StN.at4 s5.box 6 v6
 have s6 := s5.trans t6
 have t7 : StN (((((((w.setCell ⟨g, 0, none⟩ v0).setCell ⟨g, 1, none⟩ v1).setCell ⟨g, 2, none⟩ v2).setCell ⟨g, 3, none⟩ v3).setCell ⟨g, 4, none⟩ v4).setCell ⟨g, 5, none⟩ v5).setCell ⟨g, 6, none⟩ v6) ((((((((w.setCell ⟨g, 0, none⟩ v0).setCell ⟨g, 1, none⟩ v1).setCell ⟨g, 2, none⟩ v2).setCell ⟨g, 3, none⟩ v3).setCell ⟨g, 4, none⟩ v4).setCell ⟨g, 5, none⟩ v5).setCell ⟨g, 6, none⟩ v6).setCell ⟨g, 7, none⟩ v7) g #[v0, v1, v2, v3, v4, v5, v6, a7, a8] #[v0, v1, v2, v3, v4, v5, v6, v7, a8] T := StN.at4 s6.box 7 v7
 have s7 := s6.trans t7
 have t8 : StN ((((((((w.setCell ⟨g, 0, none⟩ v0).setCell ⟨g, 1, none⟩ v1).setCell ⟨g, 2, none⟩ v2).setCell ⟨g, 3, none⟩ v3).setCell ⟨g, 4, none⟩ v4).setCell ⟨g, 5, none⟩ v5).setCell ⟨g, 6, none⟩ v6).setCell ⟨g, 7, none⟩ v7) (((((((((w.setCell ⟨g, 0, none⟩ v0).setCell ⟨g, 1, none⟩ v1).setCell ⟨g, 2, none⟩ v2).setCell ⟨g, 3, none⟩ v3).setCell ⟨g, 4, none⟩ v4).setCell ⟨g, 5, none⟩ v5).setCell ⟨g, 6, none⟩ v6).setCell ⟨g, 7, none⟩ v7).setCell ⟨g, 8, none⟩ v8) g #[v0, v1, v2, v3, v4, v5, v6, v7, a8] #[v0, v1, v2, v3, v4, v5, v6, v7, v8] T := StN.at4 s7.box 8 v8
 have s8 := s7.trans t8; exact s8
def Ci (e : Bool) (K : Int) (s : Bool) (M E K' : Int) (s' : Bool) (M' E' : Int) : Sp → Prop
 | none => e = true ∧ Fq K s M E 0 ∧ Fq K' s' M' E' 0
 | some (a, b) => e = false ∧ Fq K s M E a ∧ Fq K' s' M' E' b ∧ a ≤ b ∧ a < 19342822337206103650074625 ∧ -19342822337206103650074625 < b
section
variable {e e2 : Bool} {K M E K' M' E' K2 M2 E2 K2' M2' E2' : Int} {s s' s2 s2' : Bool} {x y : Sp}
theorem Ci.ok (h : Ci e K s M E K' s' M' E' x) : SpOk x := by
 rcases x with _ | ⟨a, b⟩
 · exact trivial
 · obtain ⟨_, q1, q2, h1, h2, h3⟩ := h; exact ⟨q1.bd.1, h1, q2.bd.2, h2, h3⟩
theorem Ci.top (h : Ci e K s M E K' s' M' E' x) : M < 18446744073709551616 ∧ M' < 18446744073709551616 := by
 rcases x with _ | ⟨a, b⟩
 · exact ⟨h.2.1.top, h.2.2.top⟩
 · exact ⟨h.2.1.top, h.2.2.1.top⟩
theorem Ci.uniq (h : Ci e K s M E K' s' M' E' x) (k : Ci e2 K2 s2 M2 E2 K2' s2' M2' E2' x) : e = e2 ∧ K = K2 ∧ s = s2 ∧ M = M2 ∧ E = E2 ∧ K' = K2' ∧ s' = s2' ∧ M' = M2' ∧ E' = E2' := by
 rcases x with _ | ⟨a, b⟩
 · obtain ⟨h1, q1, q2⟩ := h; obtain ⟨k1, p1, p2⟩ := k; obtain ⟨c1, c2, c3, c4⟩ := q1.uniq p1; obtain ⟨d1, d2, d3, d4⟩ := q2.uniq p2; exact ⟨h1.trans k1.symm, c1, c2, c3, c4, d1, d2, d3, d4⟩
 · obtain ⟨h1, q1, q2, _⟩ := h; obtain ⟨k1, p1, p2, _⟩ := k; obtain ⟨c1, c2, c3, c4⟩ := q1.uniq p1; obtain ⟨d1, d2, d3, d4⟩ := q2.uniq p2; exact ⟨h1.trans k1.symm, c1, c2, c3, c4, d1, d2, d3, d4⟩
theorem Ci.fn (h : Ci e K s M E K' s' M' E' x) (k : Ci e K s M E K' s' M' E' y) : x = y := by
 rcases x with _ | ⟨a, b⟩ <;> rcases y with _ | ⟨c, d⟩
 · rfl
 · have := h.1.symm.trans k.1
   cases this
 · have := h.1.symm.trans k.1
   cases this
 · rw [← h.2.1.rk, ← h.2.2.1.rk, ← k.2.1.rk, ← k.2.2.1.rk]
end
theorem Ci.none : Ci true 0 false 0 0 0 false 0 0 none := ⟨rfl, Fq.nought, Fq.nought⟩
def rkI (e : Bool) (K : Int) (s : Bool) (M E K' : Int) (s' : Bool) (M' E' : Int) : Sp := if e = true then none else if MayQ K s M E ∧ MayQ K' s' M' E' then mkI (rk K s M E) (rk K' s' M' E') else none
def mayI (e : Bool) (K : Int) (s : Bool) (M E K' : Int) (s' : Bool) (M' E' : Int) : Bool := if e = true then (decide (K = 0 ∧ s = false ∧ M = 0 ∧ E = 0) && decide (K' = 0 ∧ s' = false ∧ M' = 0 ∧ E' = 0)) else decide (rkI e K s M E K' s' M' E' ≠ none)
section
variable {e : Bool} {K M E K' M' E' : Int} {s s' : Bool} {x : Sp}
theorem rkI_t : rkI true K s M E K' s' M' E' = none := if_pos rfl
theorem rkI_f : rkI false K s M E K' s' M' E' = if MayQ K s M E ∧ MayQ K' s' M' E' then mkI (rk K s M E) (rk K' s' M' E') else none := if_neg ff
theorem rkI_ok (hM : LQ M) (hM' : LQ M') : SpOk (rkI e K s M E K' s' M' E') := by
 cases e
 · rw [rkI_f]
   by_cases h : MayQ K s M E ∧ MayQ K' s' M' E'
   · rw [if_pos h]; exact mkI_ok (rk_fq hM h.1).bd.1 (rk_fq hM' h.2).bd.2
   · rw [if_neg h]; exact trivial
 · exact trivial
theorem mayI_ci (hM : LQ M) (hM' : LQ M') (h : mayI e K s M E K' s' M' E' = true) : Ci e K s M E K' s' M' E' (rkI e K s M E K' s' M' E') := by
 unfold mayI at h
 cases e
 · rw [if_neg ff, decide_eq_true_iff] at h; rw [rkI_f] at h ⊢
   by_cases hq : MayQ K s M E ∧ MayQ K' s' M' E'
   · rw [if_pos hq] at h ⊢
     by_cases hc : rk K s M E ≤ rk K' s' M' E' ∧ rk K s M E < 19342822337206103650074625 ∧ -19342822337206103650074625 < rk K' s' M' E'
     · rw [mkI_some hc.1 hc.2.1 hc.2.2]; exact ⟨rfl, rk_fq hM hq.1, rk_fq hM' hq.2, hc⟩
     · exact absurd (mkI_none hc) h
   · rw [if_neg hq] at h; exact absurd rfl h
 · rw [if_pos rfl, Bool.and_eq_true, decide_eq_true_iff, decide_eq_true_iff] at h; obtain ⟨⟨rfl, rfl, rfl, rfl⟩, rfl, rfl, rfl, rfl⟩ := h; exact Ci.none
theorem mayI_no (h : mayI e K s M E K' s' M' E' = false) : rkI e K s M E K' s' M' E' = none := by
 cases e
 · unfold mayI at h
   rw [if_neg ff, decide_eq_false_iff_not] at h; exact Decidable.not_not.1 h
 · exact rkI_t
theorem Ci.rk (h : Ci e K s M E K' s' M' E' x) : rkI e K s M E K' s' M' E' = x := by
 rcases x with _ | ⟨a, b⟩
 · obtain ⟨rfl, _⟩ := h; exact rkI_t
 · obtain ⟨rfl, q1, q2, h1, h2, h3⟩ := h; rw [rkI_f, if_pos ⟨q1.1, q2.1⟩, q1.rk, q2.rk, mkI_some h1 h2 h3]
theorem Ci.may (h : Ci e K s M E K' s' M' E' x) : mayI e K s M E K' s' M' E' = true := by
 have hr := h.rk
 unfold mayI
 rcases x with _ | ⟨a, b⟩
 · obtain ⟨rfl, q1, q2⟩ := h; obtain ⟨rfl, rfl, rfl, rfl⟩ := q1.uniq Fq.nought; obtain ⟨rfl, rfl, rfl, rfl⟩ := q2.uniq Fq.nought
   rfl
 · obtain ⟨rfl, _⟩ := h; rw [if_neg ff, hr]
   rfl
end
def PV (w : World) (x : Sp) (e : Ending) (w' : World) : Prop := ∃ e0 K s M E K' s' M' E', e = .returned (.agg #[.bool e0, .int .i64 K, .bool s, .int .u64 M, .int .i64 E, .int .i64 K', .bool s', .int .u64 M', .int .i64 E']) ∧ Ci e0 K s M E K' s' M' E' x ∧ Below w.heap.size w w'
def Jo.Fact.iv (x : Sp) : Jo.Fact := ⟨fun v w => ∃ e0 K s M E K' s' M' E', v = .agg #[.bool e0, .int .i64 K, .bool s, .int .u64 M, .int .i64 E, .int .i64 K', .bool s', .int .u64 M', .int .i64 E'] ∧ Ci e0 K s M E K' s' M' E' x, fun v w w' h b => h⟩
def Il8 (w : World) (A : Option Addr) (n c : Nat) (l : List Sp) : Prop :=
 l.length = n ∧ n ≤ c ∧ n ≤ 1099511627776 ∧ (0 < n → ∃ b o, A = some ⟨b, o, none⟩ ∧ ∀ k, k < n → ∃ e K s M E K' s' M' E', w.cell? ⟨b, o + k * 9, none⟩ = some (.bool e) ∧ w.cell? ⟨b, o + k * 9 + 1, none⟩ = some (.int .i64 K) ∧ w.cell? ⟨b, o + k * 9 + 2, none⟩ = some (.bool s) ∧ w.cell? ⟨b, o + k * 9 + 3, none⟩ = some (.int .u64 M) ∧ w.cell? ⟨b, o + k * 9 + 4, none⟩ = some (.int .i64 E) ∧ w.cell? ⟨b, o + k * 9 + 5, none⟩ = some (.int .i64 K') ∧ w.cell? ⟨b, o + k * 9 + 6, none⟩ = some (.bool s') ∧ w.cell? ⟨b, o + k * 9 + 7, none⟩ = some (.int .u64 M') ∧ w.cell? ⟨b, o + k * 9 + 8, none⟩ = some (.int .i64 E') ∧ M < 18446744073709551616 ∧ M' < 18446744073709551616 ∧ rkI e K s M E K' s' M' E' = l.getD k none)
theorem Il8.below {w w' : World} {A : Option Addr} {n c : Nat} {l : List Sp} (h : Il8 w A n c l) (hb : Below w.heap.size w w') : Il8 w' A n c l := by
 obtain ⟨h1, h2, h3, h4⟩ := h
 refine ⟨h1, h2, h3, fun hn => ?_⟩
 obtain ⟨b, o, e, hc⟩ := h4 hn
 refine ⟨b, o, e, fun k hk => ?_⟩
 obtain ⟨e, K, s, M, E, K', s', M', E', c0, c1, c2, c3, c4, c5, c6, c7, c8, hM, hM', hr⟩ := hc k hk
 have t : ∀ {i : Nat} {v : Value}, w.cell? ⟨b, i, none⟩ = some v → w'.cell? ⟨b, i, none⟩ = some v := fun c => (hb.cell (p := ⟨b, _, none⟩) (block_lt_of_cell c)).trans c
 exact ⟨e, K, s, M, E, K', s', M', E', t c0, t c1, t c2, t c3, t c4, t c5, t c6, t c7, t c8, hM, hM', hr⟩
theorem Il8.ok {w : World} {A : Option Addr} {n c : Nat} {l : List Sp} (h : Il8 w A n c l) : ∀ y ∈ l, SpOk y := by
 intro y hy
 obtain ⟨k, hk, e⟩ := List.getElem_of_mem hy; obtain ⟨h1, h2, h3, h4⟩ := h; obtain ⟨b, o, _, hc⟩ := h4 (by omega); obtain ⟨e0, K, s, M, E, K', s', M', E', _, _, _, _, _, _, _, _, _, hM, hM', hr⟩ := hc k (by omega)
 have : l.getD k none = y := by
   rw [List.getD_eq_getElem?_getD, List.getElem?_eq_getElem hk, e]
   rfl
 rw [← this, ← hr]; exact rkI_ok hM hM'
theorem StN.of9 {w w1 : World} {g : Nat} {T : TypeId} {a0 a1 a2 a3 a4 a5 a6 a7 a8 v0 v1 v2 v3 v4 v5 v6 v7 v8 : Value} (X : Bo w g #[a0, a1, a2, a3, a4, a5, a6, a7, a8] T) (h : ((((((((w.setCell ⟨g, 0, none⟩ v0).setCell ⟨g, 1, none⟩ v1).setCell ⟨g, 2, none⟩ v2).setCell ⟨g, 3, none⟩ v3).setCell ⟨g, 4, none⟩ v4).setCell ⟨g, 5, none⟩ v5).setCell ⟨g, 6, none⟩ v6).setCell ⟨g, 7, none⟩ v7).setCell ⟨g, 8, none⟩ v8 = w1) : StN w w1 g #[a0, a1, a2, a3, a4, a5, a6, a7, a8] #[v0, v1, v2, v3, v4, v5, v6, v7, v8] T := h ▸ StN.mk9 X v0 v1 v2 v3 v4 v5 v6 v7 v8
def lo1 : Sp → List Int
 | none => []
 | some (a, _) => [a]
def hi1 : Sp → List Int
 | none => []
 | some (_, b) => [b]
def lowL : List Sp → List Int
 | [] => []
 | x :: l => lo1 x ++ lowL l
def highL : List Sp → List Int
 | [] => []
 | x :: l => hi1 x ++ highL l
theorem lowL_append : ∀ (l m : List Sp), lowL (l ++ m) = lowL l ++ lowL m
 | [], m => rfl
 | x :: l, m => by
   show lo1 x ++ lowL (l ++ m) = (lo1 x ++ lowL l) ++ lowL m
   rw [lowL_append l m, List.append_assoc]
theorem highL_append : ∀ (l m : List Sp), highL (l ++ m) = highL l ++ highL m
 | [], m => rfl
 | x :: l, m => by
   show hi1 x ++ highL (l ++ m) = (hi1 x ++ highL l) ++ highL m
   rw [highL_append l m, List.append_assoc]
theorem lowL_take {l : List Sp} {k : Nat} (h : k < l.length) : lowL (l.take (k + 1)) = lowL (l.take k) ++ lo1 (l.getD k none) := by
 rw [List.take_succ_eq_append_getElem h, lowL_append, List.getD_eq_getElem?_getD, List.getElem?_eq_getElem h]; exact congrArg _ (List.append_nil _)
theorem highL_take {l : List Sp} {k : Nat} (h : k < l.length) : highL (l.take (k + 1)) = highL (l.take k) ++ hi1 (l.getD k none) := by
 rw [List.take_succ_eq_append_getElem h, highL_append, List.getD_eq_getElem?_getD, List.getElem?_eq_getElem h]; exact congrArg _ (List.append_nil _)
theorem len_lo : ∀ l : List Sp, (lowL l).length ≤ l.length
 | [] => Nat.le_refl _
 | none :: l => Nat.le_succ_of_le (len_lo l)
 | some (a, b) :: l => Nat.succ_le_succ (len_lo l)
theorem meetI_mk (A B a b : Int) : meetI (mkI A B) (some (a, b)) = mkI (max A a) (min B b) := by
 by_cases h : A ≤ B ∧ A < 19342822337206103650074625 ∧ -19342822337206103650074625 < B
 · rw [mkI_some h.1 h.2.1 h.2.2]
   rfl
 · rw [mkI_none h, mkI_none (fun c => h (by omega))]
   rfl
theorem meet_fold : ∀ (l : List Sp) (A B : Int), (lowL l).length = l.length → l.foldl meetI (mkI A B) = mkI ((lowL l).foldl max A) ((highL l).foldl min B)
 | [], A, B, _ => rfl
 | none :: l, A, B, h => by
   have h1 : (lowL l).length = l.length + 1 := h
   have h2 := len_lo l
   omega
 | some (a, b) :: l, A, B, h => by
   show l.foldl meetI (meetI (mkI A B) (some (a, b))) = _
   rw [meetI_mk]; exact meet_fold l (max A a) (min B b) (Nat.succ_inj.1 h)
theorem meet_some {l : List Sp} (h : (lowL l).length = l.length) : meetL l = mkI (mxp (lowL l)) (mnp (highL l)) := by
 have e : allI = mkI (-19342822337206103650074625) 19342822337206103650074625 := (mkI_some (by omega) (by omega) (by omega)).symm
 unfold meetL mxp mnp
 rw [e, TP_eq]; exact meet_fold l _ _ h
theorem meet_gone : ∀ (l : List Sp) (x : Sp), (lowL l).length < l.length → l.foldl meetI x = none
 | [], x, h => absurd h (Nat.lt_irrefl _)
 | none :: l, x, h => by
   show l.foldl meetI (meetI x none) = none
   rw [meetI_none]; exact meet_stuck l
 | some (a, b) :: l, x, h => meet_gone l _ (Nat.lt_of_succ_lt_succ h)
theorem meet_no {l : List Sp} (h : (lowL l).length < l.length) : meetL l = none := meet_gone l allI h
theorem hullI_mk {A B a b : Int} (h : A = 19342822337206103650074625 ∧ B = -19342822337206103650074625 ∨ A ≤ B ∧ A < 19342822337206103650074625 ∧ -19342822337206103650074625 < B) (k : SpOk (some (a, b))) :
   hullI (mkI A B) (some (a, b)) = mkI (min A a) (max B b) ∧ (min A a ≤ max B b ∧ min A a < 19342822337206103650074625 ∧ -19342822337206103650074625 < max B b) := by
 obtain ⟨k1, k2, k3, k4, k5⟩ := k; refine ⟨?_, by omega, by omega, by omega⟩
 rcases h with ⟨rfl, rfl⟩ | ⟨h1, h2, h3⟩
 · rw [mkI_none (by omega), mkI_some (by omega) (by omega) (by omega)]
   have e1 : min 19342822337206103650074625 a = a := by omega
   have e2 : max (-19342822337206103650074625) b = b := by omega
   rw [e1, e2]
   rfl
 · rw [mkI_some h1 h2 h3]
   rfl
theorem hull_fold : ∀ (l : List Sp) (A B : Int), (A = 19342822337206103650074625 ∧ B = -19342822337206103650074625 ∨ A ≤ B ∧ A < 19342822337206103650074625 ∧ -19342822337206103650074625 < B) → (∀ y ∈ l, SpOk y) → l.foldl hullI (mkI A B) = mkI ((lowL l).foldl min A) ((highL l).foldl max B)
 | [], A, B, _, _ => rfl
 | none :: l, A, B, h, k => by
   show l.foldl hullI (hullI (mkI A B) none) = _
   rw [hullI_none]
   exact hull_fold l A B h (fun y hy => k y (List.mem_cons_of_mem _ hy))
 | some (a, b) :: l, A, B, h, k => by
   obtain ⟨e, g⟩ := hullI_mk h (k _ (List.mem_cons_self ..))
   show l.foldl hullI (hullI (mkI A B) (some (a, b))) = _
   rw [e]
   exact hull_fold l _ _ (.inr g) (fun y hy => k y (List.mem_cons_of_mem _ hy))
theorem hull_ends {l : List Sp} (h : ∀ y ∈ l, SpOk y) : hullL l = mkI (mnp (lowL l)) (mxp (highL l)) := by
 have e : (none : Sp) = mkI 19342822337206103650074625 (-19342822337206103650074625) := (mkI_none (by omega)).symm
 unfold hullL mxp mnp
 rw [e, TP_eq]; exact hull_fold l _ _ (.inl ⟨rfl, rfl⟩) h
def nrow : List (Int × Bool × Int × Int) → List Value
 | [] => []
 | (K, s, M, E) :: l => .int .i64 K :: .bool s :: .int .u64 M :: .int .i64 E :: nrow l
theorem nrow_append : ∀ l m, nrow (l ++ m) = nrow l ++ nrow m
 | [], m => rfl
 | (K, s, M, E) :: l, m => by
   show _ :: _ :: _ :: _ :: nrow (l ++ m) = _
   rw [nrow_append l m]
   rfl
theorem nrow_at : ∀ (l : List (Int × Bool × Int × Int)) (k : Nat) (K : Int) (s : Bool) (M E : Int), l[k]? = some (K, s, M, E) → (nrow l)[k * 4]? = some (.int .i64 K) ∧ (nrow l)[k * 4 + 1]? = some (.bool s) ∧ (nrow l)[k * 4 + 2]? = some (.int .u64 M) ∧ (nrow l)[k * 4 + 3]? = some (.int .i64 E)
 | [], k, _, _, _, _, h => by cases h
 | (K, s, M, E) :: l, 0, _, _, _, _, h => by
   cases h
   exact ⟨rfl, rfl, rfl, rfl⟩
 | (K, s, M, E) :: l, k + 1, K2, s2, M2, E2, h => by
   have := nrow_at l k K2 s2 M2 E2 h
   have e : (k + 1) * 4 = k * 4 + 4 := by omega
   rw [e]; exact this
def Na (w : World) (base : Nat) (A : Option Addr) (n c : Nat) (l : List Int) : Prop :=
 ∃ r : List (Int × Bool × Int × Int), w.ownsRow base 24 4 (.slice A n c) n (nrow r) ∧ r.length = n ∧ l.length = n ∧ ∀ k, k < n → ∃ K s M E, r[k]? = some (K, s, M, E) ∧ Fq K s M E (l.getD k 0)
theorem Na.nil (w : World) (base : Nat) : Na w base none 0 0 [] := ⟨[], World.ownsRow_nil w base _ 4, rfl, rfl, fun k h => absurd h (Nat.not_lt_zero _)⟩
theorem Na.len {w : World} {base n c : Nat} {A : Option Addr} {l : List Int} (h : Na w base A n c l) : l.length = n := by
 obtain ⟨_, _, _, h, _⟩ := h; exact h
theorem Na.below {w w' : World} {base n c : Nat} {A : Option Addr} {l : List Int} (h : Na w base A n c l) (hb : Below w.heap.size w w') : Na w' base A n c l := by
 obtain ⟨r, h1, h2⟩ := h; refine ⟨r, ⟨h1.1, ?_⟩, h2⟩
 rcases h1.2 with h3 | ⟨g, cap, cur, hv, hg, hh, q⟩
 · exact .inl h3
 · refine .inr ⟨g, cap, cur, hv, hg, ?_, q⟩; rw [hb.block g (Array.getElem?_eq_some_iff.1 hh).1]; exact hh
theorem Na.nl {w : World} {base n c : Nat} {A : Option Addr} {l : List Int} (h : Na w base A n c l) (hn : n ≤ 1099511627776) : Nl w A n c l := by
 obtain ⟨r, h1, h2, h3, h4⟩ := h
 rcases h1.2 with ⟨e1, e2⟩ | ⟨g, cap, cur, hv, hg, hh, hc, hm, hs, ht⟩
 · injection e1 with a1 a2 a3
   subst a1; subst a2; subst a3
   exact ⟨h3, Nat.le_refl _, by omega, fun h => absurd h (Nat.lt_irrefl _)⟩
 · injection hv with a1 a2 a3
   subst a1; subst a3
   refine ⟨h3, hc, hn, fun _ => ⟨g, 0, rfl, fun k hk => ?_⟩⟩
   obtain ⟨K, s, M, E, hr, q⟩ := h4 k hk; obtain ⟨c0, c1, c2, c3⟩ := nrow_at r k K s M E hr
   have cell : ∀ j v, (nrow r)[j]? = some v → w.cell? ⟨g, 0 + j, none⟩ = some v := by
     intro j v hv
     rw [cell_of_row w g (0 + j) _ _ (0, 0) hh, Nat.zero_add, ← Array.getElem?_toList]; rw [← ht, List.getElem?_take] at hv
     split at hv
     · exact hv
     · cases hv
   exact ⟨K, s, M, E, cell _ _ c0, by rw [Nat.add_assoc]; exact cell _ _ c1, by rw [Nat.add_assoc]; exact cell _ _ c2, by rw [Nat.add_assoc]; exact cell _ _ c3, q.top, q.rk⟩
def gone : List Sp → Bool
 | [] => false
 | none :: _ => true
 | some _ :: l => gone l
theorem gone_at : ∀ {l : List Sp} {k : Nat}, k < l.length → l.getD k none = none → gone l = true
 | none :: _, _, _, _ => rfl
 | some _ :: l, 0, _, e => by cases e
 | some _ :: l, k + 1, h, e => gone_at (l := l) (k := k) (Nat.lt_of_succ_lt_succ h) e
theorem gone_no : ∀ {l : List Sp}, (∀ k, k < l.length → l.getD k none ≠ none) → gone l = false
 | [], _ => rfl
 | none :: l, h => absurd rfl (h 0 (Nat.succ_pos _))
 | some _ :: l, h => gone_no (l := l) fun k hk => h (k + 1) (Nat.succ_lt_succ hk)
theorem gone_get : ∀ {l : List Sp} {k : Nat}, gone l = false → k < l.length → ∃ a b, l.getD k none = some (a, b)
 | none :: _, _, h, _ => by cases h
 | some (a, b) :: l, 0, _, _ => ⟨a, b, rfl⟩
 | some _ :: l, k + 1, h, hk => gone_get (l := l) (k := k) h (Nat.lt_of_succ_lt_succ hk)
theorem gone_fold : ∀ l : List Sp, l.foldl addI none = none
 | [] => rfl
 | x :: l => gone_fold l
theorem gone_fold2 : ∀ {l : List Sp} (x : Sp), gone l = true → l.foldl addI x = none
 | none :: l, x, _ => by
   show l.foldl addI (addI x none) = none
   rw [add_none, gone_fold]
 | some _ :: l, x, h => gone_fold2 (l := l) _ h
theorem add_gone : ∀ {l : List Sp}, gone l = true → addL l = none
 | none :: l, _ => gone_fold l
 | some p :: l, h => gone_fold2 (l := l) (some p) h
theorem addp_lt {x y : Int} (x1 : -19342822337206103650074625 ≤ x) (x2 : x < 19342822337206103650074625) (y1 : -19342822337206103650074625 ≤ y) (y2 : y < 19342822337206103650074625) : addp false x y < 19342822337206103650074625 := by
 cases hx : infp x
 · cases hy : infp y
   · obtain ⟨a, b⟩ := infp_false x1 (by omega) hx; obtain ⟨c, d⟩ := infp_false y1 (by omega) hy; have h := (addp_spec false a b c d).1.2.1
     omega
   · rw [addp_ft false hx hy]; exact y2
 · have e := infp_true hx
   cases hy : infp y
   · rw [addp_tf false hx hy]; exact x2
   · have e2 := infp_true hy; rw [addp_same false hx (by omega)]; exact x2
theorem addp_gt {x y : Int} (x1 : -19342822337206103650074625 < x) (x2 : x ≤ 19342822337206103650074625) (y1 : -19342822337206103650074625 < y) (y2 : y ≤ 19342822337206103650074625) : -19342822337206103650074625 < addp true x y := by
 have h := addp_lt (x := -x) (y := -y) (by omega) (by omega) (by omega) (by omega); have e := addp_neg (x := x) (y := y) true; rw [Bool.not_true] at e
 omega
theorem addI_some {a b c d : Int} (h : SpOk (some (a, b))) (k : SpOk (some (c, d))) : addI (some (a, b)) (some (c, d)) = some (addp false a c, addp true b d) ∧ SpOk (some (addp false a c, addp true b d)) := by
 obtain ⟨h1, h2, h3, h4, h5⟩ := h; obtain ⟨k1, k2, k3, k4, k5⟩ := k; have l1 := addp_lt h1 h4 k1 k4; have l2 := addp_gt h5 h3 k5 k3
 have l3 : addp false a c ≤ addp true b d := by
   refine Int.le_trans (addp_le2 false ⟨by omega, by omega⟩ ⟨by omega, by omega⟩ ⟨by omega, by omega⟩ ⟨by omega, by omega⟩ h2 k2) ?_; exact addp_le (by omega) (by omega) (by omega) (by omega)
 have b1 := addp_bd (x := a) (y := c) false (by omega) (by omega) (by omega) (by omega); have b2 := addp_bd (x := b) (y := d) true (by omega) (by omega) (by omega) (by omega)
 have o : SpOk (some (addp false a c, addp true b d)) := ⟨b1.1, l3, b2.2, l1, l2⟩
 exact ⟨o.mk, o⟩
theorem add_fold : ∀ {l : List Sp} {a b : Int}, gone l = false → (∀ y ∈ l, SpOk y) → SpOk (some (a, b)) → l.foldl addI (some (a, b)) = some ((lowL l).foldl (addp false) a, (highL l).foldl (addp true) b) ∧ SpOk (some ((lowL l).foldl (addp false) a, (highL l).foldl (addp true) b))
 | [], a, b, _, _, h => ⟨rfl, h⟩
 | none :: l, _, _, h, _, _ => by cases h
 | some (c, d) :: l, a, b, h, hl, hab => by
   obtain ⟨e, o⟩ := addI_some hab (hl (some (c, d)) (List.mem_cons_self ..))
   have := add_fold (l := l) h (fun y hy => hl y (List.mem_cons_of_mem _ hy)) o
   rw [← e] at this; exact this
theorem add_ends : ∀ {l : List Sp}, gone l = false → (∀ y ∈ l, SpOk y) → mkI ((lowL l).foldl (addp false) 0) ((highL l).foldl (addp true) 0) = addL l
 | [], _, _ => by decide
 | none :: l, h, _ => by cases h
 | some (c, d) :: l, h, hl => by
   have k := hl (some (c, d)) (List.mem_cons_self ..); have i := k.in1
   obtain ⟨e, o⟩ := add_fold (l := l) h (fun y hy => hl y (List.mem_cons_of_mem _ hy)) k
   show mkI ((lowL l).foldl (addp false) (addp false 0 c)) ((highL l).foldl (addp true) (addp true 0 d)) = l.foldl addI (some (c, d))
   rw [addp_comm (x := 0) (y := c), addp_comm (x := 0) (y := d), addp_zero false i.1.1 i.1.2, addp_zero true i.2.1 i.2.2, e, o.mk]
set_option linter.unusedSimpArgs false
set_option maxRecDepth 100000
theorem fq_inf2 (s : Bool) : Fq 2 s 0 0 (sgi s TP) := ⟨.inr (.inr ⟨rfl, rfl, rfl⟩), by decide, by
 cases s <;> rfl⟩
theorem cmp_le {x y c : Int} (h : cmpI x y = c) : decide (c ≤ 0) = decide (x ≤ y) := by
 rw [← h]
 by_cases e : x ≤ y
 · rw [decide_eq_true e]
   exact decide_eq_true (by rcases cmpI_tri x y with ⟨a, b⟩ | ⟨a, b⟩ | ⟨a, b⟩ <;> rw [b] <;> omega)
 · rw [decide_eq_false e]
   exact decide_eq_false (by rcases cmpI_tri x y with ⟨a, b⟩ | ⟨a, b⟩ | ⟨a, b⟩ <;> rw [b] <;> omega)
theorem Nl.lit2 {W : World} {g : Nat} {D1 D2 M1 M2 E1 E2 r1 r2 : Int} {s1 s2 : Bool} (hg : W.heap.size = g) (h1 : LQ M1) (h2 : LQ M2) (k1 : rk D1 s1 M1 E1 = r1) (k2 : rk D2 s2 M2 E2 = r2) :
   Nl (W.alloc (.cells #[.int .i64 D1, .bool s1, .int .u64 M1, .int .i64 E1, .int .i64 D2, .bool s2, .int .u64 M2, .int .i64 E2] 24)) (some ⟨g, 0, none⟩) 2 2 [r1, r2] := by
 subst hg; have hh := heap_alloc_new W (.cells #[.int .i64 D1, .bool s1, .int .u64 M1, .int .i64 E1, .int .i64 D2, .bool s2, .int .u64 M2, .int .i64 E2] 24)
 refine ⟨rfl, Nat.le_refl _, by decide, fun _ => ⟨_, 0, rfl, fun k hk => ?_⟩⟩
 rcases (by omega : k = 0 ∨ k = 1) with rfl | rfl
 · exact ⟨D1, s1, M1, E1, by rw [cell_of_row _ _ _ _ _ _ hh]; rfl, by rw [cell_of_row _ _ _ _ _ _ hh]; rfl, by rw [cell_of_row _ _ _ _ _ _ hh]; rfl, by rw [cell_of_row _ _ _ _ _ _ hh]; rfl, h1, k1⟩
 · exact ⟨D2, s2, M2, E2, by rw [cell_of_row _ _ _ _ _ _ hh]; rfl, by rw [cell_of_row _ _ _ _ _ _ hh]; rfl, by rw [cell_of_row _ _ _ _ _ _ hh]; rfl, by rw [cell_of_row _ _ _ _ _ _ hh]; rfl, h2, k2⟩
theorem mxp_two {a b : Int} (ha : -19342822337206103650074625 ≤ a) : mxp [a, b] = max a b := by
 have := TP_eq
 show max (max (-TP) a) b = _
 omega
theorem infoNum : (Tryz.prog.info? 24).map (fun i => (i.zero, i.size, i.bytes)) = some (some (.agg #[.int .i64 0, .bool false, .int .u64 0, .int .i64 0]), 4, 32) := by kernel_rfl
section
variable {w w' : World} {base n c : Nat} {A : Option Addr} {l : List Int}
def ownA (A : Option Addr) : Option Nat := A.map (·.block)
theorem own_eq (A : Option Addr) (n c : Nat) : (Value.slice A n c).ownBlock = ownA A := by cases A <;> rfl
theorem Na.kept {row : Option Nat} (h : Na w base A n c l) (hg : w.grownBy w' row) (hne : ownA A = none ∨ ownA A ≠ row) : Na w' base A n c l := by
 obtain ⟨r, h1, h2⟩ := h; exact ⟨r, h1.kept hg (by rw [own_eq]; exact hne), h2⟩
theorem Na.own_lt (h : Na w base A n c l) : ∀ k, ownA A = some k → base ≤ k ∧ k < w.heap.size := by
 obtain ⟨r, h1, h2⟩ := h
 intro k hk
 exact h1.lt k (by rw [own_eq]; exact hk)
theorem run_na {ty : TypeId} {g : Nat} {K M E a : Int} {s : Bool} (h : Na w base A n c l) (q : Fq K s M E a) (X : Bo w g #[.int .i64 K, .bool s, .int .u64 M, .int .i64 E] 24) (hn : n + 1 ≤ 1099511627776) (hb : base ≤ w.heap.size) :
   ∃ A2 c2 w', (Builtin.append_ #[54, 54] ty #[.slice A n c, .slice (some ⟨g, 0, none⟩) 1 1]).run Tryz.prog w = .ok (.slice A2 (n + 1) c2) w' ∧ Na w' base A2 (n + 1) c2 (l ++ [a]) ∧ w.grownBy w' (ownA A) ∧ (ownA A2 = ownA A ∨ ownA A2 = some w.heap.size) := by
 obtain ⟨i, hi, hz, hsi, hby⟩ := info_parts infoNum; obtain ⟨r, h1, h2, h3, h4⟩ := h
 obtain ⟨v', w', hr, ho, hg, _, hat⟩ := run_append_own_at (P := Tryz.prog) w base 54 ty 24 i _ 4 32 Tryz.underlying54 hi hz hsi hby rfl (by decide) _ n (nrow r) h1 ⟨g, 0, none⟩ 1 1 (nrow [(K, s, M, E)]) rfl (by
   intro j u hj
   have hc := X.cell
   rcases j with _ | _ | _ | _ | j
   · cases hj
     exact hc 0
   · cases hj
     exact hc 1
   · cases hj
     exact hc 2
   · cases hj
     exact hc 3
   · cases hj) (by
   intro u hu
   simp only [nrow, List.mem_cons, List.not_mem_nil, or_false] at hu
   rcases hu with rfl | rfl | rfl | rfl <;> rfl) (by unfold maxLen; omega) (by omega) hb
 rw [own_eq] at hg hat; rw [← nrow_append] at ho
 obtain ⟨A2, c2, rfl⟩ : ∃ A2 c2, v' = .slice A2 (n + 1) c2 := by
   rcases ho.2 with ⟨_, h0⟩ | ⟨g', cap', cur', hv, _⟩
   · omega
   · exact ⟨_, _, hv⟩
 rw [own_eq] at hat
 refine ⟨A2, c2, w', hr, ⟨_, ho, by rw [List.length_append, h2]; rfl, by rw [List.length_append, h3]; rfl, fun k hk => ?_⟩, hg, hat⟩
 by_cases hkn : k < n
 · obtain ⟨K1, s1, M1, E1, hq, qq⟩ := h4 k hkn; refine ⟨K1, s1, M1, E1, by rw [List.getElem?_append_left (by omega)]; exact hq, ?_⟩
   rw [List.getD_eq_getElem?_getD, List.getElem?_append_left (by omega), ← List.getD_eq_getElem?_getD]; exact qq
 · obtain rfl : k = n := by omega
   refine ⟨K, s, M, E, by rw [List.getElem?_append_right (by omega), h2]; simp, ?_⟩
   rw [List.getD_eq_getElem?_getD, List.getElem?_append_right (by omega), h3]
   simpa using q
theorem wpList_na {ops : Array Oper} {rest : List Oper} {o : Oper} {a : Act} {Q : Exit → Act → World → Prop} (hgd : o.guard = none) (s x : Operand)
   (ho : o.op = .call { callee := .builtin .append, args := #[s, x], argTypes := #[54, 54] }) {g : Nat} {K M E p : Int} {b : Bool}
   (hs : a.eval s = .slice A n c) (hx : a.eval x = .slice (some ⟨g, 0, none⟩) 1 1) (h : Na w base A n c l) (q : Fq K b M E p) (X : Bo w g #[.int .i64 K, .bool b, .int .u64 M, .int .i64 E] 24) (hn : n + 1 ≤ 1099511627776) (hb : base ≤ w.heap.size)
   (hK : ∀ A2 c2 w', Na w' base A2 (n + 1) c2 (l ++ [p]) → w.grownBy w' (ownA A) → (ownA A2 = ownA A ∨ ownA A2 = some w.heap.size) → wpList Tryz.prog ops Q rest (a.put o.dst (.slice A2 (n + 1) c2)) w') : wpList Tryz.prog ops Q (o :: rest) a w := by
 refine wpList_plain hgd fun K hK2 => ?_
 obtain ⟨A2, c2, w', hr, h1, h2, h3⟩ := run_na (ty := o.type) h q X hn hb
 unfold Oper.wp execOp
 simp only [ho, resolve, invoke, builtin, Sem.run_bind, Sem.run_pure, Result.andThen_ok, List.map_toArray, List.map_cons, List.map_nil, hs, hx, hr]; exact hK2 _ _ (hK A2 c2 w' h1 h2 h3)
end
end Go.Proofs.YtnbliijpjcmbjaaGreatDoor

/-
 Contracts that the proof rests on.
-/
import Derived.Test.YtmmallhniijdfaaDoorYAay
namespace Go.Proofs.YtmmallhniijdfaaDoor
open Go.RowKit
set_option linter.unusedVariables false
theorem StN.trans {w w' w'' : World} {g : Nat} {a b c : Array Value} {T : TypeId} (h : StN w w' g a b T) (k : StN w' w'' g b c T) : StN w w'' g a c T :=
 ⟨h.1, k.2.1, fun j hj => (k.2.2.1 j hj).trans (h.2.2.1 j hj), fun B x hB hb => k.2.2.2 B x hB (h.2.2.2 B x hB hb)⟩
theorem StN.mk9 {w : World} {g : Nat} {T : TypeId} {a0 a1 a2 a3 a4 a5 a6 a7 a8 : Value} (X : Bo w g #[a0, a1, a2, a3, a4, a5, a6, a7, a8] T) (v0 v1 v2 v3 v4 v5 v6 v7 v8 : Value) :
   StN w (((((((((w.setCell ⟨g, 0, none⟩ v0).setCell ⟨g, 1, none⟩ v1).setCell ⟨g, 2, none⟩ v2).setCell ⟨g, 3, none⟩ v3).setCell ⟨g, 4, none⟩ v4).setCell ⟨g, 5, none⟩ v5).setCell ⟨g, 6, none⟩ v6).setCell ⟨g, 7, none⟩ v7).setCell ⟨g, 8, none⟩ v8) g #[a0, a1, a2, a3, a4, a5, a6, a7, a8] #[v0, v1, v2, v3, v4, v5, v6, v7, v8] T := by
 have t0 : StN w (w.setCell ⟨g, 0, none⟩ v0) g #[a0, a1, a2, a3, a4, a5, a6, a7, a8] #[v0, a1, a2, a3, a4, a5, a6, a7, a8] T := StN.at4 X 0 v0
 have s0 := t0
 have t1 : StN (w.setCell ⟨g, 0, none⟩ v0) ((w.setCell ⟨g, 0, none⟩ v0).setCell ⟨g, 1, none⟩ v1) g #[v0, a1, a2, a3, a4, a5, a6, a7, a8] #[v0, v1, a2, a3, a4, a5, a6, a7, a8] T := StN.at4 s0.box 1 v1
 have s1 := s0.trans t1
 have t2 : StN ((w.setCell ⟨g, 0, none⟩ v0).setCell ⟨g, 1, none⟩ v1) (((w.setCell ⟨g, 0, none⟩ v0).setCell ⟨g, 1, none⟩ v1).setCell ⟨g, 2, none⟩ v2) g #[v0, v1, a2, a3, a4, a5, a6, a7, a8] #[v0, v1, v2, a3, a4, a5, a6, a7, a8] T := StN.at4 s1.box 2 v2
 have s2 := s1.trans t2
 have t3 : StN (((w.setCell ⟨g, 0, none⟩ v0).setCell ⟨g, 1, none⟩ v1).setCell ⟨g, 2, none⟩ v2) ((((w.setCell ⟨g, 0, none⟩ v0).setCell ⟨g, 1, none⟩ v1).setCell ⟨g, 2, none⟩ v2).setCell ⟨g, 3, none⟩ v3) g #[v0, v1, v2, a3, a4, a5, a6, a7, a8] #[v0, v1, v2, v3, a4, a5, a6, a7, a8] T := StN.at4 s2.box 3 v3
 have s3 := s2.trans t3
 have t4 : StN ((((w.setCell ⟨g, 0, none⟩ v0).setCell ⟨g, 1, none⟩ v1).setCell ⟨g, 2, none⟩ v2).setCell ⟨g, 3, none⟩ v3) (((((w.setCell ⟨g, 0, none⟩ v0).setCell ⟨g, 1, none⟩ v1).setCell ⟨g, 2, none⟩ v2).setCell ⟨g, 3, none⟩ v3).setCell ⟨g, 4, none⟩ v4) g #[v0, v1, v2, v3, a4, a5, a6, a7, a8] #[v0, v1, v2, v3, v4, a5, a6, a7, a8] T := StN.at4 s3.box 4 v4
 have s4 := s3.trans t4
 have t5 : StN (((((w.setCell ⟨g, 0, none⟩ v0).setCell ⟨g, 1, none⟩ v1).setCell ⟨g, 2, none⟩ v2).setCell ⟨g, 3, none⟩ v3).setCell ⟨g, 4, none⟩ v4) ((((((w.setCell ⟨g, 0, none⟩ v0).setCell ⟨g, 1, none⟩ v1).setCell ⟨g, 2, none⟩ v2).setCell ⟨g, 3, none⟩ v3).setCell ⟨g, 4, none⟩ v4).setCell ⟨g, 5, none⟩ v5) g #[v0, v1, v2, v3, v4, a5, a6, a7, a8] #[v0, v1, v2, v3, v4, v5, a6, a7, a8] T := StN.at4 s4.box 5 v5
 have s5 := s4.trans t5
 have t6 : StN ((((((w.setCell ⟨g, 0, none⟩ v0).setCell ⟨g, 1, none⟩ v1).setCell ⟨g, 2, none⟩ v2).setCell ⟨g, 3, none⟩ v3).setCell ⟨g, 4, none⟩ v4).setCell ⟨g, 5, none⟩ v5) (((((((w.setCell ⟨g, 0, none⟩ v0).setCell ⟨g, 1, none⟩ v1).setCell ⟨g, 2, none⟩ v2).setCell ⟨g, 3, none⟩ v3).setCell ⟨g, 4, none⟩ v4).setCell ⟨g, 5, none⟩ v5).setCell ⟨g, 6, none⟩ v6) g #[v0, v1, v2, v3, v4, v5, a6, a7, a8] #[v0, v1, v2, v3, v4, v5, v6, a7, a8] T := StN.at4 s5.box 6 v6
 have s6 := s5.trans t6
 have t7 : StN (((((((w.setCell ⟨g, 0, none⟩ v0).setCell ⟨g, 1, none⟩ v1).setCell ⟨g, 2, none⟩ v2).setCell ⟨g, 3, none⟩ v3).setCell ⟨g, 4, none⟩ v4).setCell ⟨g, 5, none⟩ v5).setCell ⟨g, 6, none⟩ v6) ((((((((w.setCell ⟨g, 0, none⟩ v0).setCell ⟨g, 1, none⟩ v1).setCell ⟨g, 2, none⟩ v2).setCell ⟨g, 3, none⟩ v3).setCell ⟨g, 4, none⟩ v4).setCell ⟨g, 5, none⟩ v5).setCell ⟨g, 6, none⟩ v6).setCell ⟨g, 7, none⟩ v7) g #[v0, v1, v2, v3, v4, v5, v6, a7, a8] #[v0, v1, v2, v3, v4, v5, v6, v7, a8] T := StN.at4 s6.box 7 v7
 have s7 := s6.trans t7
 have t8 : StN ((((((((w.setCell ⟨g, 0, none⟩ v0).setCell ⟨g, 1, none⟩ v1).setCell ⟨g, 2, none⟩ v2).setCell ⟨g, 3, none⟩ v3).setCell ⟨g, 4, none⟩ v4).setCell ⟨g, 5, none⟩ v5).setCell ⟨g, 6, none⟩ v6).setCell ⟨g, 7, none⟩ v7) (((((((((w.setCell ⟨g, 0, none⟩ v0).setCell ⟨g, 1, none⟩ v1).setCell ⟨g, 2, none⟩ v2).setCell ⟨g, 3, none⟩ v3).setCell ⟨g, 4, none⟩ v4).setCell ⟨g, 5, none⟩ v5).setCell ⟨g, 6, none⟩ v6).setCell ⟨g, 7, none⟩ v7).setCell ⟨g, 8, none⟩ v8) g #[v0, v1, v2, v3, v4, v5, v6, v7, a8] #[v0, v1, v2, v3, v4, v5, v6, v7, v8] T := StN.at4 s7.box 8 v8
 have s8 := s7.trans t8; exact s8
def Ci (e : Bool) (K : Int) (s : Bool) (M E K' : Int) (s' : Bool) (M' E' : Int) : Sp → Prop
 | none => e = true ∧ Fq K s M E 0 ∧ Fq K' s' M' E' 0
 | some (a, b) => e = false ∧ Fq K s M E a ∧ Fq K' s' M' E' b ∧ a ≤ b ∧ a < 19342822337206103650074625 ∧ -19342822337206103650074625 < b
section
variable {e e2 : Bool} {K M E K' M' E' K2 M2 E2 K2' M2' E2' : Int} {s s' s2 s2' : Bool} {x y : Sp}
theorem Ci.top (h : Ci e K s M E K' s' M' E' x) : M < 18446744073709551616 ∧ M' < 18446744073709551616 := by
 rcases x with _ | ⟨a, b⟩
 · exact ⟨h.2.1.top, h.2.2.top⟩
 · exact ⟨h.2.1.top, h.2.2.1.top⟩
theorem Ci.uniq (h : Ci e K s M E K' s' M' E' x) (k : Ci e2 K2 s2 M2 E2 K2' s2' M2' E2' x) : e = e2 ∧ K = K2 ∧ s = s2 ∧ M = M2 ∧ E = E2 ∧ K' = K2' ∧ s' = s2' ∧ M' = M2' ∧ E' = E2' := by
 rcases x with _ | ⟨a, b⟩
 · obtain ⟨h1, q1, q2⟩ := h; obtain ⟨k1, p1, p2⟩ := k; obtain ⟨c1, c2, c3, c4⟩ := q1.uniq p1; obtain ⟨d1, d2, d3, d4⟩ := q2.uniq p2; exact ⟨h1.trans k1.symm, c1, c2, c3, c4, d1, d2, d3, d4⟩
 · obtain ⟨h1, q1, q2, _⟩ := h; obtain ⟨k1, p1, p2, _⟩ := k; obtain ⟨c1, c2, c3, c4⟩ := q1.uniq p1; obtain ⟨d1, d2, d3, d4⟩ := q2.uniq p2; exact ⟨h1.trans k1.symm, c1, c2, c3, c4, d1, d2, d3, d4⟩
end
theorem Ci.none : Ci true 0 false 0 0 0 false 0 0 none := ⟨rfl, Fq.nought, Fq.nought⟩
def rkI (e : Bool) (K : Int) (s : Bool) (M E K' : Int) (s' : Bool) (M' E' : Int) : Sp := if e = true then none else if MayQ K s M E ∧ MayQ K' s' M' E' then mkI (rk K s M E) (rk K' s' M' E') else none
def mayI (e : Bool) (K : Int) (s : Bool) (M E K' : Int) (s' : Bool) (M' E' : Int) : Bool := if e = true then (decide (K = 0 ∧ s = false ∧ M = 0 ∧ E = 0) && decide (K' = 0 ∧ s' = false ∧ M' = 0 ∧ E' = 0)) else decide (rkI e K s M E K' s' M' E' ≠ none)
section
variable {e : Bool} {K M E K' M' E' : Int} {s s' : Bool} {x : Sp}
theorem rkI_t : rkI true K s M E K' s' M' E' = none := if_pos rfl
theorem rkI_f : rkI false K s M E K' s' M' E' = if MayQ K s M E ∧ MayQ K' s' M' E' then mkI (rk K s M E) (rk K' s' M' E') else none := if_neg ff
theorem mayI_ci (hM : LQ M) (hM' : LQ M') (h : mayI e K s M E K' s' M' E' = true) : Ci e K s M E K' s' M' E' (rkI e K s M E K' s' M' E') := by
 unfold mayI at h
 cases e
 · rw [if_neg ff, decide_eq_true_iff] at h; rw [rkI_f] at h ⊢
   by_cases hq : MayQ K s M E ∧ MayQ K' s' M' E'
   · rw [if_pos hq] at h ⊢
     by_cases hc : rk K s M E ≤ rk K' s' M' E' ∧ rk K s M E < 19342822337206103650074625 ∧ -19342822337206103650074625 < rk K' s' M' E'
     · rw [mkI_some hc.1 hc.2.1 hc.2.2]; exact ⟨rfl, rk_fq hM hq.1, rk_fq hM' hq.2, hc⟩
     · exact absurd (mkI_none hc) h
   · rw [if_neg hq] at h; exact absurd rfl h
 · rw [if_pos rfl, Bool.and_eq_true, decide_eq_true_iff, decide_eq_true_iff] at h; obtain ⟨⟨rfl, rfl, rfl, rfl⟩, rfl, rfl, rfl, rfl⟩ := h; exact Ci.none
theorem mayI_no (h : mayI e K s M E K' s' M' E' = false) : rkI e K s M E K' s' M' E' = none := by
 cases e
 · unfold mayI at h
   rw [if_neg ff, decide_eq_false_iff_not] at h; exact Decidable.not_not.1 h
 · exact rkI_t
theorem Ci.rk (h : Ci e K s M E K' s' M' E' x) : rkI e K s M E K' s' M' E' = x := by
 rcases x with _ | ⟨a, b⟩
 · obtain ⟨rfl, _⟩ := h; exact rkI_t
 · obtain ⟨rfl, q1, q2, h1, h2, h3⟩ := h; rw [rkI_f, if_pos ⟨q1.1, q2.1⟩, q1.rk, q2.rk, mkI_some h1 h2 h3]
theorem Ci.may (h : Ci e K s M E K' s' M' E' x) : mayI e K s M E K' s' M' E' = true := by
 have hr := h.rk
 unfold mayI
 rcases x with _ | ⟨a, b⟩
 · obtain ⟨rfl, q1, q2⟩ := h; obtain ⟨rfl, rfl, rfl, rfl⟩ := q1.uniq Fq.nought; obtain ⟨rfl, rfl, rfl, rfl⟩ := q2.uniq Fq.nought
   rfl
 · obtain ⟨rfl, _⟩ := h; rw [if_neg ff, hr]
   rfl
end
def PV (w : World) (x : Sp) (e : Ending) (w' : World) : Prop := ∃ e0 K s M E K' s' M' E', e = .returned (.agg #[.bool e0, .int .i64 K, .bool s, .int .u64 M, .int .i64 E, .int .i64 K', .bool s', .int .u64 M', .int .i64 E']) ∧ Ci e0 K s M E K' s' M' E' x ∧ Below w.heap.size w w'
def Jo.Fact.iv (x : Sp) : Jo.Fact := ⟨fun v w => ∃ e0 K s M E K' s' M' E', v = .agg #[.bool e0, .int .i64 K, .bool s, .int .u64 M, .int .i64 E, .int .i64 K', .bool s', .int .u64 M', .int .i64 E'] ∧ Ci e0 K s M E K' s' M' E' x, fun v w w' h b => h⟩
def Il8 (w : World) (A : Option Addr) (n c : Nat) (l : List Sp) : Prop :=
 l.length = n ∧ n ≤ c ∧ n ≤ 1099511627776 ∧ (0 < n → ∃ b o, A = some ⟨b, o, none⟩ ∧ ∀ k, k < n → ∃ e K s M E K' s' M' E', w.cell? ⟨b, o + k * 9, none⟩ = some (.bool e) ∧ w.cell? ⟨b, o + k * 9 + 1, none⟩ = some (.int .i64 K) ∧ w.cell? ⟨b, o + k * 9 + 2, none⟩ = some (.bool s) ∧ w.cell? ⟨b, o + k * 9 + 3, none⟩ = some (.int .u64 M) ∧ w.cell? ⟨b, o + k * 9 + 4, none⟩ = some (.int .i64 E) ∧ w.cell? ⟨b, o + k * 9 + 5, none⟩ = some (.int .i64 K') ∧ w.cell? ⟨b, o + k * 9 + 6, none⟩ = some (.bool s') ∧ w.cell? ⟨b, o + k * 9 + 7, none⟩ = some (.int .u64 M') ∧ w.cell? ⟨b, o + k * 9 + 8, none⟩ = some (.int .i64 E') ∧ M < 18446744073709551616 ∧ M' < 18446744073709551616 ∧ rkI e K s M E K' s' M' E' = l.getD k none)
theorem Il8.below {w w' : World} {A : Option Addr} {n c : Nat} {l : List Sp} (h : Il8 w A n c l) (hb : Below w.heap.size w w') : Il8 w' A n c l := by
 obtain ⟨h1, h2, h3, h4⟩ := h
 refine ⟨h1, h2, h3, fun hn => ?_⟩
 obtain ⟨b, o, e, hc⟩ := h4 hn
 refine ⟨b, o, e, fun k hk => ?_⟩
 obtain ⟨e, K, s, M, E, K', s', M', E', c0, c1, c2, c3, c4, c5, c6, c7, c8, hM, hM', hr⟩ := hc k hk
 have t : ∀ {i : Nat} {v : Value}, w.cell? ⟨b, i, none⟩ = some v → w'.cell? ⟨b, i, none⟩ = some v := fun c => (hb.cell (p := ⟨b, _, none⟩) (block_lt_of_cell c)).trans c
 exact ⟨e, K, s, M, E, K', s', M', E', t c0, t c1, t c2, t c3, t c4, t c5, t c6, t c7, t c8, hM, hM', hr⟩
theorem StN.of9 {w w1 : World} {g : Nat} {T : TypeId} {a0 a1 a2 a3 a4 a5 a6 a7 a8 v0 v1 v2 v3 v4 v5 v6 v7 v8 : Value} (X : Bo w g #[a0, a1, a2, a3, a4, a5, a6, a7, a8] T) (h : ((((((((w.setCell ⟨g, 0, none⟩ v0).setCell ⟨g, 1, none⟩ v1).setCell ⟨g, 2, none⟩ v2).setCell ⟨g, 3, none⟩ v3).setCell ⟨g, 4, none⟩ v4).setCell ⟨g, 5, none⟩ v5).setCell ⟨g, 6, none⟩ v6).setCell ⟨g, 7, none⟩ v7).setCell ⟨g, 8, none⟩ v8 = w1) : StN w w1 g #[a0, a1, a2, a3, a4, a5, a6, a7, a8] #[v0, v1, v2, v3, v4, v5, v6, v7, v8] T := h ▸ StN.mk9 X v0 v1 v2 v3 v4 v5 v6 v7 v8
set_option linter.unusedSimpArgs false
set_option maxRecDepth 100000
theorem fq_inf2 (s : Bool) : Fq 2 s 0 0 (sgi s TP) := ⟨.inr (.inr ⟨rfl, rfl, rfl⟩), by decide, by
 cases s <;> rfl⟩
def In (x : Int) : Prop := -19342822337206103650074625 ≤ x ∧ x ≤ 19342822337206103650074625
theorem mkI_in {a b : Int} (ha : In a) (hb : In b) : SpOk (mkI a b) := mkI_ok ha.1 hb.2
theorem SpOk.in1 {a b : Int} (h : SpOk (some (a, b))) : In a ∧ In b := by
 obtain ⟨h1, h2, h3, h4, h5⟩ := h; exact ⟨⟨by omega, by omega⟩, ⟨by omega, by omega⟩⟩
def negI (x : Sp) : Sp := match x with
 | none => none
 | some (a, b) => mkI (-b) (-a)
def addI (x y : Sp) : Sp := match x, y with
 | some (a, b), some (c, d) => mkI (addp false a c) (addp true b d)
 | _, _ => none
def cor (f : Bool → Int → Int → Int) (a b c d : Int) : Sp := mkI (min (min (f false a c) (f false a d)) (min (f false b c) (f false b d))) (max (max (f true a c) (f true a d)) (max (f true b c) (f true b d)))
def mulI (x y : Sp) : Sp := match x, y with
 | some (a, b), some (c, d) => cor mulp a b c d
 | _, _ => none
theorem negI_some {a b : Int} (h : SpOk (some (a, b))) : negI (some (a, b)) = some (-b, -a) := by
 obtain ⟨h1, h2, h3, h4, h5⟩ := h; exact mkI_some (by omega) (by omega) (by omega)
theorem negI_ok {x : Sp} (h : SpOk x) : SpOk (negI x) := by
 rcases x with _ | ⟨a, b⟩
 · exact trivial
 · obtain ⟨⟨h1, h2⟩, h3, h4⟩ := h.in1; exact mkI_in ⟨by omega, by omega⟩ ⟨by omega, by omega⟩
theorem neg_neg {x : Sp} (h : SpOk x) : negI (negI x) = x := by
 rcases x with _ | ⟨a, b⟩
 · rfl
 · have k := negI_ok h; rw [negI_some h] at k ⊢; rw [negI_some k, Int.neg_neg, Int.neg_neg]
theorem add_comm (x y : Sp) : addI x y = addI y x := by
 rcases x with _ | ⟨a, b⟩ <;> rcases y with _ | ⟨c, d⟩ <;> first | rfl | skip
 show mkI _ _ = mkI _ _
 rw [addp_comm (x := a), addp_comm (x := b)]
def Mono (f : Int → Int) (a b : Int) : Prop := (∀ x y, a ≤ x → x ≤ y → y ≤ b → f x ≤ f y) ∨ (∀ x y, a ≤ x → x ≤ y → y ≤ b → f y ≤ f x)
theorem Mono.lo {f : Int → Int} {a b x : Int} (h : Mono f a b) (h1 : a ≤ x) (h2 : x ≤ b) : min (f a) (f b) ≤ f x := by
 rcases h with h | h
 · have := h a x (Int.le_refl _) h1 h2
   omega
 · have := h x b h1 h2 (Int.le_refl _)
   omega
theorem mul_comm (x y : Sp) : mulI x y = mulI y x := by
 rcases x with _ | ⟨a, b⟩ <;> rcases y with _ | ⟨c, d⟩ <;> first | rfl | skip
 show cor mulp a b c d = cor mulp c d a b
 unfold cor
 simp only [mulp_comm (x := c), mulp_comm (x := d)]
 congr 1 <;> omega
def QF (q : Bool → Int → Int → Int) : Prop := ∀ up x y, Qt up x y (q up x y)
theorem QF.in {q : Bool → Int → Int → Int} (hq : QF q) (up : Bool) (x y : Int) : In (q up x y) := (hq up x y).bd
section
variable {q : Bool → Int → Int → Int}
end
def Ro (up : Bool) (x r : Int) (t : Bool) : Prop := if x < 0 then r = 0 ∧ t = false else if x = 0 ∨ infp x = true then r = x ∧ t = true else Rt up (vr x * 2 ^ KK) r ∧ t = true
theorem ro_neg {up : Bool} {x r : Int} {t : Bool} (h : x < 0) : Ro up x r t ↔ (r = 0 ∧ t = false) := by
 unfold Ro
 rw [if_pos h]
theorem ro_it {up : Bool} {x r : Int} {t : Bool} (h : ¬ x < 0) (h2 : x = 0 ∨ infp x = true) : Ro up x r t ↔ (r = x ∧ t = true) := by
 unfold Ro
 rw [if_neg h, if_pos h2]
theorem ro_fin {up : Bool} {x r : Int} {t : Bool} (h : ¬ x < 0) (h2 : ¬ (x = 0 ∨ infp x = true)) : Ro up x r t ↔ (Rt up (vr x * 2 ^ KK) r ∧ t = true) := by
 unfold Ro
 rw [if_neg h, if_neg h2]
theorem Ro.uniq {up : Bool} {x r r' : Int} {t t' : Bool} (h : Ro up x r t) (k : Ro up x r' t') : r = r' ∧ t = t' := by
 by_cases c : x < 0
 · obtain ⟨a, b⟩ := (ro_neg c).1 h; obtain ⟨d, e⟩ := (ro_neg c).1 k; exact ⟨a.trans d.symm, b.trans e.symm⟩
 · by_cases c2 : x = 0 ∨ infp x = true
   · obtain ⟨a, b⟩ := (ro_it c c2).1 h; obtain ⟨d, e⟩ := (ro_it c c2).1 k; exact ⟨a.trans d.symm, b.trans e.symm⟩
   · obtain ⟨a, b⟩ := (ro_fin c c2).1 h; obtain ⟨d, e⟩ := (ro_fin c c2).1 k; exact ⟨a.uniq d, b.trans e.symm⟩
def RF (r : Bool → Int → Int) : Prop := ∀ up x, 0 ≤ x → Ro up x (r up x) true
theorem Rt.mono9 {up : Bool} {X Y r t : Int} (h : Rt up X r) (k : Rt up Y t) (hXY : X ≤ Y) : r ≤ t := by
 rcases Int.lt_or_le t r with c | c
 · exfalso
   cases up
   · obtain ⟨h1, h2, h3, h4⟩ := rt_f.1 h; obtain ⟨k1, k2, k3, k4⟩ := rt_f.1 k; have a := k4 (by omega); have b := vr_sq (r := t + 1) (t := r) (by omega) (by omega)
     omega
   · obtain ⟨h1, h2, h3, h4⟩ := rt_t.1 h; obtain ⟨k1, k2, k3, k4⟩ := rt_t.1 k; have a := k3 (by omega); have b := vr_sq (r := t) (t := r - 1) (by omega) (by omega)
     omega
 · exact c
theorem infp_top : infp 19342822337206103650074625 = true := by decide
section
variable {r : Bool → Int → Int}
theorem RF.zero (hr : RF r) (up : Bool) : r up 0 = 0 := ((ro_it (by decide) (.inl rfl)).1 (hr up 0 (by decide))).1
theorem RF.top (hr : RF r) (up : Bool) : r up 19342822337206103650074625 = 19342822337206103650074625 := ((ro_it (by decide) (.inr infp_top)).1 (hr up _ (by decide))).1
theorem RF.fin (hr : RF r) (up : Bool) {x : Int} (h0 : 0 < x) (h1 : x < 19342822337206103650074625) : Rt up (vr x * 2 ^ KK) (r up x) :=
 ((ro_fin (by omega) (by rw [infp_fin (by omega) h1]; simp; omega)).1 (hr up x (by omega))).1
theorem RF.in (hr : RF r) (up : Bool) {x : Int} (h0 : 0 ≤ x) (h1 : x ≤ 19342822337206103650074625) : 0 ≤ r up x ∧ r up x ≤ 19342822337206103650074625 := by
 by_cases c : x = 0
 · subst c; rw [hr.zero]
   decide
 · by_cases d : x = 19342822337206103650074625
   · subst d; rw [hr.top]
     decide
   · have := hr.fin up (x := x) (by omega) (by omega)
     cases up
     · have := rt_f.1 this
       omega
     · have := rt_t.1 this
       omega
theorem RF.mono (hr : RF r) (up : Bool) {x y : Int} (h0 : 0 ≤ x) (h : x ≤ y) (h1 : y ≤ 19342822337206103650074625) : r up x ≤ r up y := by
 have X := hr.in up h0 (by omega)
 have Y := hr.in up (show 0 ≤ y by omega) h1
 by_cases c : x = 0
 · subst c; rw [hr.zero]
   omega
 · by_cases d : y = 19342822337206103650074625
   · subst d; rw [hr.top]
     omega
   · exact (hr.fin up (by omega) (by omega)).mono9 (hr.fin up (by omega) (by omega)) (Int.mul_le_mul_of_nonneg_right (vr_le h) (Int.le_of_lt (p2pos KK)))
end
section
variable {r : Bool → Int → Int}
end
theorem In.fin {x : Int} (h1 : -19342822337206103650074625 < x) (h2 : x < 19342822337206103650074625) : In x := ⟨by omega, by omega⟩
def Zi (a b : Int) : Sp := some (opl a, opl b)
theorem opl_le {a b : Int} (h1 : -9223372036854775808 ≤ a) (h : a ≤ b) (h2 : b ≤ 9223372036854775807) : opl a ≤ opl b := by
 have c := opl_cmp (a := a) (b := b) h1 (by omega) (by omega) h2
 rcases cmpI_tri (opl a) (opl b) with ⟨p, e⟩ | ⟨p, e⟩ | ⟨p, e⟩
 · omega
 · omega
 · rw [e] at c
   rcases cmpI_tri a b with ⟨s, f⟩ | ⟨s, f⟩ | ⟨s, f⟩ <;> omega
theorem opl_fin {a : Int} (h1 : -9223372036854775807 ≤ a) (h2 : a ≤ 9223372036854775807) : -19342822337206103650074625 < opl a ∧ opl a < 19342822337206103650074625 := by
 rcases Int.lt_or_le 0 a with c | c
 · have := opl_pos c h2
   omega
 · by_cases d : a = 0
   · subst d
     decide
   · have := opl_pos (n := -a) (by omega) (by omega)
     rw [opl_neg] at this
     omega
theorem Zi.mk {a b : Int} (h1 : -9223372036854775807 ≤ a) (h : a ≤ b) (h2 : b ≤ 9223372036854775807) : mkI (opl a) (opl b) = Zi a b ∧ SpOk (Zi a b) := by
 have A := opl_fin h1 (show a ≤ 9223372036854775807 by omega)
 have B := opl_fin (show -9223372036854775807 ≤ b by omega) h2
 have C := opl_le (by omega) h h2; exact ⟨mkI_some C A.2 B.1, ⟨by omega, C, by omega, A.2, B.1⟩⟩
theorem opl_add {a b : Int} (up : Bool) (h1 : -1000000000000000000 ≤ a) (h2 : a ≤ 1000000000000000000) (h3 : -1000000000000000000 ≤ b) (h4 : b ≤ 1000000000000000000) : addp up (opl a) (opl b) = opl (a + b) := by
 obtain ⟨a1, a2⟩ := opl_fin (a := a) (by omega) (by omega); obtain ⟨b1, b2⟩ := opl_fin (a := b) (by omega) (by omega); obtain ⟨c1, c2⟩ := opl_fin (a := a + b) (by omega) (by omega); rw [addp_ff up (infp_fin a1 a2) (infp_fin b1 b2)]; obtain ⟨nf, v⟩ := sum_spec a1 a2 b1 b2; refine rnd_exact nf up c1 c2 ?_; rw [v, opl_vr (by omega) (by omega), opl_vr (by omega) (by omega), opl_vr (by omega) (by omega), Int.add_mul]
theorem Zi.add {a b c d : Int} (h1 : -100000000000000000 ≤ a) (h : a ≤ b) (h2 : b ≤ 100000000000000000) (k1 : -100000000000000000 ≤ c) (k : c ≤ d) (k2 : d ≤ 100000000000000000) : addI (Zi a b) (Zi c d) = Zi (a + c) (b + d) := by
 show mkI _ _ = _
 rw [opl_add false (by omega) (by omega) (by omega) (by omega), opl_add true (by omega) (by omega) (by omega) (by omega)]; exact (Zi.mk (by omega) (by omega) (by omega)).1
end Go.Proofs.YtmmallhniijdfaaDoor
namespace Go.Proofs.YtmmallhniijdfaaDoor
open Go Go.RowKit
set_option linter.unusedVariables false
def fixB (x : Int) : Bool := decide (-opl 1073741824 < x ∧ x < opl 1073741824)
def fixI (x : Int) : Int := if fixB x = true then vr x * SC / 2 ^ KK else 0
theorem flr_uniq {a b q : Int} (hb : 0 < b) (h1 : q * b ≤ a) (h2 : a < (q + 1) * b) : a / b = q :=
 Int.le_antisymm (Int.lt_add_one_iff.1 (Int.ediv_lt_of_lt_mul hb h2)) (Int.le_ediv_of_mul_le hb h1)
theorem sc_pow : SC = 2 ^ 192 := by decide
theorem flr_moved {N F : Int} (nf : mk N F = (N, F)) (hN : N.natAbs < 2 ^ 128) (h1 : -2900000 ≤ F) (h2 : F ≤ 2900000) :
   flr (mv N F 192).1 (mv N F 192).2 = N * 2 ^ (F + KK).toNat * SC / 2 ^ KK := by
 have e : mv N F 192 = mk N (F + 192) := by
   unfold mv
   rw [if_neg (by omega), nf]
 rw [e]; obtain ⟨a, b⟩ := flr_vl (mk_nf N (F + 192)); have v := mk_vl hN (e := F + 192) (by omega) (by omega)
 rw [v, show (F + 192 + (KK : Int)).toNat = (F + KK).toNat + 192 by rw [KK_eq]; omega, Int.pow_add, ← Int.mul_assoc, ← sc_pow] at a b
 exact (flr_uniq (p2pos KK) a b).symm
theorem fixI_yes {x : Int} (h : fixB x = true) : fixI x = vr x * SC / 2 ^ KK := if_pos h
theorem fixI_no {x : Int} (h : fixB x = false) : fixI x = 0 := if_neg (by rw [h]; decide)
theorem t30 : opl 1073741824 < 19342822337206103650074625 ∧ 0 < opl 1073741824 := by
 have a := opl_fin (a := 1073741824) (by decide) (by decide); have b := opl_vr (n := 1073741824) (by decide) (by decide); refine ⟨a.2, ?_⟩
 rcases Int.lt_or_le 0 (opl 1073741824) with h | h
 · exact h
 · exfalso
   have c := vr_le h
   rw [b, show vr 0 = 0 from rfl] at c
   have := p2pos KK
   omega
theorem fixB_fin {x : Int} (h : fixB x = true) : -19342822337206103650074625 < x ∧ x < 19342822337206103650074625 := by
 have a := of_decide_eq_true h; have b := t30
 omega
theorem fix_holds {x : Int} (h : fixB x = true) : fixI x * 2 ^ KK ≤ vr x * SC ∧ vr x * SC < (fixI x + 1) * 2 ^ KK := by
 rw [fixI_yes h]; have hp := p2pos KK; exact ⟨Int.ediv_mul_le _ (by omega), Int.lt_ediv_add_one_mul_self _ hp⟩
theorem fix_part {x r t : Int} (h : fixB x = true) (hr : Rq false (fixI x) SC r) (ht : Rq true (fixI x + 1) SC t) : hasI (mkI r t) x = true := by
 obtain ⟨f1, f2⟩ := fixB_fin h; obtain ⟨a, b⟩ := fix_holds h
 rw [rq_some (by decide), sid_f, show sgi (decide (SC < 0)) SC = SC from rfl, show sgi (decide (SC < 0)) (fixI x) = fixI x from rfl] at hr
 rw [rq_some (by decide), sid_t, show sgi (decide (SC < 0)) SC = SC from rfl, show sgi (decide (SC < 0)) (fixI x + 1) = fixI x + 1 from rfl] at ht
 have r1 : r ≤ x := by
   rcases Int.lt_or_le x r with c | c
   · exfalso
     have d := hr.2.2.1 (by omega); have e := vr_lt c
     have g := Int.mul_lt_mul_of_pos_right e (show (0 : Int) < SC by decide)
     omega
   · exact c
 have t1 : x ≤ t := by
   rcases Int.lt_or_le t x with c | c
   · exfalso
     obtain ⟨b1, b2, k1, k2⟩ := ht; have d := k1 (by omega); rw [vr_neg, Int.neg_mul] at d; have e := vr_lt c
     have g := Int.mul_lt_mul_of_pos_right e (show (0 : Int) < SC by decide)
     omega
   · exact c
 rw [mkI_some (by omega) (by omega) (by omega)]; exact has_in f1 f2 r1 t1
theorem fix_exq {s : Bool} {M E x : Int} (q : Fq 1 s M E x) : ∃ N F, exb 1 s M E = true ∧ (exq 1 s M E).1 = N ∧ (exq 1 s M E).2 = F ∧ mk N F = (N, F) ∧ vr x = N * 2 ^ (F + KK).toNat ∧ N.natAbs < 2 ^ 64 ∧ -2900000 ≤ F ∧ F ≤ 2900000 ∧ (N < 0 ↔ s = true) := by
 obtain ⟨h1, h2, h3, h4, fx⟩ : 9223372036854775808 ≤ M ∧ M < 18446744073709551616 ∧ -1048576 ≤ E ∧ E ≤ 1048576 ∧ (-19342822337206103650074625 < x ∧ x < 19342822337206103650074625) := by
   rcases q.cases with ⟨c, _⟩ | ⟨_, h1, h2, h3, h4, ⟨_, h5⟩ | ⟨_, h5⟩⟩ | ⟨c, _⟩
   · omega
   · exact ⟨h1, h2, h3, h4, by omega, by omega⟩
   · exact ⟨h1, h2, h3, h4, by omega, by omega⟩
   · omega
 obtain ⟨hb, hv⟩ := exq_vl q fx.1 fx.2
 have he : exq 1 s M E = mk (sgi s M) E := if_pos hb
 have hz : sgi s M ≠ 0 ∧ (sgi s M).natAbs = M.natAbs ∧ (sgi s M < 0 ↔ s = true) := by
   cases s
   · rw [show sgi false M = M from if_neg (by decide)]
     exact ⟨by omega, rfl, by constructor <;> intro h <;> first | omega | cases h⟩
   · rw [show sgi true M = -M from if_pos rfl]
     exact ⟨by omega, by omega, by constructor <;> intro h <;> first | omega | rfl⟩
 obtain ⟨z0, z1, z2⟩ := hz; rw [he] at hv; rw [he]; generalize sgi s M = z at *; obtain ⟨e1, _⟩ := v2_spec z.natAbs (by omega)
 have hm : z.natAbs < 2 ^ 64 := by omega
 have v64 : v2 z.natAbs < 64 := by
   rcases Nat.lt_or_ge (v2 z.natAbs) 64 with c | c
   · exact c
   · exfalso
     have a : 2 ^ 64 ≤ 2 ^ v2 z.natAbs := Nat.pow_le_pow_right (by decide) c
     have b : 0 < z.natAbs / 2 ^ v2 z.natAbs := by
       rcases Nat.eq_zero_or_pos (z.natAbs / 2 ^ v2 z.natAbs) with d | d
       · rw [d, Nat.zero_mul] at e1
         omega
       · exact d
     have d := Nat.mul_le_mul b (Nat.le_refl (2 ^ v2 z.natAbs))
     omega
 obtain ⟨k1, k2, k3, _, _⟩ := mk_in (z := z) (e := E) z0 (by omega) (by omega); have nf := mk_nf z E; refine ⟨_, _, hb, rfl, rfl, nf, hv.symm, ?_, by omega, by omega, k3.trans z2⟩
 rw [k2]; exact Nat.lt_of_le_of_lt (Nat.div_le_self _ _) hm
theorem fix_inf {s : Bool} {M E x : Int} (q : Fq 2 s M E x) : fixB x = false ∧ fixI x = 0 ∧ exb 2 s M E = false := by
 have t := t30
 have h : fixB x = false := by
   refine decide_eq_false ?_
   rcases q.cases with ⟨c, _⟩ | ⟨c, _⟩ | ⟨_, _, _, ⟨_, h5⟩ | ⟨_, h5⟩⟩
   · omega
   · omega
   · omega
   · omega
 exact ⟨h, fixI_no h, by unfold exb; simp⟩
theorem fq_kind {K : Int} {s : Bool} {M E x : Int} (q : Fq K s M E x) : (K = 0 ∧ x = 0) ∨ K = 1 ∨ K = 2 := by
 rcases q.cases with ⟨a, _, _, _, b⟩ | ⟨a, _⟩ | ⟨a, _⟩
 · exact .inl ⟨a, b⟩
 · exact .inr (.inl a)
 · exact .inr (.inr a)
theorem fix_fits {x : Int} (h : fixB x = true) : (fixI x).natAbs < 4294967296 ^ 10 := by
 obtain ⟨a, b⟩ := fix_holds h; have hb := of_decide_eq_true h; have v1 := vr_lt hb.2; have v2 := vr_lt hb.1; rw [vr_neg, opl_vr (by decide) (by decide)] at v2; rw [opl_vr (by decide) (by decide)] at v1; have hp := p2pos KK
 have d1 := Int.mul_lt_mul_of_pos_right v1 (show (0 : Int) < SC by decide)
 have d2 := Int.mul_lt_mul_of_pos_right v2 (show (0 : Int) < SC by decide)
 have e1 : 1073741824 * 2 ^ KK * SC = 1073741824 * SC * 2 ^ KK := by rw [Int.mul_assoc, Int.mul_comm (2 ^ KK) SC, ← Int.mul_assoc]
 have e2 : -(1073741824 * 2 ^ KK) * SC = -(1073741824 * SC) * 2 ^ KK := by rw [Int.neg_mul, e1, Int.neg_mul]
 rw [e1] at d1; rw [e2] at d2
 have f1 : fixI x < 1073741824 * SC := Int.lt_of_mul_lt_mul_right (Int.lt_of_le_of_lt a d1) (by omega)
 have f2 : -(1073741824 * SC) < fixI x + 1 := Int.lt_of_mul_lt_mul_right (Int.lt_trans d2 b) (by omega)
 have g : (fixI x).natAbs < 13479973333575319897333507543509815336818572211270286240551805124608 := by
   generalize fixI x = z at *; clear a b d1 d2 e1 e2 v1 v2
   unfold SC at f1 f2
   omega
 exact Nat.lt_of_lt_of_le g (by decide)
end Go.Proofs.YtmmallhniijdfaaDoor
namespace Go.Proofs.YtmmallhniijdfaaDoor
open Go.RowKit
set_option linter.unusedVariables false
set_option linter.unusedSimpArgs false
set_option maxRecDepth 100000
def WB (w : World) (K : Nat) (z : Int) (t : Bool) (e : Ending) (w' : World) : Prop := ∃ s A n c, e = .returned (.tuple #[.agg #[.bool s, .slice A n c], .bool t]) ∧ Wn w' s A n c z ∧ n ≤ K ∧ Below w.heap.size w w'
theorem Nl.lit2 {W : World} {g : Nat} {D1 D2 M1 M2 E1 E2 r1 r2 : Int} {s1 s2 : Bool} (hg : W.heap.size = g) (h1 : LQ M1) (h2 : LQ M2) (k1 : rk D1 s1 M1 E1 = r1) (k2 : rk D2 s2 M2 E2 = r2) :
   Nl (W.alloc (.cells #[.int .i64 D1, .bool s1, .int .u64 M1, .int .i64 E1, .int .i64 D2, .bool s2, .int .u64 M2, .int .i64 E2] 24)) (some ⟨g, 0, none⟩) 2 2 [r1, r2] := by
 subst hg; have hh := heap_alloc_new W (.cells #[.int .i64 D1, .bool s1, .int .u64 M1, .int .i64 E1, .int .i64 D2, .bool s2, .int .u64 M2, .int .i64 E2] 24)
 refine ⟨rfl, Nat.le_refl _, by decide, fun _ => ⟨_, 0, rfl, fun k hk => ?_⟩⟩
 rcases (by omega : k = 0 ∨ k = 1) with rfl | rfl
 · exact ⟨D1, s1, M1, E1, by rw [cell_of_row _ _ _ _ _ _ hh]; rfl, by rw [cell_of_row _ _ _ _ _ _ hh]; rfl, by rw [cell_of_row _ _ _ _ _ _ hh]; rfl, by rw [cell_of_row _ _ _ _ _ _ hh]; rfl, h1, k1⟩
 · exact ⟨D2, s2, M2, E2, by rw [cell_of_row _ _ _ _ _ _ hh]; rfl, by rw [cell_of_row _ _ _ _ _ _ hh]; rfl, by rw [cell_of_row _ _ _ _ _ _ hh]; rfl, by rw [cell_of_row _ _ _ _ _ _ hh]; rfl, h2, k2⟩
theorem mxp_two {a b : Int} (ha : -19342822337206103650074625 ≤ a) : mxp [a, b] = max a b := by
 have := TP_eq
 show max (max (-TP) a) b = _
 omega
end Go.Proofs.YtmmallhniijdfaaDoor
namespace Go.Proofs.YtmmallhniijdfaaDoor
open Go Go.RowKit
set_option linter.unusedVariables false
theorem fixB_max {x m c : Int} (hm : max x (-x) = m) (h : cmpI m (opl 1073741824) = c) : decide (0 ≤ c) = !(fixB x) := by
 subst hm; have t := t30
 unfold fixB
 rw [← h]
 by_cases g : -opl 1073741824 < x ∧ x < opl 1073741824
 · rw [decide_eq_true g, cmpI_lt (show max x (-x) < opl 1073741824 by omega)]
   rfl
 · rw [decide_eq_false g]
   rcases cmpI_tri (max x (-x)) (opl 1073741824) with ⟨a, b⟩ | ⟨a, b⟩ | ⟨a, b⟩
   · omega
   · rw [b]; rfl
   · rw [b]; rfl
theorem mxp_opp {x : Int} (ha : -19342822337206103650074625 ≤ x) : mxp [x, -x] = max x (-x) := mxp_two ha
theorem fix_raw {D M E x : Int} {s : Bool} (hM : LQ M) (hx : rk D s M E = x) (hb : fixB x = true) :
   ∃ N F, (exq D s M E).1 = N ∧ (exq D s M E).2 = F ∧ mk N F = (N, F) ∧ vr x = N * 2 ^ (F + KK).toNat ∧ N.natAbs < 2 ^ 64 ∧ -2900000 ≤ F ∧ F ≤ 2900000 := by
 have zero : ∀ N : Int, N = 0 → vr 0 = N * 2 ^ ((0 : Int) + KK).toNat := fun N e => by rw [e, Int.zero_mul]; rfl
 by_cases h : MayQ D s M E
 · have q := rk_fq hM h; rw [hx] at q
   rcases fq_kind q with ⟨rfl, rfl⟩ | rfl | rfl
   · obtain ⟨_, rfl, rfl, rfl⟩ := q.uniq Fq.nought; exact ⟨0, 0, by decide, by decide, mk_zero 0, zero 0 rfl, by decide, by decide, by decide⟩
   · obtain ⟨N, F, _, a, b, nf, hv, n64, g1, g2, _⟩ := fix_exq q; exact ⟨N, F, a, b, nf, hv, n64, g1, g2⟩
   · rw [(fix_inf q).1] at hb
     cases hb
 · have e : exq D s M E = (0, 0) := by
     unfold exq exb
     rw [decide_eq_false h]
     rfl
   rw [rk_not h] at hx; subst hx; exact ⟨0, 0, by rw [e], by rw [e], mk_zero 0, zero 0 rfl, by decide, by decide, by decide⟩
theorem fix_code {N F P Q x : Int} (nf : mk N F = (N, F)) (hv : vr x = N * 2 ^ (F + KK).toNat) (h64 : N.natAbs < 2 ^ 64) (h1 : -2900000 ≤ F) (h2 : F ≤ 2900000) (hb : fixB x = true)
   (hP : (mvs (mk N F) 192).1 = P) (hQ : (mvs (mk N F) 192).2 = Q) : flr (mk P Q).1 (mk P Q).2 = fixI x := by
 have hfl := flr_moved nf (Nat.lt_trans h64 (by decide)) h1 h2
 have e : mv N F 192 = mk N (F + 192) := by
   unfold mv
   rw [if_neg (by omega), nf]
 rw [nf] at hP hQ
 have e2 : mk P Q = (P, Q) := by
   have := mk_nf N (F + 192)
   rw [← hP, ← hQ]; exact this
 rw [e2, fixI_yes hb, hv, ← hfl, e, ← hP, ← hQ]
 rfl
end Go.Proofs.YtmmallhniijdfaaDoor
namespace Go.Proofs.YtmmallhniijdfaaDoor
open Go.RowKit
set_option linter.unusedVariables false
theorem stk_iff {q d d' : Nat} (h : d = 0 ↔ d' = 0) : stk q d = stk q d' := by
 unfold stk
 by_cases c : d = 0
 · rw [if_pos c, if_pos (h.1 c)]
 · rw [if_neg c, if_neg (fun e => c (h.2 e))]
theorem stk_two (q d : Nat) : stk q d ≤ 2 * q + 1 := by
 unfold stk
 split <;> omega
theorem le_of_blen {a k : Nat} (h0 : 0 < a) (h : k < blen a) : 2 ^ k ≤ a := by
 have h1 := blen_le (n := a) (by omega); exact Nat.le_trans (Nat.pow_le_pow_right (by decide) (by omega)) h1
theorem part_up {α β k : Nat} {e : Int} (hα : 0 < α) (hβ : 0 < β) (hk : (blen β : Int) - (blen α : Int) + 64 = (k : Int)) (ha : blen α ≤ 112000) (hb : blen β ≤ 112000) (e1 : -2200000 ≤ e) (e2 : e ≤ 2200000) (σ up : Bool) :
   Sid up (sgi σ ((α : Int) * 2 ^ (e + KK).toNat)) (β : Int) (rnd up (mk (sgi σ ((stk (α * 2 ^ k / β) (α * 2 ^ k % β) : Nat) : Int)) (e - k - 1)).1 (mk (sgi σ ((stk (α * 2 ^ k / β) (α * 2 ^ k % β) : Nat) : Int)) (e - k - 1)).2) := by
 obtain ⟨κ, hκ⟩ : ∃ κ : Nat, κ = 500000 := ⟨_, rfl⟩
 have la : 0 < blen α := by
   rcases Nat.eq_zero_or_pos (blen α) with c | c
   · have := blen_lt α
     rw [c] at this
     omega
   · exact c
 have hq : 9223372036854775808 ≤ α * 2 ^ k / β := by
   rw [Nat.le_div_iff_mul_le hβ]; have l1 := blen_lt β
   have l2 : 2 ^ 63 * β ≤ 2 ^ 63 * 2 ^ blen β := Nat.mul_le_mul_left _ (Nat.le_of_lt l1)
   have l3 := le_of_blen (k := blen α - 1) hα (by omega)
   have l4 : 2 ^ (blen α - 1) * 2 ^ k ≤ α * 2 ^ k := Nat.mul_le_mul_right _ l3
   rw [← Nat.pow_add] at l2 l4
   rw [show blen α - 1 + k = 63 + blen β by omega] at l4
   omega
 have hs : stk (α * 2 ^ k / β) (α * 2 ^ k % β) < 2 ^ κ := by
   have q1 : α * 2 ^ k / β ≤ α * 2 ^ k := Nat.div_le_self _ _
   have q2 : α * 2 ^ k < 2 ^ blen α * 2 ^ k := Nat.mul_lt_mul_of_pos_right (blen_lt α) (Nat.pow_pos (by decide))
   rw [← Nat.pow_add] at q2; have q3 := stk_two (α * 2 ^ k / β) (α * 2 ^ k % β)
   have q4 : 2 ^ (blen α + k + 1) ≤ 2 ^ κ := Nat.pow_le_pow_right (by decide) (by omega)
   rw [Nat.pow_succ] at q4
   omega
 rw [rnd_sgi]
 exact sid_sgi (quo_side (up != σ) hβ (fun _ => hq) hκ hs (by omega) (by omega))
theorem left_iff {α β k : Nat} : α % (β * 2 ^ k) = 0 ↔ α / 2 ^ k * 2 ^ k = α ∧ α / 2 ^ k % β = 0 := by
 have hp : 0 < 2 ^ k := Nat.pow_pos (by decide)
 constructor
 · intro h
   obtain ⟨t, ht⟩ := Nat.dvd_of_mod_eq_zero h
   have e : α / 2 ^ k = β * t := by
     rw [ht, Nat.mul_right_comm, Nat.mul_div_cancel _ hp]
   rw [e]; refine ⟨?_, Nat.mul_mod_right _ _⟩; rw [ht, Nat.mul_right_comm]
 · rintro ⟨a, b⟩; obtain ⟨t, ht⟩ := Nat.dvd_of_mod_eq_zero b; rw [← a, ht, Nat.mul_right_comm]; exact Nat.mul_mod_right _ _
theorem part_dn {α β k d : Nat} {e : Int} (hα : 0 < α) (hβ : 0 < β) (hk : (blen β : Int) - (blen α : Int) + 64 = -(k : Int)) (ha : blen α ≤ 112000) (e1 : -2200000 ≤ e) (e2 : e ≤ 2200000) (hd : d = 0 ↔ (α / 2 ^ k * 2 ^ k = α ∧ α / 2 ^ k % β = 0)) (σ up : Bool) :
   Sid up (sgi σ ((α : Int) * 2 ^ (e + KK).toNat)) (β : Int) (rnd up (mk (sgi σ ((stk (α / 2 ^ k / β) d : Nat) : Int)) (e + k - 1)).1 (mk (sgi σ ((stk (α / 2 ^ k / β) d : Nat) : Int)) (e + k - 1)).2) := by
 have hKK := KK_eq; obtain ⟨κ, hκ⟩ : ∃ κ : Nat, κ = 500000 := ⟨_, rfl⟩
 have hp : 0 < 2 ^ k := Nat.pow_pos (by decide)
 have hD : 0 < β * 2 ^ k := Nat.mul_pos hβ hp
 have es : stk (α / 2 ^ k / β) d = stk (α / (β * 2 ^ k)) (α % (β * 2 ^ k)) := by
   rw [Nat.div_div_eq_div_mul, Nat.mul_comm (2 ^ k) β]; exact stk_iff (hd.trans left_iff.symm)
 rw [es]
 have hq : 9223372036854775808 ≤ α / (β * 2 ^ k) := by
   rw [Nat.le_div_iff_mul_le hD]; have l1 := blen_lt β
   have l2 : 2 ^ 63 * (β * 2 ^ k) ≤ 2 ^ 63 * (2 ^ blen β * 2 ^ k) := Nat.mul_le_mul_left _ (Nat.mul_le_mul_right _ (Nat.le_of_lt l1))
   have l3 := le_of_blen (k := blen α - 1) hα (by omega); rw [← Nat.pow_add, ← Nat.pow_add] at l2
   rw [show blen α - 1 = 63 + (blen β + k) by omega] at l3
   omega
 have hs : stk (α / (β * 2 ^ k)) (α % (β * 2 ^ k)) < 2 ^ κ := by
   have q1 : α / (β * 2 ^ k) ≤ α := Nat.div_le_self _ _
   have q2 := blen_lt α; have q3 := stk_two (α / (β * 2 ^ k)) (α % (β * 2 ^ k))
   have q4 : 2 ^ (blen α + 1) ≤ 2 ^ κ := Nat.pow_le_pow_right (by decide) (by omega)
   rw [Nat.pow_succ] at q4
   omega
 have h := quo_side (α := α) (β := β * 2 ^ k) (e := e + k) (n := 0) (up != σ) hD (fun _ => by rw [Nat.pow_zero, Nat.mul_one]; exact hq) hκ (by rw [Nat.pow_zero, Nat.mul_one]; exact hs) (by omega) (by omega)
 rw [Nat.pow_zero, Nat.mul_one, show e + (k : Int) - ((0 : Nat) : Int) - 1 = e + k - 1 by omega] at h
 rw [rnd_sgi]; refine sid_sgi (h.cross (by omega) (by omega) ?_)
 have e3 : (e + (k : Int) + (KK : Int)).toNat = (e + (KK : Int)).toNat + k := by omega
 rw [e3, Int.pow_add]
 push_cast
 generalize (2 : Int) ^ (e + (KK : Int)).toNat = U; generalize (2 : Int) ^ k = V; rw [Int.mul_assoc, Int.mul_assoc, Int.mul_assoc, Int.mul_comm V (β : Int)]
end Go.Proofs.YtmmallhniijdfaaDoor

/-
  Contracts and words that the statement's proof rests on, several texts in one: Ka, Kb, Kc.
-/
import Derived.Test.YteejbcimmmcnlaaGreatDoorYAas
/-
  What num.May does, and the document's.
-/
namespace Go.Proofs.YteejbcimmmcnlaaGreatDoor
open Go.RowKit
set_option linter.unusedVariables false

theorem StN.mk4 {w : World} {g : Nat} {T : TypeId} {a b c d : Value} (X : Bo w g #[a, b, c, d] T) (u v t x : Value) : StN w ((((w.setCell ⟨g, 0, none⟩ u).setCell ⟨g, 1, none⟩ v).setCell ⟨g, 2, none⟩ t).setCell ⟨g, 3, none⟩ x) g #[a, b, c, d] #[u, v, t, x] T :=
  ⟨X, by simpa using (((X.set 0 u).set 1 v).set 2 t).set 3 x, fun k hk => by rw [Below.heap_setCell _ _ _ _ hk, Below.heap_setCell _ _ _ _ hk, Below.heap_setCell _ _ _ _ hk, Below.heap_setCell _ _ _ _ hk], fun B a hg h => below_store (st3 h hg u v t) hg 3 x⟩
theorem StN.at4 {w : World} {g : Nat} {T : TypeId} {cs : Array Value} (X : Bo w g cs T) (i : Nat) (v : Value) : StN w (w.setCell ⟨g, i, none⟩ v) g cs (cs.setIfInBounds i v) T :=
  ⟨X, X.set i v, fun k hk => Below.heap_setCell _ _ _ _ hk, fun B a hg h => below_store h hg i v⟩
theorem mayQ0 {s : Bool} {M E : Int} : decide (MayQ 0 s M E) = ((s == false) && ((M == 0) && (E == 0))) := by
  unfold MayQ
  rw [Bool.eq_iff_iff]
  simp
theorem mayQ1 {s : Bool} {M E : Int} : decide (MayQ 1 s M E) = (decide (9223372036854775808 ≤ M) && (decide (-1048576 ≤ E) && decide (E ≤ 1048576))) := by
  unfold MayQ
  rw [Bool.eq_iff_iff]
  simp
theorem mayQ2 {s : Bool} {M E : Int} : decide (MayQ 2 s M E) = ((M == 0) && (E == 0)) := by
  unfold MayQ
  rw [Bool.eq_iff_iff]
  simp
theorem mayQ3 {K : Int} {s : Bool} {M E : Int} (h0 : K ≠ 0) (h1 : K ≠ 1) (h2 : K ≠ 2) : decide (MayQ K s M E) = false := by
  unfold MayQ
  simp [h0, h1, h2]
set_option maxHeartbeats 1000000 in
theorem nMay {w : World} {K M E : Int} {s : Bool} {r : Bool} (hr : decide (MayQ K s M E) = r) : Calls Tryz.prog 74 #[.agg #[.int .i64 K, .bool s, .int .u64 M, .int .i64 E]] w (PB w r) := by
  subst hr
  by_cases h0 : K = 0
  · subst h0; rw [mayQ0]
    go_enter Tryz.func74, Tryz.ntmps74
    go_wp2
    all_goals go_ret
    all_goals exact ⟨by simp_all, bel1 _ _⟩
  by_cases h1 : K = 1
  · subst h1; rw [mayQ1]
    by_cases c1 : 9223372036854775808 ≤ M
    · have e1 : decide (9223372036854775808 ≤ M) = true := decide_eq_true c1
      by_cases c2 : -1048576 ≤ E
      · have e2 : decide (-1048576 ≤ E) = true := decide_eq_true c2
        by_cases c3 : E ≤ 1048576
        · have e3 : decide (E ≤ 1048576) = true := decide_eq_true c3
          rw [e1, e2, e3]
          go_enter Tryz.func74, Tryz.ntmps74
          go_wp2
          go_ret
          exact ⟨rfl, bel1 _ _⟩
        · have e3 : decide (E ≤ 1048576) = false := decide_eq_false c3
          rw [e1, e2, e3]
          go_enter Tryz.func74, Tryz.ntmps74
          go_wp2
          go_ret
          exact ⟨rfl, bel1 _ _⟩
      · have e2 : decide (-1048576 ≤ E) = false := decide_eq_false c2
        rw [e1, e2]
        go_enter Tryz.func74, Tryz.ntmps74
        go_wp2
        go_ret
        exact ⟨rfl, bel1 _ _⟩
    · have e1 : decide (9223372036854775808 ≤ M) = false := decide_eq_false c1
      rw [e1]
      go_enter Tryz.func74, Tryz.ntmps74
      go_wp2
      go_ret
      exact ⟨rfl, bel1 _ _⟩
  by_cases h2 : K = 2
  · subst h2; rw [mayQ2]
    by_cases c1 : M = 0
    · subst c1
      by_cases c2 : E = 0
      · subst c2
        go_enter Tryz.func74, Tryz.ntmps74
        go_wp2
        go_ret
        exact ⟨rfl, bel1 _ _⟩
      · have e2 : (E == 0) = false := by simpa using c2
        rw [e2]
        go_enter Tryz.func74, Tryz.ntmps74
        go_wp2
        go_ret
        exact ⟨rfl, bel1 _ _⟩
    · have e1 : (M == 0) = false := by simpa using c1
      rw [e1]
      go_enter Tryz.func74, Tryz.ntmps74
      go_wp2
      go_ret
      exact ⟨rfl, bel1 _ _⟩
  · rw [mayQ3 h0 h1 h2]
    have e0 : (K == 0) = false := by simpa using h0
    have e1 : (K == 1) = false := by simpa using h1
    have e2 : (K == 2) = false := by simpa using h2
    go_enter Tryz.func74, Tryz.ntmps74
    go_wp2
    go_ret
    exact ⟨rfl, bel1 _ _⟩
set_option maxHeartbeats 1000000 in
theorem yMay {w : World} {K M E : Int} {s : Bool} {r : Bool} (hr : decide (MayQ K s M E) = r) : Calls Tryz.prog 132 #[.agg #[.int .i64 K, .bool s, .int .u64 M, .int .i64 E]] w (PB w r) := by
  subst hr
  by_cases h0 : K = 0
  · subst h0; rw [mayQ0]
    go_enter Tryz.func132, Tryz.ntmps132
    go_wp2
    all_goals go_ret
    all_goals exact ⟨by simp_all, bel1 _ _⟩
  by_cases h1 : K = 1
  · subst h1; rw [mayQ1]
    by_cases c1 : 9223372036854775808 ≤ M
    · have e1 : decide (9223372036854775808 ≤ M) = true := decide_eq_true c1
      by_cases c2 : -1048576 ≤ E
      · have e2 : decide (-1048576 ≤ E) = true := decide_eq_true c2
        by_cases c3 : E ≤ 1048576
        · have e3 : decide (E ≤ 1048576) = true := decide_eq_true c3
          rw [e1, e2, e3]
          go_enter Tryz.func132, Tryz.ntmps132
          go_wp2
          go_ret
          exact ⟨rfl, bel1 _ _⟩
        · have e3 : decide (E ≤ 1048576) = false := decide_eq_false c3
          rw [e1, e2, e3]
          go_enter Tryz.func132, Tryz.ntmps132
          go_wp2
          go_ret
          exact ⟨rfl, bel1 _ _⟩
      · have e2 : decide (-1048576 ≤ E) = false := decide_eq_false c2
        rw [e1, e2]
        go_enter Tryz.func132, Tryz.ntmps132
        go_wp2
        go_ret
        exact ⟨rfl, bel1 _ _⟩
    · have e1 : decide (9223372036854775808 ≤ M) = false := decide_eq_false c1
      rw [e1]
      go_enter Tryz.func132, Tryz.ntmps132
      go_wp2
      go_ret
      exact ⟨rfl, bel1 _ _⟩
  by_cases h2 : K = 2
  · subst h2; rw [mayQ2]
    by_cases c1 : M = 0
    · subst c1
      by_cases c2 : E = 0
      · subst c2
        go_enter Tryz.func132, Tryz.ntmps132
        go_wp2
        go_ret
        exact ⟨rfl, bel1 _ _⟩
      · have e2 : (E == 0) = false := by simpa using c2
        rw [e2]
        go_enter Tryz.func132, Tryz.ntmps132
        go_wp2
        go_ret
        exact ⟨rfl, bel1 _ _⟩
    · have e1 : (M == 0) = false := by simpa using c1
      rw [e1]
      go_enter Tryz.func132, Tryz.ntmps132
      go_wp2
      go_ret
      exact ⟨rfl, bel1 _ _⟩
  · rw [mayQ3 h0 h1 h2]
    have e0 : (K == 0) = false := by simpa using h0
    have e1 : (K == 1) = false := by simpa using h1
    have e2 : (K == 2) = false := by simpa using h2
    go_enter Tryz.func132, Tryz.ntmps132
    go_wp2
    go_ret
    exact ⟨rfl, bel1 _ _⟩
end Go.Proofs.YteejbcimmmcnlaaGreatDoor
namespace Go.Proofs.YteejbcimmmcnlaaGreatDoor
open Go.RowKit
set_option linter.unusedVariables false
theorem StN.of4 {w w1 : World} {g : Nat} {T : TypeId} {a0 a1 a2 a3 v0 v1 v2 v3 : Value} (X : Bo w g #[a0, a1, a2, a3] T) (h : (((w.setCell ⟨g, 0, none⟩ v0).setCell ⟨g, 1, none⟩ v1).setCell ⟨g, 2, none⟩ v2).setCell ⟨g, 3, none⟩ v3 = w1) : StN w w1 g #[a0, a1, a2, a3] #[v0, v1, v2, v3] T := h ▸ StN.mk4 X v0 v1 v2 v3
end Go.Proofs.YteejbcimmmcnlaaGreatDoor

/-
  What num.taken, Infinite, tiny, huge, Sign, Neg do, and the document's fair, Infinite, Sign, Neg.
-/
namespace Go.Proofs.YteejbcimmmcnlaaGreatDoor
open Go.RowKit
set_option linter.unusedVariables false
set_option linter.unusedSimpArgs false
set_option maxRecDepth 100000

/-- A number is answered, whose place is r. -/
def PN (w : World) (r : Int) (e : Ending) (w' : World) : Prop := ∃ D s M E, e = .returned (.agg #[.int .i64 D, .bool s, .int .u64 M, .int .i64 E]) ∧ Fq D s M E r ∧ Below w.heap.size w w'
theorem Fq.three {D : Int} {s : Bool} {M E r : Int} (h : Fq D s M E r) : (D = 0 ∧ r = 0) ∨ (D ≠ 0 ∧ s = false ∧ 0 < r) ∨ (D ≠ 0 ∧ s = true ∧ r < 0) := by
  rcases h.cases with ⟨rfl, rfl, rfl, rfl, h0⟩ | ⟨rfl, h1, h2, h3, h4, ⟨rfl, h5⟩ | ⟨rfl, h5⟩⟩ | ⟨rfl, rfl, rfl, ⟨rfl, h5⟩ | ⟨rfl, h5⟩⟩
  · exact Or.inl ⟨rfl, h0⟩
  · exact Or.inr (Or.inl ⟨by decide, rfl, by omega⟩)
  · exact Or.inr (Or.inr ⟨by decide, rfl, by omega⟩)
  · exact Or.inr (Or.inl ⟨by decide, rfl, by omega⟩)
  · exact Or.inr (Or.inr ⟨by decide, rfl, by omega⟩)

set_option maxHeartbeats 2000000 in
theorem nTaken {w : World} {D M E : Int} {s : Bool} {r : Int} (hM : M < 18446744073709551616) (hr : rk D s M E = r) : Calls Tryz.prog 92 #[.agg #[.int .i64 D, .bool s, .int .u64 M, .int .i64 E]] w (PN w r) := by
  by_cases hm : MayQ D s M E
  · have HQ := rk_fq hM hm; rw [hr] at HQ
    have HC := Lib.hid (show decide (MayQ D s M E) = true from decide_eq_true hm)
    clear hm hr hM
    go_enter Tryz.func92, Tryz.ntmps92
    go_upto_region 1 with (fail)
    generalize hW1 : (w.alloc _).alloc _ = w1 at *; obtain ⟨X1, XR, HB⟩ := Bo.en2 hW1; clear hW1; obtain ⟨xX10, xX11, xX12, xX13⟩ := X1.u4
    go_wp2_with fail
    refine (nMay HC.out).mono ?_; rintro ee w2 ⟨rfl, B⟩; clear xX10 xX11 xX12 xX13; replace X1 := X1.below B; replace XR := XR.below B; replace HB := Lib.hid (bt HB.out B); clear B; obtain ⟨xXR0, xXR1, xXR2, xXR3⟩ := XR.u4; have zXR0 := XR.frozen; obtain ⟨xX10, xX11, xX12, xX13⟩ := X1.u4; go_wp2; clear xXR0 zXR0 xXR1 xXR2 xXR3 xX10 xX11 xX12 xX13; have SX := StN.mk4 XR (.int .i64 D) (.bool s) (.int .u64 M) (.int .i64 E)
    exact bodyPost_ret (by simp [results, Tryz.results92, go_sem, SX.box.cell]) rfl ⟨D, s, M, E, rfl, HQ, (SX.below HB.out (by omega))⟩
  · rw [rk_not hm] at hr; subst hr
    have HC := Lib.hid (show decide (MayQ D s M E) = false from decide_eq_false hm)
    clear hm hM
    go_enter Tryz.func92, Tryz.ntmps92
    go_upto_region 1 with (fail)
    generalize hW1 : (w.alloc _).alloc _ = w1 at *; obtain ⟨X1, XR, HB⟩ := Bo.en2 hW1; clear hW1; obtain ⟨xX10, xX11, xX12, xX13⟩ := X1.u4
    go_wp2_with fail
    refine (nMay HC.out).mono ?_; rintro ee w2 ⟨rfl, B⟩; clear xX10 xX11 xX12 xX13; replace X1 := X1.below B; replace XR := XR.below B; replace HB := Lib.hid (bt HB.out B); clear B; obtain ⟨xXR0, xXR1, xXR2, xXR3⟩ := XR.u4; have zXR0 := XR.frozen; obtain ⟨xX10, xX11, xX12, xX13⟩ := X1.u4; go_wp2; clear xXR0 zXR0 xXR1 xXR2 xXR3 xX10 xX11 xX12 xX13; have SX := StN.mk4 XR (.int .i64 0) (.bool false) (.int .u64 0) (.int .i64 0)
    exact bodyPost_ret (by simp [results, Tryz.results92, go_sem, SX.box.cell]) rfl ⟨_, _, _, _, rfl, Fq.nought, (SX.below HB.out (by omega))⟩
set_option maxHeartbeats 2000000 in
theorem nInf {w : World} {s : Bool} {r : Int} (hr : sgi s TP = r) : Calls Tryz.prog 41 #[.bool s] w (PN w r) := by
  go_enter Tryz.func41, Tryz.ntmps41
  go_upto_region 1 with (fail)
  generalize hW1 : w.alloc _ = w1 at *; obtain ⟨XR, HB⟩ := Bo.en1 hW1; clear hW1; obtain ⟨xXR0, xXR1, xXR2, xXR3⟩ := XR.u4; have zXR0 := XR.frozen; go_wp2; clear xXR0 zXR0 xXR1 xXR2 xXR3; have SX := StN.mk4 XR (.int .i64 2) (.bool s) (.int .u64 0) (.int .i64 0); exact bodyPost_ret (v := .agg #[.int .i64 2, .bool s, .int .u64 0, .int .i64 0]) (by simp [results, Tryz.results41, go_sem, SX.box.cell]) rfl ⟨_, _, _, _, rfl, hr ▸ Fq.inf s, (SX.below HB.out (by omega))⟩
set_option maxHeartbeats 2000000 in
theorem nT {w : World} {s : Bool} : Calls Tryz.prog 171 #[.bool s] w (fun e w' => e = .returned (.agg #[.int .i64 1, .bool s, .int .u64 9223372036854775808, .int .i64 (-1048576)]) ∧ Below w.heap.size w w') := by
  go_enter Tryz.func171, Tryz.ntmps171
  go_upto_region 1 with (fail)
  generalize hW1 : w.alloc _ = w1 at *; obtain ⟨XR, HB⟩ := Bo.en1 hW1; clear hW1; obtain ⟨xXR0, xXR1, xXR2, xXR3⟩ := XR.u4; have zXR0 := XR.frozen; go_wp2; clear xXR0 zXR0 xXR1 xXR2 xXR3; have SX := StN.mk4 XR (.int .i64 1) (.bool s) (.int .u64 9223372036854775808) (.int .i64 (-1048576)); exact bodyPost_ret (v := .agg #[.int .i64 1, .bool s, .int .u64 9223372036854775808, .int .i64 (-1048576)]) (by simp [results, Tryz.results171, go_sem, SX.box.cell]) rfl ⟨rfl, (SX.below HB.out (by omega))⟩
set_option maxHeartbeats 2000000 in
theorem nH {w : World} {s : Bool} : Calls Tryz.prog 186 #[.bool s] w (fun e w' => e = .returned (.agg #[.int .i64 1, .bool s, .int .u64 18446744073709551615, .int .i64 1048576]) ∧ Below w.heap.size w w') := by
  go_enter Tryz.func186, Tryz.ntmps186
  go_upto_region 1 with (fail)
  generalize hW1 : w.alloc _ = w1 at *; obtain ⟨XR, HB⟩ := Bo.en1 hW1; clear hW1; obtain ⟨xXR0, xXR1, xXR2, xXR3⟩ := XR.u4; have zXR0 := XR.frozen; go_wp2; clear xXR0 zXR0 xXR1 xXR2 xXR3; have SX := StN.mk4 XR (.int .i64 1) (.bool s) (.int .u64 18446744073709551615) (.int .i64 1048576); exact bodyPost_ret (v := .agg #[.int .i64 1, .bool s, .int .u64 18446744073709551615, .int .i64 1048576]) (by simp [results, Tryz.results186, go_sem, SX.box.cell]) rfl ⟨rfl, (SX.below HB.out (by omega))⟩
set_option maxHeartbeats 2000000 in
theorem nSign {w : World} {D M E : Int} {s : Bool} {σ : Int} (hM : M < 18446744073709551616) (hs : cmpI (rk D s M E) 0 = σ) : Calls Tryz.prog 60 #[.agg #[.int .i64 D, .bool s, .int .u64 M, .int .i64 E]] w (PI w σ) := by
  obtain ⟨r, hr⟩ : ∃ r, rk D s M E = r := ⟨_, rfl⟩; rw [hr] at hs; have HR := Lib.hid hr; have HS := Lib.hid hs; clear hr hs
  go_enter Tryz.func60, Tryz.ntmps60
  go_upto_region 1 with (fail)
  generalize hW1 : w.alloc _ = w1 at *; obtain ⟨X1, HB⟩ := Bo.en1 hW1; clear hW1; obtain ⟨xX10, xX11, xX12, xX13⟩ := X1.u4
  go_wp2_with fail
  refine (nTaken hM HR.out).mono ?_; rintro ee w2 ⟨K1, s1, M1, E1, rfl, q1, B⟩; clear xX10 xX11 xX12 xX13; replace X1 := X1.below B; replace HB := Lib.hid (bt HB.out B); clear B; obtain ⟨xX10, xX11, xX12, xX13⟩ := X1.u4; have zX10 := X1.frozen
  go_upto_region 2 with (fail)
  clear xX10 zX10 xX11 xX12 xX13; generalize hS : (((w2.setCell _ _).setCell _ _).setCell _ _).setCell _ _ = w3 at *; have SX := StN.of4 X1 hS; replace HB := Lib.hid (SX.below HB.out (by omega)); replace X1 := SX.box; clear SX hS
  rcases q1.three with ⟨h0, hr⟩ | ⟨h0, h1, hr⟩ | ⟨h0, h1, hr⟩
  · subst h0; have hs := HS.out; rw [cmpI_eq hr] at hs; subst hs; clear q1; obtain ⟨xX10, xX11, xX12, xX13⟩ := X1.u4; go_wp2
    go_ret
    exact ⟨by first | rfl | simp_all, HB.out⟩
  · have e0 : (K1 == 0) = false := by simpa using h0
    have hs := HS.out; rw [cmpI_gt hr] at hs; subst hs; subst h1; clear q1; obtain ⟨xX10, xX11, xX12, xX13⟩ := X1.u4; go_wp2
    go_ret
    exact ⟨by first | rfl | simp_all, HB.out⟩
  · have e0 : (K1 == 0) = false := by simpa using h0
    have hs := HS.out; rw [cmpI_lt hr] at hs; subst hs; subst h1; clear q1; obtain ⟨xX10, xX11, xX12, xX13⟩ := X1.u4; go_wp2
    go_ret
    exact ⟨by first | rfl | simp_all, HB.out⟩
set_option maxHeartbeats 2000000 in
theorem nNeg {w : World} {D M E : Int} {s : Bool} {r : Int} (hM : M < 18446744073709551616) (hr : -rk D s M E = r) : Calls Tryz.prog 50 #[.agg #[.int .i64 D, .bool s, .int .u64 M, .int .i64 E]] w (PN w r) := by
  obtain ⟨x, hx⟩ : ∃ x, rk D s M E = x := ⟨_, rfl⟩; rw [hx] at hr; have HX := Lib.hid hx; subst hr; clear hx
  go_enter Tryz.func50, Tryz.ntmps50
  go_upto_region 1 with (fail)
  generalize hW1 : (w.alloc _).alloc _ = w1 at *; obtain ⟨X1, XR, HB⟩ := Bo.en2 hW1; clear hW1; obtain ⟨xX10, xX11, xX12, xX13⟩ := X1.u4
  go_wp2_with fail
  refine (nTaken hM HX.out).mono ?_; rintro ee w2 ⟨K1, s1, M1, E1, rfl, q1, B⟩; clear xX10 xX11 xX12 xX13; replace X1 := X1.below B; replace XR := XR.below B; replace HB := Lib.hid (bt HB.out B); clear B; obtain ⟨xX10, xX11, xX12, xX13⟩ := X1.u4; have zX10 := X1.frozen
  go_upto_region 2 with (fail)
  clear xX10 zX10 xX11 xX12 xX13; generalize hS : (((w2.setCell _ _).setCell _ _).setCell _ _).setCell _ _ = w3 at *; have SX := StN.of4 X1 hS; replace XR := XR.stn SX (by omega); replace HB := Lib.hid (SX.below HB.out (by omega)); replace X1 := SX.box; clear SX hS
  by_cases h0 : K1 = 0
  · subst h0; have hz := q1.zero_iff.1 rfl; subst hz; obtain ⟨xXR0, xXR1, xXR2, xXR3⟩ := XR.u4; have zXR0 := XR.frozen; obtain ⟨xX10, xX11, xX12, xX13⟩ := X1.u4; go_wp2; clear xXR0 zXR0 xXR1 xXR2 xXR3 xX10 xX11 xX12 xX13; have SX := StN.mk4 XR (.int .i64 0) (.bool s1) (.int .u64 M1) (.int .i64 E1); exact bodyPost_ret (by simp [results, Tryz.results50, go_sem, SX.box.cell]) rfl ⟨_, _, _, _, rfl, q1, (SX.below HB.out (by omega))⟩
  · have e0 : (K1 == 0) = false := by simpa using h0
    have q2 := rk_neg q1 h0; obtain ⟨xX10, xX11, xX12, xX13⟩ := X1.u4; have zX10 := X1.frozen
    go_upto_region 4 with (fail)
    clear xX10 zX10 xX11 xX12 xX13
    have SX : StN w3 (World.setCell w3 ⟨w.heap.size, 1, none⟩ (.bool (!s1))) _ _ #[.int .i64 K1, .bool (!s1), .int .u64 M1, .int .i64 E1] _ := StN.at4 X1 1 (.bool (!s1))
    replace XR := XR.stn SX (by omega); replace HB := Lib.hid (SX.below HB.out (by omega)); replace X1 := SX.box; clear SX; generalize World.setCell w3 ⟨w.heap.size, 1, none⟩ (.bool (!s1)) = w4 at *; obtain ⟨xXR0, xXR1, xXR2, xXR3⟩ := XR.u4; have zXR0 := XR.frozen; obtain ⟨xX10, xX11, xX12, xX13⟩ := X1.u4; go_wp2; clear xXR0 zXR0 xXR1 xXR2 xXR3 xX10 xX11 xX12 xX13; have SX := StN.mk4 XR (.int .i64 K1) (.bool (!s1)) (.int .u64 M1) (.int .i64 E1)
    exact bodyPost_ret (by simp [results, Tryz.results50, go_sem, SX.box.cell]) rfl ⟨_, _, _, _, rfl, q2, (SX.below HB.out (by omega))⟩
set_option maxHeartbeats 2000000 in
theorem yTaken {w : World} {D M E : Int} {s : Bool} {r : Int} (hM : M < 18446744073709551616) (hr : rk D s M E = r) : Calls Tryz.prog 94 #[.agg #[.int .i64 D, .bool s, .int .u64 M, .int .i64 E]] w (PN w r) := by
  by_cases hm : MayQ D s M E
  · have HQ := rk_fq hM hm; rw [hr] at HQ
    have HC := Lib.hid (show decide (MayQ D s M E) = true from decide_eq_true hm)
    clear hm hr hM
    go_enter Tryz.func94, Tryz.ntmps94
    go_upto_region 1 with (fail)
    generalize hW1 : (w.alloc _).alloc _ = w1 at *; obtain ⟨X1, XR, HB⟩ := Bo.en2 hW1; clear hW1; obtain ⟨xX10, xX11, xX12, xX13⟩ := X1.u4
    go_wp2_with fail
    refine (yMay HC.out).mono ?_; rintro ee w2 ⟨rfl, B⟩; clear xX10 xX11 xX12 xX13; replace X1 := X1.below B; replace XR := XR.below B; replace HB := Lib.hid (bt HB.out B); clear B; obtain ⟨xXR0, xXR1, xXR2, xXR3⟩ := XR.u4; have zXR0 := XR.frozen; obtain ⟨xX10, xX11, xX12, xX13⟩ := X1.u4; go_wp2; clear xXR0 zXR0 xXR1 xXR2 xXR3 xX10 xX11 xX12 xX13; have SX := StN.mk4 XR (.int .i64 D) (.bool s) (.int .u64 M) (.int .i64 E)
    exact bodyPost_ret (by simp [results, Tryz.results94, go_sem, SX.box.cell]) rfl ⟨D, s, M, E, rfl, HQ, (SX.below HB.out (by omega))⟩
  · rw [rk_not hm] at hr; subst hr
    have HC := Lib.hid (show decide (MayQ D s M E) = false from decide_eq_false hm)
    clear hm hM
    go_enter Tryz.func94, Tryz.ntmps94
    go_upto_region 1 with (fail)
    generalize hW1 : (w.alloc _).alloc _ = w1 at *; obtain ⟨X1, XR, HB⟩ := Bo.en2 hW1; clear hW1; obtain ⟨xX10, xX11, xX12, xX13⟩ := X1.u4
    go_wp2_with fail
    refine (yMay HC.out).mono ?_; rintro ee w2 ⟨rfl, B⟩; clear xX10 xX11 xX12 xX13; replace X1 := X1.below B; replace XR := XR.below B; replace HB := Lib.hid (bt HB.out B); clear B; obtain ⟨xXR0, xXR1, xXR2, xXR3⟩ := XR.u4; have zXR0 := XR.frozen; obtain ⟨xX10, xX11, xX12, xX13⟩ := X1.u4; go_wp2; clear xXR0 zXR0 xXR1 xXR2 xXR3 xX10 xX11 xX12 xX13; have SX := StN.mk4 XR (.int .i64 0) (.bool false) (.int .u64 0) (.int .i64 0)
    exact bodyPost_ret (by simp [results, Tryz.results94, go_sem, SX.box.cell]) rfl ⟨_, _, _, _, rfl, Fq.nought, (SX.below HB.out (by omega))⟩
set_option maxHeartbeats 2000000 in
theorem yInf {w : World} {s : Bool} {r : Int} (hr : sgi s TP = r) : Calls Tryz.prog 68 #[.bool s] w (PN w r) := by
  go_enter Tryz.func68, Tryz.ntmps68
  go_upto_region 1 with (fail)
  generalize hW1 : w.alloc _ = w1 at *; obtain ⟨XR, HB⟩ := Bo.en1 hW1; clear hW1; obtain ⟨xXR0, xXR1, xXR2, xXR3⟩ := XR.u4; have zXR0 := XR.frozen; go_wp2; clear xXR0 zXR0 xXR1 xXR2 xXR3; have SX := StN.mk4 XR (.int .i64 2) (.bool s) (.int .u64 0) (.int .i64 0); exact bodyPost_ret (v := .agg #[.int .i64 2, .bool s, .int .u64 0, .int .i64 0]) (by simp [results, Tryz.results68, go_sem, SX.box.cell]) rfl ⟨_, _, _, _, rfl, hr ▸ Fq.inf s, (SX.below HB.out (by omega))⟩
set_option maxHeartbeats 2000000 in
theorem ySign {w : World} {D M E : Int} {s : Bool} {σ : Int} (hM : M < 18446744073709551616) (hs : cmpI (rk D s M E) 0 = σ) : Calls Tryz.prog 65 #[.agg #[.int .i64 D, .bool s, .int .u64 M, .int .i64 E]] w (PI w σ) := by
  obtain ⟨r, hr⟩ : ∃ r, rk D s M E = r := ⟨_, rfl⟩; rw [hr] at hs; have HR := Lib.hid hr; have HS := Lib.hid hs; clear hr hs
  go_enter Tryz.func65, Tryz.ntmps65
  go_upto_region 1 with (fail)
  generalize hW1 : w.alloc _ = w1 at *; obtain ⟨X1, HB⟩ := Bo.en1 hW1; clear hW1; obtain ⟨xX10, xX11, xX12, xX13⟩ := X1.u4
  go_wp2_with fail
  refine (yTaken hM HR.out).mono ?_; rintro ee w2 ⟨K1, s1, M1, E1, rfl, q1, B⟩; clear xX10 xX11 xX12 xX13; replace X1 := X1.below B; replace HB := Lib.hid (bt HB.out B); clear B
  go_upto_region 2 with (fail)
  have lX3 := Nat.le_refl (World.heap w2).size; have nX3X1 := X1.lt; generalize hWn : w2.alloc _ = w3 at *; obtain ⟨X3, BW⟩ := Bo.nw hWn; clear hWn; replace X1 := X1.below BW; replace HB := Lib.hid (bt HB.out BW); clear BW
  rcases q1.three with ⟨h0, hr⟩ | ⟨h0, h1, hr⟩ | ⟨h0, h1, hr⟩
  · subst h0; have hs := HS.out; rw [cmpI_eq hr] at hs; subst hs; clear q1; obtain ⟨xX30, xX31, xX32, xX33⟩ := X3.u4; go_wp2
    go_ret
    exact ⟨by first | rfl | simp_all, HB.out⟩
  · have e0 : (K1 == 0) = false := by simpa using h0
    have hs := HS.out; rw [cmpI_gt hr] at hs; subst hs; subst h1; clear q1; obtain ⟨xX30, xX31, xX32, xX33⟩ := X3.u4; go_wp2
    go_ret
    exact ⟨by first | rfl | simp_all, HB.out⟩
  · have e0 : (K1 == 0) = false := by simpa using h0
    have hs := HS.out; rw [cmpI_lt hr] at hs; subst hs; subst h1; clear q1; obtain ⟨xX30, xX31, xX32, xX33⟩ := X3.u4; go_wp2
    go_ret
    exact ⟨by first | rfl | simp_all, HB.out⟩
set_option maxHeartbeats 2000000 in
theorem yNeg {w : World} {D M E : Int} {s : Bool} {r : Int} (hM : M < 18446744073709551616) (hr : -rk D s M E = r) : Calls Tryz.prog 52 #[.agg #[.int .i64 D, .bool s, .int .u64 M, .int .i64 E]] w (PN w r) := by
  obtain ⟨x, hx⟩ : ∃ x, rk D s M E = x := ⟨_, rfl⟩; rw [hx] at hr; have HX := Lib.hid hx; subst hr; clear hx
  go_enter Tryz.func52, Tryz.ntmps52
  go_upto_region 1 with (fail)
  generalize hW1 : (w.alloc _).alloc _ = w1 at *; obtain ⟨X1, XR, HB⟩ := Bo.en2 hW1; clear hW1; obtain ⟨xX10, xX11, xX12, xX13⟩ := X1.u4
  go_wp2_with fail
  refine (yTaken hM HX.out).mono ?_; rintro ee w2 ⟨K1, s1, M1, E1, rfl, q1, B⟩; clear xX10 xX11 xX12 xX13; replace X1 := X1.below B; replace XR := XR.below B; replace HB := Lib.hid (bt HB.out B); clear B
  go_upto_region 2 with (fail)
  have lX3 := Nat.le_refl (World.heap w2).size; have nX3X1 := X1.lt; have nX3XR := XR.lt; generalize hWn : w2.alloc _ = w3 at *; obtain ⟨X3, BW⟩ := Bo.nw hWn; clear hWn; replace X1 := X1.below BW; replace XR := XR.below BW; replace HB := Lib.hid (bt HB.out BW); clear BW
  by_cases h0 : K1 = 0
  · subst h0; have hz := q1.zero_iff.1 rfl; subst hz; obtain ⟨xXR0, xXR1, xXR2, xXR3⟩ := XR.u4; have zXR0 := XR.frozen; obtain ⟨xX30, xX31, xX32, xX33⟩ := X3.u4; go_wp2; clear xXR0 zXR0 xXR1 xXR2 xXR3 xX30 xX31 xX32 xX33; have SX := StN.mk4 XR (.int .i64 0) (.bool s1) (.int .u64 M1) (.int .i64 E1); exact bodyPost_ret (by simp [results, Tryz.results52, go_sem, SX.box.cell]) rfl ⟨_, _, _, _, rfl, q1, (SX.below HB.out (by omega))⟩
  · have e0 : (K1 == 0) = false := by simpa using h0
    have q2 := rk_neg q1 h0; obtain ⟨xX30, xX31, xX32, xX33⟩ := X3.u4; have zX30 := X3.frozen
    go_upto_region 4 with (fail)
    clear xX30 zX30 xX31 xX32 xX33
    have SX : StN w3 (World.setCell w3 ⟨w2.heap.size, 1, none⟩ (.bool (!s1))) _ _ #[.int .i64 K1, .bool (!s1), .int .u64 M1, .int .i64 E1] _ := StN.at4 X3 1 (.bool (!s1))
    replace X1 := X1.stn SX (by omega); replace XR := XR.stn SX (by omega); replace HB := Lib.hid (SX.below HB.out (by omega)); replace X3 := SX.box; clear SX; generalize World.setCell w3 ⟨w2.heap.size, 1, none⟩ (.bool (!s1)) = w4 at *; obtain ⟨xXR0, xXR1, xXR2, xXR3⟩ := XR.u4; have zXR0 := XR.frozen; obtain ⟨xX30, xX31, xX32, xX33⟩ := X3.u4; go_wp2; clear xXR0 zXR0 xXR1 xXR2 xXR3 xX30 xX31 xX32 xX33
    have SX := StN.mk4 XR (.int .i64 K1) (.bool (!s1)) (.int .u64 M1) (.int .i64 E1); exact bodyPost_ret (by simp [results, Tryz.results52, go_sem, SX.box.cell]) rfl ⟨_, _, _, _, rfl, q2, (SX.below HB.out (by omega))⟩
end Go.Proofs.YteejbcimmmcnlaaGreatDoor

/-
  What num.farther and Cmp do, and the document's Cmp.
-/
namespace Go.Proofs.YteejbcimmmcnlaaGreatDoor
open Go.RowKit
set_option linter.unusedVariables false
set_option linter.unusedSimpArgs false
set_option maxRecDepth 100000

theorem compare64_any (x y : Int) (w : World) : Calls Tryz.prog 130 #[.int .u64 x, .int .u64 y] w fun e w' => e = .returned (.int .i64 (cmpI x y)) ∧ w = w' := by
  go_enter Tryz.func130, Tryz.ntmps130
  go_wp2
  all_goals go_ret
  · exact ⟨ret_int (cmpI_lt (by assumption)).symm, rfl⟩
  · exact ⟨ret_int (cmpI_gt (by assumption)).symm, rfl⟩
  · exact ⟨ret_int (cmpI_eq (by omega)).symm, rfl⟩

theorem vCmpI {x y z : Int} (w : World) (h : cmpI x y = z) : Calls Tryz.prog 86 #[.int .i64 x, .int .i64 y] w (PI w z) := by
  subst h; refine (compareInt_any x y w).mono ?_; rintro e w' ⟨rfl, rfl⟩; exact ⟨rfl, Below.refl _ _⟩
theorem vCmpU {x y z : Int} (w : World) (h : cmpI x y = z) : Calls Tryz.prog 130 #[.int .u64 x, .int .u64 y] w (PI w z) := by
  subst h; refine (compare64_any x y w).mono ?_; rintro e w' ⟨rfl, rfl⟩; exact ⟨rfl, Below.refl _ _⟩
set_option maxHeartbeats 2000000 in
theorem nFar {w : World} {D D' M M' E E' : Int} {s s' : Bool} {r : Int} (hr : fa D M E D' M' E' = r) : Calls Tryz.prog 87 #[.agg #[.int .i64 D, .bool s, .int .u64 M, .int .i64 E], .agg #[.int .i64 D', .bool s', .int .u64 M', .int .i64 E']] w (PI w r) := by
  unfold fa at hr
  by_cases hk : D ≠ D'
  · rw [if_pos hk] at hr
    have e0 : (D == D') = false := by simpa using hk
    have HR := Lib.hid hr; clear hr hk
    go_enter Tryz.func87, Tryz.ntmps87
    go_upto_region 1 with (fail)
    generalize hW1 : (w.alloc _).alloc _ = w1 at *; obtain ⟨X1, X2, HB⟩ := Bo.en2 hW1; clear hW1; obtain ⟨xX10, xX11, xX12, xX13⟩ := X1.u4; obtain ⟨xX20, xX21, xX22, xX23⟩ := X2.u4
    go_wp2_with fail
    refine (vCmpI _ HR.out).mono ?_; rintro ee w2 ⟨rfl, B⟩; clear xX10 xX11 xX12 xX13 xX20 xX21 xX22 xX23; replace X1 := X1.below B; replace X2 := X2.below B; replace HB := Lib.hid (bt HB.out B); clear B; go_wp2
    go_ret
    exact ⟨rfl, HB.out⟩
  · rw [if_neg hk] at hr
    obtain rfl : D = D' := Decidable.not_not.1 hk
    clear hk
    by_cases he : E ≠ E'
    · rw [if_pos he] at hr
      have e0 : (E == E') = false := by simpa using he
      have HR := Lib.hid hr; clear hr he
      go_enter Tryz.func87, Tryz.ntmps87
      go_upto_region 1 with (fail)
      generalize hW1 : (w.alloc _).alloc _ = w1 at *; obtain ⟨X1, X2, HB⟩ := Bo.en2 hW1; clear hW1; obtain ⟨xX10, xX11, xX12, xX13⟩ := X1.u4; obtain ⟨xX20, xX21, xX22, xX23⟩ := X2.u4
      go_wp2_with fail
      refine (vCmpI _ HR.out).mono ?_; rintro ee w2 ⟨rfl, B⟩; clear xX10 xX11 xX12 xX13 xX20 xX21 xX22 xX23; replace X1 := X1.below B; replace X2 := X2.below B; replace HB := Lib.hid (bt HB.out B); clear B; go_wp2
      go_ret
      exact ⟨rfl, HB.out⟩
    · rw [if_neg he] at hr
      obtain rfl : E = E' := Decidable.not_not.1 he
      have HR := Lib.hid hr; clear hr he
      go_enter Tryz.func87, Tryz.ntmps87
      go_upto_region 1 with (fail)
      generalize hW1 : (w.alloc _).alloc _ = w1 at *; obtain ⟨X1, X2, HB⟩ := Bo.en2 hW1; clear hW1; obtain ⟨xX10, xX11, xX12, xX13⟩ := X1.u4; obtain ⟨xX20, xX21, xX22, xX23⟩ := X2.u4
      go_wp2_with fail
      refine (vCmpU _ HR.out).mono ?_; rintro ee w2 ⟨rfl, B⟩; clear xX10 xX11 xX12 xX13 xX20 xX21 xX22 xX23; replace X1 := X1.below B; replace X2 := X2.below B; replace HB := Lib.hid (bt HB.out B); clear B; go_wp2
      go_ret
      exact ⟨rfl, HB.out⟩
set_option maxHeartbeats 2000000 in
theorem nCmp {w : World} {D D' M M' E E' : Int} {s s' : Bool} {z : Int} (hM : M < 18446744073709551616) (hM' : M' < 18446744073709551616) (hz : cmpI (rk D s M E) (rk D' s' M' E') = z) : Calls Tryz.prog 42 #[.agg #[.int .i64 D, .bool s, .int .u64 M, .int .i64 E], .agg #[.int .i64 D', .bool s', .int .u64 M', .int .i64 E']] w (PI w z) := by
  have hs := cmp_sign (x := rk D s M E) (y := rk D' s' M' E'); have hf := cmp_far (K := D) (s := s) (E := E) (K' := D') (s' := s') (E' := E') hM hM'; have b1 := fa_bd D M E D' M' E'; have b2 := cmpI_bd (rk D s M E) 0
  revert hs hf b1 b2
  generalize hσ : cmpI (rk D s M E) 0 = σ; generalize hτ : cmpI (rk D' s' M' E') 0 = τ; generalize hφ : fa D M E D' M' E' = φ; rw [hz]
  intro hs hf b1 b2
  have HS := Lib.hid hσ; have HT := Lib.hid hτ; have HF := Lib.hid hφ; clear hσ hτ hφ hz
  by_cases he : σ ≠ τ
  · have e0 : (σ == τ) = false := by simpa using he
    have HZ := Lib.hid (hs he); clear hs hf he b1 b2
    go_enter Tryz.func42, Tryz.ntmps42
    go_upto_region 1 with (fail)
    generalize hW1 : (w.alloc _).alloc _ = w1 at *; obtain ⟨X1, X2, HB⟩ := Bo.en2 hW1; clear hW1; refine Jo.rk [0, 1, 2, 3, 4, 5] [some 7, some 8, some 9, some 10, some 5, some 6] [[], [0], [], [2], [1], [3]] 6 0 [Jo.q4 D s M E, Jo.qi σ, Jo.q4 D' s' M' E', Jo.qi τ, Jo.qi σ, Jo.qi τ] (by kernel_rfl) (by kernel_rfl) (by decide) rfl ?_ ?_
    · refine Jo.jm rfl ?_ ?_
      · rintro wj hJ K hK; simp only [Jo.z] at hK ⊢; obtain ⟨xX10, xX11, xX12, xX13⟩ := (X1.below hJ).u4; go_simp; exact hK.out _ _ rfl (br _ _)
      refine Jo.jm rfl ?_ ?_
      · rintro wj hJ _ rfl K hK; simp only [Jo.z] at hK ⊢; go_simp; refine (nSign hM HS.out).mono ?_; rintro ee wk ⟨rfl, B⟩; exact hK.out _ _ rfl B
      refine Jo.jm rfl ?_ ?_
      · rintro wj hJ K hK; simp only [Jo.z] at hK ⊢; obtain ⟨xX20, xX21, xX22, xX23⟩ := (X2.below hJ).u4; go_simp; exact hK.out _ _ rfl (br _ _)
      refine Jo.jm rfl ?_ ?_
      · rintro wj hJ _ rfl K hK; simp only [Jo.z] at hK ⊢; go_simp; refine (nSign hM' HT.out).mono ?_; rintro ee wk ⟨rfl, B⟩; exact hK.out _ _ rfl B
      refine Jo.jm rfl ?_ ?_
      · rintro wj hJ _ rfl K hK; simp only [Jo.z] at hK ⊢; go_simp; exact hK.out _ _ rfl (br _ _)
      refine Jo.jm rfl ?_ ?_
      · rintro wj hJ _ rfl K hK; simp only [Jo.z] at hK ⊢; go_simp; exact hK.out _ _ rfl (br _ _)
      exact Jo.Steps.nil
    rintro w2 hJ _ rfl _ rfl _ rfl _ rfl _ rfl _ rfl -; simp only [Jo.z]; replace X1 := X1.below hJ; replace X2 := X2.below hJ; replace HB := Lib.hid (bt HB.out hJ); refine Jo.jdone (by kernel_rfl) ?_
    go_wp2_with fail
    refine (vCmpI _ HZ.out).mono ?_; rintro ee w3 ⟨rfl, B⟩; replace X1 := X1.below B; replace X2 := X2.below B; replace HB := Lib.hid (bt HB.out B); clear B; go_wp2
    go_ret
    exact ⟨rfl, HB.out⟩
  · obtain rfl : σ = τ := Decidable.not_not.1 he
    have HZ := Lib.hid (hf rfl)
    have HW : Hid (IntKind.i64.wrap (σ * φ) = z) := Lib.hid (by
      rw [hf rfl]; refine IntWalk.i64_in _ ?_; rw [← hf rfl]
      rcases (show σ = -1 ∨ σ = 0 ∨ σ = 1 by omega) with h | h | h <;> rw [h] <;> omega)
    clear hs hf he b1 b2
    go_enter Tryz.func42, Tryz.ntmps42
    go_upto_region 1 with (fail)
    generalize hW1 : (w.alloc _).alloc _ = w1 at *; obtain ⟨X1, X2, HB⟩ := Bo.en2 hW1; clear hW1; refine Jo.rk [0, 1, 2, 3, 4, 5] [some 7, some 8, some 9, some 10, some 5, some 6] [[], [0], [], [2], [1], [3]] 6 0 [Jo.q4 D s M E, Jo.qi σ, Jo.q4 D' s' M' E', Jo.qi σ, Jo.qi σ, Jo.qi σ] (by kernel_rfl) (by kernel_rfl) (by decide) rfl ?_ ?_
    · refine Jo.jm rfl ?_ ?_
      · rintro wj hJ K hK; simp only [Jo.z] at hK ⊢; obtain ⟨xX10, xX11, xX12, xX13⟩ := (X1.below hJ).u4; go_simp; exact hK.out _ _ rfl (br _ _)
      refine Jo.jm rfl ?_ ?_
      · rintro wj hJ _ rfl K hK; simp only [Jo.z] at hK ⊢; go_simp; refine (nSign hM HS.out).mono ?_; rintro ee wk ⟨rfl, B⟩; exact hK.out _ _ rfl B
      refine Jo.jm rfl ?_ ?_
      · rintro wj hJ K hK; simp only [Jo.z] at hK ⊢; obtain ⟨xX20, xX21, xX22, xX23⟩ := (X2.below hJ).u4; go_simp; exact hK.out _ _ rfl (br _ _)
      refine Jo.jm rfl ?_ ?_
      · rintro wj hJ _ rfl K hK; simp only [Jo.z] at hK ⊢; go_simp; refine (nSign hM' HT.out).mono ?_; rintro ee wk ⟨rfl, B⟩; exact hK.out _ _ rfl B
      refine Jo.jm rfl ?_ ?_
      · rintro wj hJ _ rfl K hK; simp only [Jo.z] at hK ⊢; go_simp; exact hK.out _ _ rfl (br _ _)
      refine Jo.jm rfl ?_ ?_
      · rintro wj hJ _ rfl K hK; simp only [Jo.z] at hK ⊢; go_simp; exact hK.out _ _ rfl (br _ _)
      exact Jo.Steps.nil
    rintro w2 hJ _ rfl _ rfl _ rfl _ rfl _ rfl _ rfl -; simp only [Jo.z]; replace X1 := X1.below hJ; replace X2 := X2.below hJ; replace HB := Lib.hid (bt HB.out hJ); refine Jo.jdone (by kernel_rfl) ?_; obtain ⟨xX10, xX11, xX12, xX13⟩ := X1.u4; obtain ⟨xX20, xX21, xX22, xX23⟩ := X2.u4
    go_wp2_with fail
    refine (nFar HF.out).mono ?_; rintro ee w3 ⟨rfl, B⟩; clear xX10 xX11 xX12 xX13 xX20 xX21 xX22 xX23; replace X1 := X1.below B; replace X2 := X2.below B; replace HB := Lib.hid (bt HB.out B); clear B; have hw := HW.out; go_wp2
    go_ret
    exact ⟨rfl, HB.out⟩
set_option maxHeartbeats 4000000 in
theorem yCmp {w : World} {D D' M M' E E' : Int} {s s' : Bool} {z : Int} (hM : M < 18446744073709551616) (hM' : M' < 18446744073709551616) (hz : cmpI (rk D s M E) (rk D' s' M' E') = z) : Calls Tryz.prog 102 #[.agg #[.int .i64 D, .bool s, .int .u64 M, .int .i64 E], .agg #[.int .i64 D', .bool s', .int .u64 M', .int .i64 E']] w (PI w z) := by
  obtain ⟨r, hr⟩ : ∃ r, rk D s M E = r := ⟨_, rfl⟩; obtain ⟨r', hr'⟩ : ∃ r, rk D' s' M' E' = r := ⟨_, rfl⟩; rw [hr, hr'] at hz; have hs := cmp_sign (x := r) (y := r'); obtain ⟨σ, hσ⟩ : ∃ x, cmpI r 0 = x := ⟨_, rfl⟩; obtain ⟨τ, hτ⟩ : ∃ x, cmpI r' 0 = x := ⟨_, rfl⟩; rw [hσ, hτ, hz] at hs; have HS := Lib.hid hσ; have HT := Lib.hid hτ; have HR := Lib.hid hr
  have HR' := Lib.hid hr'
  have HZ := Lib.hid hz; have HQ := Lib.hid hs; clear hr hr' hσ hτ hz hs
  go_enter Tryz.func102, Tryz.ntmps102
  go_upto_region 1 with (fail)
  generalize hW1 : (w.alloc _).alloc _ = w1 at *; obtain ⟨X1, X2, HB⟩ := Bo.en2 hW1; clear hW1; obtain ⟨xX10, xX11, xX12, xX13⟩ := X1.u4
  go_wp2_with fail
  refine (yTaken hM HR.out).mono ?_; rintro ee w2 ⟨K1, s1, M1, E1, rfl, q1, B⟩; clear xX10 xX11 xX12 xX13; replace X1 := X1.below B; replace X2 := X2.below B; replace HB := Lib.hid (bt HB.out B); clear B
  go_upto_region 2 with (fail)
  have lX5 := Nat.le_refl (World.heap w2).size; have nX5X1 := X1.lt; have nX5X2 := X2.lt; generalize hWn : w2.alloc _ = w3 at *; obtain ⟨X5, BW⟩ := Bo.nw hWn; clear hWn; replace X1 := X1.below BW; replace X2 := X2.below BW; replace HB := Lib.hid (bt HB.out BW); clear BW; obtain ⟨xX20, xX21, xX22, xX23⟩ := X2.u4
  go_wp2_with fail
  refine (yTaken hM' HR'.out).mono ?_; rintro ee w4 ⟨K2, s2, M2, E2, rfl, q2, B⟩; clear xX20 xX21 xX22 xX23; replace X1 := X1.below B; replace X2 := X2.below B; replace X5 := X5.below B; replace HB := Lib.hid (bt HB.out B); clear B
  go_upto_region 3 with (fail)
  have lX6 := Nat.le_refl (World.heap w4).size; have nX6X1 := X1.lt; have nX6X2 := X2.lt; have nX6X5 := X5.lt; generalize hWn : w4.alloc _ = w5 at *; obtain ⟨X6, BW⟩ := Bo.nw hWn; clear hWn; replace X1 := X1.below BW; replace X2 := X2.below BW; replace X5 := X5.below BW; replace HB := Lib.hid (bt HB.out BW); clear BW; clear lX5 lX6; have hs1 := HS.out; rw [← q1.rk] at hs1; have hs2 := HT.out; rw [← q2.rk] at hs2
  have HS1 := Lib.hid hs1; have HS2 := Lib.hid hs2; clear hs1 hs2; obtain ⟨xX50, xX51, xX52, xX53⟩ := X5.u4
  go_wp2_with fail
  refine (ySign q1.top HS1.out).mono ?_; rintro ee w6 ⟨rfl, B⟩; clear xX50 xX51 xX52 xX53; replace X5 := X5.below B; replace X6 := X6.below B; replace HB := Lib.hid (bt HB.out B); clear B; obtain ⟨xX60, xX61, xX62, xX63⟩ := X6.u4
  go_wp2_with fail
  refine (ySign q2.top HS2.out).mono ?_; rintro ee w7 ⟨rfl, B⟩; clear xX60 xX61 xX62 xX63; replace X5 := X5.below B; replace X6 := X6.below B; replace HB := Lib.hid (bt HB.out B); clear B; clear HS1 HS2
  by_cases he : σ ≠ τ
  · have e0 : (σ == τ) = false := by simpa using he
    have h1 := HQ.out he
    rcases cmpI_tri σ τ with ⟨a1, a2⟩ | ⟨a1, a2⟩ | ⟨a1, a2⟩
    · obtain rfl : -1 = z := a2.symm.trans h1
      go_wp2
      go_ret
      exact ⟨rfl, HB.out⟩
    · exact absurd a1 he
    · obtain rfl : 1 = z := a2.symm.trans h1
      go_wp2
      go_ret
      exact ⟨rfl, HB.out⟩
  · obtain rfl : σ = τ := Decidable.not_not.1 he
    by_cases h0 : σ = 0
    · subst h0
      obtain rfl : 0 = z := by
        have h1 := cmpI_zero.1 HS.out; have h2 := cmpI_zero.1 HT.out; rw [← HZ.out, h1, h2]; rfl
      go_wp2
      go_ret
      exact ⟨rfl, HB.out⟩
    · have e0 : (σ == 0) = false := by simpa using h0
      have k1 : K1 ≠ 0 := fun e => h0 (by rw [← HS.out, q1.zero_iff.1 e]; rfl)
      have k2 : K2 ≠ 0 := fun e => h0 (by rw [← HT.out, q2.zero_iff.1 e]; rfl)
      have hst : s1 = s2 := by
        have e1 := q1.sign k1; have e2 := q2.sign k2; rw [HS.out] at e1; rw [HT.out, e1] at e2
        cases s1 <;> cases s2 <;> first | rfl | exact absurd e2 (by decide)
      subst hst; have hf := fa_fq q1 q2 k1 k2; rw [HS.out, HZ.out] at hf
      have hσ : σ = -1 ∨ σ = 1 := by
        have := cmpI_bd r 0
        rw [HS.out] at this
        omega
      by_cases hrr : r = r'
      · subst hrr; obtain ⟨rfl, -, rfl, rfl⟩ := q1.uniq q2
        obtain rfl : 0 = z := by rw [← HZ.out, cmpI_eq rfl]
        obtain ⟨xX50, xX51, xX52, xX53⟩ := X5.u4; obtain ⟨xX60, xX61, xX62, xX63⟩ := X6.u4; go_wp2
        go_ret
        exact ⟨rfl, HB.out⟩
      · have HW : Hid (IntKind.i64.wrap (-σ) = -σ) := Lib.hid (IntWalk.i64_in _ (by omega))
        clear hσ
        unfold fa at hf
        clear HS HT HQ HZ
        rcases q1.plc k1 with ⟨rfl, h1, h2, h3, h4, h5⟩ | ⟨rfl, rfl, rfl, h5⟩ <;> rcases q2.plc k2 with ⟨rfl, g1, g2, g3, g4, g5⟩ | ⟨rfl, rfl, rfl, g5⟩
        · rw [if_neg (by decide)] at hf; clear h1 h2 h3 h4 h5 g1 g2 g3 g4 g5
          rcases cmpI_tri E1 E2 with ⟨a1, a2⟩ | ⟨a1, a2⟩ | ⟨a1, a2⟩
          · rw [if_pos (by omega), a2] at hf
            have e2 : decide (E2 < E1) = false := decide_eq_false (by omega)
            have e3 : (E1 == E2) = false := by
              have : E1 ≠ E2 := by omega
              simpa using this
            obtain rfl : -σ = z := by omega
            have hw := HW.out; clear hf; obtain ⟨xX50, xX51, xX52, xX53⟩ := X5.u4; obtain ⟨xX60, xX61, xX62, xX63⟩ := X6.u4; go_wp2
            go_ret
            exact ⟨rfl, HB.out⟩
          · obtain rfl : E1 = E2 := a1
            rw [if_neg (by simp)] at hf
            rcases cmpI_tri M1 M2 with ⟨b1, b2⟩ | ⟨b1, b2⟩ | ⟨b1, b2⟩
            · rw [b2] at hf
              have e2 : decide (M2 < M1) = false := decide_eq_false (by omega)
              obtain rfl : -σ = z := by omega
              have hw := HW.out; clear hf; obtain ⟨xX50, xX51, xX52, xX53⟩ := X5.u4; obtain ⟨xX60, xX61, xX62, xX63⟩ := X6.u4; go_wp2
              go_ret
              exact ⟨rfl, HB.out⟩
            · exact absurd (q1.2.2.symm.trans (b1 ▸ q2.2.2)) hrr
            · rw [b2] at hf
              have e2 : decide (M2 < M1) = true := decide_eq_true b1
              rw [Int.mul_one] at hf; subst hf; obtain ⟨xX50, xX51, xX52, xX53⟩ := X5.u4; obtain ⟨xX60, xX61, xX62, xX63⟩ := X6.u4; go_wp2
              go_ret
              exact ⟨rfl, HB.out⟩
          · rw [if_pos (by omega), a2] at hf
            have e2 : decide (E2 < E1) = true := decide_eq_true a1
            rw [Int.mul_one] at hf; subst hf; obtain ⟨xX50, xX51, xX52, xX53⟩ := X5.u4; obtain ⟨xX60, xX61, xX62, xX63⟩ := X6.u4; go_wp2
            go_ret
            exact ⟨rfl, HB.out⟩
        · rw [if_pos (by decide), cmpI_lt (by decide)] at hf; clear h1 h2 h3 h4 h5 g5
          obtain rfl : -σ = z := by omega
          have hw := HW.out; clear hf; obtain ⟨xX50, xX51, xX52, xX53⟩ := X5.u4; obtain ⟨xX60, xX61, xX62, xX63⟩ := X6.u4; go_wp2
          go_ret
          exact ⟨rfl, HB.out⟩
        · rw [if_pos (by decide), cmpI_gt (by decide)] at hf; clear g1 g2 g3 g4 g5 h5; rw [Int.mul_one] at hf; subst hf; obtain ⟨xX50, xX51, xX52, xX53⟩ := X5.u4; obtain ⟨xX60, xX61, xX62, xX63⟩ := X6.u4; go_wp2
          go_ret
          exact ⟨rfl, HB.out⟩
        · exact absurd (q1.2.2.symm.trans q2.2.2) hrr
end Go.Proofs.YteejbcimmmcnlaaGreatDoor

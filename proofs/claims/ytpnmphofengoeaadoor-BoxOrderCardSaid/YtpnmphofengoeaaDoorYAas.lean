/-
  Contracts and words that the statement's proof rests on: Ck, Cl, Cd, Ce, Cf.
-/
import Derived.Test.YtpnmphofengoeaaDoorYAar
namespace Go.Proofs.YtpnmphofengoeaaDoor
open Go.RowKit
set_option linter.unusedVariables false

def lo1 : Sp → List Int
  | none => []
  | some (a, _) => [a]
def hi1 : Sp → List Int
  | none => []
  | some (_, b) => [b]
def lowL : List Sp → List Int
  | [] => []
  | x :: l => lo1 x ++ lowL l
def highL : List Sp → List Int
  | [] => []
  | x :: l => hi1 x ++ highL l
theorem lowL_append : ∀ (l m : List Sp), lowL (l ++ m) = lowL l ++ lowL m
  | [], m => rfl
  | x :: l, m => by
    show lo1 x ++ lowL (l ++ m) = (lo1 x ++ lowL l) ++ lowL m
    rw [lowL_append l m, List.append_assoc]
theorem highL_append : ∀ (l m : List Sp), highL (l ++ m) = highL l ++ highL m
  | [], m => rfl
  | x :: l, m => by
    show hi1 x ++ highL (l ++ m) = (hi1 x ++ highL l) ++ highL m
    rw [highL_append l m, List.append_assoc]
theorem lowL_take {l : List Sp} {k : Nat} (h : k < l.length) : lowL (l.take (k + 1)) = lowL (l.take k) ++ lo1 (l.getD k none) := by
  rw [List.take_succ_eq_append_getElem h, lowL_append, List.getD_eq_getElem?_getD, List.getElem?_eq_getElem h]; exact congrArg _ (List.append_nil _)
theorem highL_take {l : List Sp} {k : Nat} (h : k < l.length) : highL (l.take (k + 1)) = highL (l.take k) ++ hi1 (l.getD k none) := by
  rw [List.take_succ_eq_append_getElem h, highL_append, List.getD_eq_getElem?_getD, List.getElem?_eq_getElem h]; exact congrArg _ (List.append_nil _)
theorem len_lo : ∀ l : List Sp, (lowL l).length ≤ l.length
  | [] => Nat.le_refl _
  | none :: l => Nat.le_succ_of_le (len_lo l)
  | some (a, b) :: l => Nat.succ_le_succ (len_lo l)
theorem meetI_mk (A B a b : Int) : meetI (mkI A B) (some (a, b)) = mkI (max A a) (min B b) := by
  by_cases h : A ≤ B ∧ A < 19342822337206103650074625 ∧ -19342822337206103650074625 < B
  · rw [mkI_some h.1 h.2.1 h.2.2]
    rfl
  · rw [mkI_none h, mkI_none (fun c => h (by omega))]
    rfl
theorem meet_fold : ∀ (l : List Sp) (A B : Int), (lowL l).length = l.length → l.foldl meetI (mkI A B) = mkI ((lowL l).foldl max A) ((highL l).foldl min B)
  | [], A, B, _ => rfl
  | none :: l, A, B, h => by
    have h1 : (lowL l).length = l.length + 1 := h
    have h2 := len_lo l
    omega
  | some (a, b) :: l, A, B, h => by
    show l.foldl meetI (meetI (mkI A B) (some (a, b))) = _
    rw [meetI_mk]; exact meet_fold l (max A a) (min B b) (Nat.succ_inj.1 h)
theorem meet_some {l : List Sp} (h : (lowL l).length = l.length) : meetL l = mkI (mxp (lowL l)) (mnp (highL l)) := by
  have e : allI = mkI (-19342822337206103650074625) 19342822337206103650074625 := (mkI_some (by omega) (by omega) (by omega)).symm
  unfold meetL mxp mnp
  rw [e, TP_eq]; exact meet_fold l _ _ h
theorem meet_gone : ∀ (l : List Sp) (x : Sp), (lowL l).length < l.length → l.foldl meetI x = none
  | [], x, h => absurd h (Nat.lt_irrefl _)
  | none :: l, x, h => by
    show l.foldl meetI (meetI x none) = none
    rw [meetI_none]; exact meet_stuck l
  | some (a, b) :: l, x, h => meet_gone l _ (Nat.lt_of_succ_lt_succ h)
theorem meet_no {l : List Sp} (h : (lowL l).length < l.length) : meetL l = none := meet_gone l allI h
theorem hullI_mk {A B a b : Int} (h : A = 19342822337206103650074625 ∧ B = -19342822337206103650074625 ∨ A ≤ B ∧ A < 19342822337206103650074625 ∧ -19342822337206103650074625 < B) (k : SpOk (some (a, b))) :
    hullI (mkI A B) (some (a, b)) = mkI (min A a) (max B b) ∧ (min A a ≤ max B b ∧ min A a < 19342822337206103650074625 ∧ -19342822337206103650074625 < max B b) := by
  obtain ⟨k1, k2, k3, k4, k5⟩ := k; refine ⟨?_, by omega, by omega, by omega⟩
  rcases h with ⟨rfl, rfl⟩ | ⟨h1, h2, h3⟩
  · rw [mkI_none (by omega), mkI_some (by omega) (by omega) (by omega)]
    have e1 : min 19342822337206103650074625 a = a := by omega
    have e2 : max (-19342822337206103650074625) b = b := by omega
    rw [e1, e2]
    rfl
  · rw [mkI_some h1 h2 h3]
    rfl
theorem hull_fold : ∀ (l : List Sp) (A B : Int), (A = 19342822337206103650074625 ∧ B = -19342822337206103650074625 ∨ A ≤ B ∧ A < 19342822337206103650074625 ∧ -19342822337206103650074625 < B) → (∀ y ∈ l, SpOk y) → l.foldl hullI (mkI A B) = mkI ((lowL l).foldl min A) ((highL l).foldl max B)
  | [], A, B, _, _ => rfl
  | none :: l, A, B, h, k => by
    show l.foldl hullI (hullI (mkI A B) none) = _
    rw [hullI_none]
    exact hull_fold l A B h (fun y hy => k y (List.mem_cons_of_mem _ hy))
  | some (a, b) :: l, A, B, h, k => by
    obtain ⟨e, g⟩ := hullI_mk h (k _ (List.mem_cons_self ..))
    show l.foldl hullI (hullI (mkI A B) (some (a, b))) = _
    rw [e]
    exact hull_fold l _ _ (.inr g) (fun y hy => k y (List.mem_cons_of_mem _ hy))
theorem hull_ends {l : List Sp} (h : ∀ y ∈ l, SpOk y) : hullL l = mkI (mnp (lowL l)) (mxp (highL l)) := by
  have e : (none : Sp) = mkI 19342822337206103650074625 (-19342822337206103650074625) := (mkI_none (by omega)).symm
  unfold hullL mxp mnp
  rw [e, TP_eq]; exact hull_fold l _ _ (.inl ⟨rfl, rfl⟩) h
theorem clp_min {m a b : Int} (h : a ≤ b) : min (max m a) b = clp m a b := by
  unfold clp
  split
  · omega
  · split <;> omega
def nrow : List (Int × Bool × Int × Int) → List Value
  | [] => []
  | (K, s, M, E) :: l => .int .i64 K :: .bool s :: .int .u64 M :: .int .i64 E :: nrow l
theorem nrow_append : ∀ l m, nrow (l ++ m) = nrow l ++ nrow m
  | [], m => rfl
  | (K, s, M, E) :: l, m => by
    show _ :: _ :: _ :: _ :: nrow (l ++ m) = _
    rw [nrow_append l m]
    rfl
theorem nrow_len : ∀ l, (nrow l).length = l.length * 4
  | [] => rfl
  | (K, s, M, E) :: l => by
    show (nrow l).length + 4 = (l.length + 1) * 4
    rw [nrow_len l]
    omega
theorem nrow_at : ∀ (l : List (Int × Bool × Int × Int)) (k : Nat) (K : Int) (s : Bool) (M E : Int), l[k]? = some (K, s, M, E) → (nrow l)[k * 4]? = some (.int .i64 K) ∧ (nrow l)[k * 4 + 1]? = some (.bool s) ∧ (nrow l)[k * 4 + 2]? = some (.int .u64 M) ∧ (nrow l)[k * 4 + 3]? = some (.int .i64 E)
  | [], k, _, _, _, _, h => by cases h
  | (K, s, M, E) :: l, 0, _, _, _, _, h => by
    cases h
    exact ⟨rfl, rfl, rfl, rfl⟩
  | (K, s, M, E) :: l, k + 1, K2, s2, M2, E2, h => by
    have := nrow_at l k K2 s2 M2 E2 h
    have e : (k + 1) * 4 = k * 4 + 4 := by omega
    rw [e]; exact this
def Na (w : World) (base : Nat) (A : Option Addr) (n c : Nat) (l : List Int) : Prop :=
  ∃ r : List (Int × Bool × Int × Int), w.ownsRow base 38 4 (.slice A n c) n (nrow r) ∧ r.length = n ∧ l.length = n ∧ ∀ k, k < n → ∃ K s M E, r[k]? = some (K, s, M, E) ∧ Fq K s M E (l.getD k 0)
theorem Na.nil (w : World) (base : Nat) : Na w base none 0 0 [] := ⟨[], World.ownsRow_nil w base _ 4, rfl, rfl, fun k h => absurd h (Nat.not_lt_zero _)⟩
theorem Na.len {w : World} {base n c : Nat} {A : Option Addr} {l : List Int} (h : Na w base A n c l) : l.length = n := by
  obtain ⟨_, _, _, h, _⟩ := h; exact h
theorem Na.below {w w' : World} {base n c : Nat} {A : Option Addr} {l : List Int} (h : Na w base A n c l) (hb : Below w.heap.size w w') : Na w' base A n c l := by
  obtain ⟨r, h1, h2⟩ := h; refine ⟨r, ⟨h1.1, ?_⟩, h2⟩
  rcases h1.2 with h3 | ⟨g, cap, cur, hv, hg, hh, q⟩
  · exact .inl h3
  · refine .inr ⟨g, cap, cur, hv, hg, ?_, q⟩; rw [hb.block g (Array.getElem?_eq_some_iff.1 hh).1]; exact hh
theorem Na.nl {w : World} {base n c : Nat} {A : Option Addr} {l : List Int} (h : Na w base A n c l) (hn : n ≤ 1099511627776) : Nl w A n c l := by
  obtain ⟨r, h1, h2, h3, h4⟩ := h
  rcases h1.2 with ⟨e1, e2⟩ | ⟨g, cap, cur, hv, hg, hh, hc, hm, hs, ht⟩
  · injection e1 with a1 a2 a3
    subst a1; subst a2; subst a3
    exact ⟨h3, Nat.le_refl _, by omega, fun h => absurd h (Nat.lt_irrefl _)⟩
  · injection hv with a1 a2 a3
    subst a1; subst a3
    refine ⟨h3, hc, hn, fun _ => ⟨g, 0, rfl, fun k hk => ?_⟩⟩
    obtain ⟨K, s, M, E, hr, q⟩ := h4 k hk; obtain ⟨c0, c1, c2, c3⟩ := nrow_at r k K s M E hr
    have cell : ∀ j v, (nrow r)[j]? = some v → w.cell? ⟨g, 0 + j, none⟩ = some v := by
      intro j v hv
      rw [cell_of_row w g (0 + j) _ _ (0, 0) hh, Nat.zero_add, ← Array.getElem?_toList]; rw [← ht, List.getElem?_take] at hv
      split at hv
      · exact hv
      · cases hv
    exact ⟨K, s, M, E, cell _ _ c0, by rw [Nat.add_assoc]; exact cell _ _ c1, by rw [Nat.add_assoc]; exact cell _ _ c2, by rw [Nat.add_assoc]; exact cell _ _ c3, q.top, q.rk⟩
end Go.Proofs.YtpnmphofengoeaaDoor

namespace Go.Proofs.YtpnmphofengoeaaDoor
open Go.RowKit
set_option linter.unusedVariables false
set_option maxRecDepth 100000

theorem infoNum : (Tryd.prog.info? 38).map (fun i => (i.zero, i.size, i.bytes)) = some (some (.agg #[.int .i64 0, .bool false, .int .u64 0, .int .i64 0]), 4, 32) := by kernel_rfl
section
variable {w w' : World} {base n c : Nat} {A : Option Addr} {l : List Int}
def ownA (A : Option Addr) : Option Nat := A.map (·.block)
theorem own_eq (A : Option Addr) (n c : Nat) : (Value.slice A n c).ownBlock = ownA A := by cases A <;> rfl
theorem Na.kept {row : Option Nat} (h : Na w base A n c l) (hg : w.grownBy w' row) (hne : ownA A = none ∨ ownA A ≠ row) : Na w' base A n c l := by
  obtain ⟨r, h1, h2⟩ := h; exact ⟨r, h1.kept hg (by rw [own_eq]; exact hne), h2⟩
theorem Na.own_lt (h : Na w base A n c l) : ∀ k, ownA A = some k → base ≤ k ∧ k < w.heap.size := by
  obtain ⟨r, h1, h2⟩ := h
  intro k hk
  exact h1.lt k (by rw [own_eq]; exact hk)
theorem run_na {ty : TypeId} {g : Nat} {K M E a : Int} {s : Bool} (h : Na w base A n c l) (q : Fq K s M E a) (X : Bo w g #[.int .i64 K, .bool s, .int .u64 M, .int .i64 E] 38) (hn : n + 1 ≤ 1099511627776) (hb : base ≤ w.heap.size) :
    ∃ A2 c2 w', (Builtin.append_ #[23, 23] ty #[.slice A n c, .slice (some ⟨g, 0, none⟩) 1 1]).run Tryd.prog w = .ok (.slice A2 (n + 1) c2) w' ∧ Na w' base A2 (n + 1) c2 (l ++ [a]) ∧ w.grownBy w' (ownA A) ∧ (ownA A2 = ownA A ∨ ownA A2 = some w.heap.size) := by
  obtain ⟨i, hi, hz, hsi, hby⟩ := info_parts infoNum; obtain ⟨r, h1, h2, h3, h4⟩ := h
  obtain ⟨v', w', hr, ho, hg, _, hat⟩ := run_append_own_at (P := Tryd.prog) w base 23 ty 38 i _ 4 32 Tryd.underlying23 hi hz hsi hby rfl (by decide) _ n (nrow r) h1 ⟨g, 0, none⟩ 1 1 (nrow [(K, s, M, E)]) rfl (by
    intro j u hj
    have hc := X.cell
    rcases j with _ | _ | _ | _ | j
    · cases hj
      exact hc 0
    · cases hj
      exact hc 1
    · cases hj
      exact hc 2
    · cases hj
      exact hc 3
    · cases hj) (by
    intro u hu
    simp only [nrow, List.mem_cons, List.not_mem_nil, or_false] at hu
    rcases hu with rfl | rfl | rfl | rfl <;> rfl) (by unfold maxLen; omega) (by omega) hb
  rw [own_eq] at hg hat; rw [← nrow_append] at ho
  obtain ⟨A2, c2, rfl⟩ : ∃ A2 c2, v' = .slice A2 (n + 1) c2 := by
    rcases ho.2 with ⟨_, h0⟩ | ⟨g', cap', cur', hv, _⟩
    · omega
    · exact ⟨_, _, hv⟩
  rw [own_eq] at hat
  refine ⟨A2, c2, w', hr, ⟨_, ho, by rw [List.length_append, h2]; rfl, by rw [List.length_append, h3]; rfl, fun k hk => ?_⟩, hg, hat⟩
  by_cases hkn : k < n
  · obtain ⟨K1, s1, M1, E1, hq, qq⟩ := h4 k hkn; refine ⟨K1, s1, M1, E1, by rw [List.getElem?_append_left (by omega)]; exact hq, ?_⟩
    rw [List.getD_eq_getElem?_getD, List.getElem?_append_left (by omega), ← List.getD_eq_getElem?_getD]; exact qq
  · obtain rfl : k = n := by omega
    refine ⟨K, s, M, E, by rw [List.getElem?_append_right (by omega), h2]; simp, ?_⟩
    rw [List.getD_eq_getElem?_getD, List.getElem?_append_right (by omega), h3]
    simpa using q
theorem wpList_na {ops : Array Oper} {rest : List Oper} {o : Oper} {a : Act} {Q : Exit → Act → World → Prop} (hgd : o.guard = none) (s x : Operand)
    (ho : o.op = .call { callee := .builtin .append, args := #[s, x], argTypes := #[23, 23] }) {g : Nat} {K M E p : Int} {b : Bool}
    (hs : a.eval s = .slice A n c) (hx : a.eval x = .slice (some ⟨g, 0, none⟩) 1 1) (h : Na w base A n c l) (q : Fq K b M E p) (X : Bo w g #[.int .i64 K, .bool b, .int .u64 M, .int .i64 E] 38) (hn : n + 1 ≤ 1099511627776) (hb : base ≤ w.heap.size)
    (hK : ∀ A2 c2 w', Na w' base A2 (n + 1) c2 (l ++ [p]) → w.grownBy w' (ownA A) → (ownA A2 = ownA A ∨ ownA A2 = some w.heap.size) → wpList Tryd.prog ops Q rest (a.put o.dst (.slice A2 (n + 1) c2)) w') : wpList Tryd.prog ops Q (o :: rest) a w := by
  refine wpList_plain hgd fun K hK2 => ?_
  obtain ⟨A2, c2, w', hr, h1, h2, h3⟩ := run_na (ty := o.type) h q X hn hb
  unfold Oper.wp execOp
  simp only [ho, resolve, invoke, builtin, Sem.run_bind, Sem.run_pure, Result.andThen_ok, List.map_toArray, List.map_cons, List.map_nil, hs, hx, hr]; exact hK2 _ _ (hK A2 c2 w' h1 h2 h3)
end
end Go.Proofs.YtpnmphofengoeaaDoor

namespace Go.Proofs.YtpnmphofengoeaaDoor
set_option maxHeartbeats 2000000
open Go.RowKit
set_option linter.unusedVariables false
set_option linter.unusedSimpArgs false
set_option maxRecDepth 100000

theorem fq_inf2 (s : Bool) : Fq 2 s 0 0 (sgi s TP) := ⟨.inr (.inr ⟨rfl, rfl, rfl⟩), by decide, by
  cases s <;> rfl⟩
theorem ci_all : Ci false 2 true 0 0 2 false 0 0 allI := ⟨rfl, fq_inf2 true, fq_inf2 false, by decide, by decide, by decide⟩
theorem yInfE {w : World} (s : Bool) : Calls Tryd.prog 77 #[.bool s] w (fun e w' => e = .returned (.agg #[.int .i64 2, .bool s, .int .u64 0, .int .i64 0]) ∧ Below w.heap.size w w') := by
  refine (yInf (s := s) rfl).mono ?_; rintro ee w2 ⟨K, s1, M, E, rfl, q, B⟩; obtain ⟨rfl, rfl, rfl, rfl⟩ := q.uniq (fq_inf2 s); exact ⟨rfl, B⟩
theorem jvNone {w : World}  : Calls Tryd.prog 34 #[] w (PV w none) := by
  go_enter Tryd.func34, Tryd.ntmps34
  go_upto_region 1 with (fail)
  generalize hW1 : w.alloc _ = w1 at *; obtain ⟨XR, HB⟩ := Bo.en1 hW1; clear hW1; have xXR := XR.cell; have zXR0 := XR.frozen; go_wp2; clear xXR zXR0; have SX := StN.mk9 XR (.bool true) (.int .i64 0) (.bool false) (.int .u64 0) (.int .i64 0) (.int .i64 0) (.bool false) (.int .u64 0) (.int .i64 0); exact bodyPost_ret (by simp [results, Tryd.results34, go_sem, SX.box.cell]) rfl ⟨_, _, _, _, _, _, _, _, _, rfl, Ci.none, (SX.below HB.out (by omega))⟩
theorem jvNoneE {w : World} : Calls Tryd.prog 34 #[] w (fun e w' => e = .returned (.agg #[.bool true, .int .i64 0, .bool false, .int .u64 0, .int .i64 0, .int .i64 0, .bool false, .int .u64 0, .int .i64 0]) ∧ Below w.heap.size w w') := by
  refine jvNone.mono ?_; rintro ee w2 ⟨e1, K1, s1, M1, E1, K1b, s1b, M1b, E1b, rfl, v1, B⟩; obtain ⟨rfl, rfl, rfl, rfl, rfl, rfl, rfl, rfl, rfl⟩ := v1.uniq Ci.none; exact ⟨rfl, B⟩
theorem jvmay_t {w : World} {D M E D' M' E' : Int} {s s' : Bool} {r : Bool} (hr : mayI true D s M E D' s' M' E' = r) : Calls Tryd.prog 62 #[.agg #[.bool true, .int .i64 D, .bool s, .int .u64 M, .int .i64 E, .int .i64 D', .bool s', .int .u64 M', .int .i64 E']] w (PB w r) := by
  have HR := Lib.hid hr; clear hr
  go_enter Tryd.func62, Tryd.ntmps62
  go_upto_region 1 with (fail)
  generalize hW1 : w.alloc _ = w1 at *; obtain ⟨X1, HB⟩ := Bo.en1 hW1; clear hW1; have xX1 := X1.cell
  go_upto_region 2 with (fail)
  clear xX1; refine Jo.rk [0, 1, 2, 3] [some 7, some 8, some 9, some 2] [[], [], [0, 1], [2]] 4 0 [Jo.q9 true D s M E D' s' M' E', Jo.q9 true 0 false 0 0 0 false 0 0, Jo.qb r, Jo.qb r] (by kernel_rfl) (by kernel_rfl) (by decide) rfl ?_ ?_
  · refine Jo.jm rfl ?_ ?_; rotate_left
    refine Jo.jm rfl ?_ ?_
    · rintro wj hJ K hK; simp only [Jo.z] at hK ⊢; go_simp; refine (jvNoneE).mono ?_; rintro ee wk ⟨rfl, B⟩; exact hK.out _ _ rfl B
    refine Jo.jm rfl ?_ ?_
    · rintro wj hJ _ rfl _ rfl K hK; simp only [Jo.z] at hK ⊢; go_simp
      repeat' split
      all_goals exact hK.out _ _ (congrArg Value.bool (by rw [← HR.out]; unfold mayI; simp [*])) (br _ _)
    refine Jo.jm rfl ?_ ?_; rotate_left
    exact Jo.Steps.nil
    all_goals (rintro wj hJ; (repeat rintro _ rfl); intro K hK; simp only [Jo.z] at hK ⊢; have xX1 := (X1.below hJ).cell; go_simp; exact hK.out _ _ rfl (br _ _))
  rintro w8 hJ _ rfl _ rfl _ rfl _ rfl -; simp only [Jo.z]; replace X1 := X1.below hJ; replace HB := Hqb HB hJ; refine Jo.jdone (by kernel_rfl) ?_; go_wp2
  go_ret
  exact ⟨rfl, HB.out⟩
theorem jvmay_fp {w : World} {D M E D' M' E' : Int} {s s' : Bool} (hM : (M : Int) < 18446744073709551616) (hM' : (M' : Int) < 18446744073709551616) (hp : decide (MayQ D s M E) = false) {q : Bool} (hq : decide (MayQ D' s' M' E') = q) : Calls Tryd.prog 62 #[.agg #[.bool false, .int .i64 D, .bool s, .int .u64 M, .int .i64 E, .int .i64 D', .bool s', .int .u64 M', .int .i64 E']] w (PB w false) := by
  have HP := Lib.hid hp; have HQ := Lib.hid hq; clear hp hq
  go_enter Tryd.func62, Tryd.ntmps62
  go_upto_region 1 with (fail)
  generalize hW1 : w.alloc _ = w1 at *; obtain ⟨X1, HB⟩ := Bo.en1 hW1; clear hW1; have xX1 := X1.cell
  go_wp2_with fail
  refine (yMay HP.out).mono ?_; rintro ee w2 ⟨rfl, B⟩; clear xX1; replace X1 := X1.below B; replace HB := Hqb HB B; clear B; have xX1 := X1.cell
  go_wp2_with fail
  refine (yMay HQ.out).mono ?_; rintro ee w3 ⟨rfl, B⟩; clear xX1; replace X1 := X1.below B; replace HB := Hqb HB B; clear B; have xX1 := X1.cell
  go_upto_region 5 with (fail)
  clear xX1; refine Jo.rk [0, 1, 2, 3, 4, 5, 6, 7, 8, 9, 10, 11, 12, 13, 14, 15, 16, 17, 18, 19, 20, 21, 22, 23, 24] [some 16, some 17, some 18, some 19, some 20, some 21, some 22, some 23, some 24, some 25, some 26, some 27, some 28, some 29, some 30, some 31, some 32, some 33, some 34, some 35, some 36, some 37, some 38, some 39, some 2] [[], [0], [1], [1, 2], [3], [4], [4, 5], [4], [4, 7], [4, 6, 8], [4, 9], [4, 10], [11], [12], [12, 13], [12], [12, 14, 15], [12, 16], [17], [18], [18, 19], [18], [18, 20, 21], [18, 22], [23]] 25 0 [Jo.qb false, Jo.qb false, Jo.qu, Jo.qb false, Jo.qb false, Jo.qu, Jo.qu, Jo.qu, Jo.qu, Jo.qu, Jo.qu, Jo.qb false, Jo.qb false, Jo.qu, Jo.qu, Jo.qu, Jo.qu, Jo.qb false, Jo.qb false, Jo.qu, Jo.qu, Jo.qu, Jo.qu, Jo.qb false, Jo.qb false] (by kernel_rfl) (by kernel_rfl) (by decide) rfl ?_ ?_
  · iterate 25 (refine Jo.jm rfl ?_ ?_; rotate_left)
    exact Jo.Steps.nil
    all_goals (rintro wj hJ; (repeat rintro _ rfl); intro K hK; simp only [Jo.z] at hK ⊢; go_simp; exact hK.out _ _ rfl (br _ _))
  rintro w8 hJ _ rfl _ rfl _ rfl _ rfl _ rfl _ rfl _ rfl _ rfl _ rfl _ rfl _ rfl _ rfl _ rfl _ rfl _ rfl _ rfl _ rfl _ rfl _ rfl _ rfl _ rfl _ rfl _ rfl _ rfl _ rfl -; simp only [Jo.z]; replace X1 := X1.below hJ; replace HB := Hqb HB hJ; refine Jo.jdone (by kernel_rfl) ?_; go_wp2
  go_ret
  exact ⟨rfl, HB.out⟩
theorem jvmay_fq {w : World} {D M E D' M' E' : Int} {s s' : Bool} (hM : (M : Int) < 18446744073709551616) (hM' : (M' : Int) < 18446744073709551616) (hp : decide (MayQ D s M E) = true) (hq : decide (MayQ D' s' M' E') = false) : Calls Tryd.prog 62 #[.agg #[.bool false, .int .i64 D, .bool s, .int .u64 M, .int .i64 E, .int .i64 D', .bool s', .int .u64 M', .int .i64 E']] w (PB w false) := by
  have HP := Lib.hid hp; have HQ := Lib.hid hq; clear hp hq
  go_enter Tryd.func62, Tryd.ntmps62
  go_upto_region 1 with (fail)
  generalize hW1 : w.alloc _ = w1 at *; obtain ⟨X1, HB⟩ := Bo.en1 hW1; clear hW1; have xX1 := X1.cell
  go_wp2_with fail
  refine (yMay HP.out).mono ?_; rintro ee w2 ⟨rfl, B⟩; clear xX1; replace X1 := X1.below B; replace HB := Hqb HB B; clear B; have xX1 := X1.cell
  go_wp2_with fail
  refine (yMay HQ.out).mono ?_; rintro ee w3 ⟨rfl, B⟩; clear xX1; replace X1 := X1.below B; replace HB := Hqb HB B; clear B; have xX1 := X1.cell
  go_upto_region 5 with (fail)
  clear xX1; refine Jo.rk [0, 1, 2, 3, 4, 5, 6, 7, 8, 9, 10, 11, 12, 13, 14, 15, 16, 17, 18, 19, 20, 21, 22, 23, 24] [some 16, some 17, some 18, some 19, some 20, some 21, some 22, some 23, some 24, some 25, some 26, some 27, some 28, some 29, some 30, some 31, some 32, some 33, some 34, some 35, some 36, some 37, some 38, some 39, some 2] [[], [0], [1], [1, 2], [3], [4], [4, 5], [4], [4, 7], [4, 6, 8], [4, 9], [4, 10], [11], [12], [12, 13], [12], [12, 14, 15], [12, 16], [17], [18], [18, 19], [18], [18, 20, 21], [18, 22], [23]] 25 0 [Jo.qb true, Jo.qb true, Jo.qb false, Jo.qb false, Jo.qb false, Jo.qu, Jo.qu, Jo.qu, Jo.qu, Jo.qu, Jo.qu, Jo.qb false, Jo.qb false, Jo.qu, Jo.qu, Jo.qu, Jo.qu, Jo.qb false, Jo.qb false, Jo.qu, Jo.qu, Jo.qu, Jo.qu, Jo.qb false, Jo.qb false] (by kernel_rfl) (by kernel_rfl) (by decide) rfl ?_ ?_
  · iterate 25 (refine Jo.jm rfl ?_ ?_; rotate_left)
    exact Jo.Steps.nil
    all_goals (rintro wj hJ; (repeat rintro _ rfl); intro K hK; simp only [Jo.z] at hK ⊢; go_simp; exact hK.out _ _ rfl (br _ _))
  rintro w8 hJ _ rfl _ rfl _ rfl _ rfl _ rfl _ rfl _ rfl _ rfl _ rfl _ rfl _ rfl _ rfl _ rfl _ rfl _ rfl _ rfl _ rfl _ rfl _ rfl _ rfl _ rfl _ rfl _ rfl _ rfl _ rfl -; simp only [Jo.z]; replace X1 := X1.below hJ; replace HB := Hqb HB hJ; refine Jo.jdone (by kernel_rfl) ?_; go_wp2
  go_ret
  exact ⟨rfl, HB.out⟩
theorem jvmay_fc {w : World} {D M E D' M' E' c : Int} {s s' : Bool} (hM : (M : Int) < 18446744073709551616) (hM' : (M' : Int) < 18446744073709551616) (hp : decide (MayQ D s M E) = true) (hq : decide (MayQ D' s' M' E') = true) (hc : cmpI (rk D s M E) (rk D' s' M' E') = c) (hc0 : decide (c ≤ 0) = false) : Calls Tryd.prog 62 #[.agg #[.bool false, .int .i64 D, .bool s, .int .u64 M, .int .i64 E, .int .i64 D', .bool s', .int .u64 M', .int .i64 E']] w (PB w false) := by
  have HP := Lib.hid hp; have HQ := Lib.hid hq; have HC := Lib.hid hc; have HC0 := Lib.hid hc0; clear hp hq hc hc0
  go_enter Tryd.func62, Tryd.ntmps62
  go_upto_region 1 with (fail)
  generalize hW1 : w.alloc _ = w1 at *; obtain ⟨X1, HB⟩ := Bo.en1 hW1; clear hW1; have xX1 := X1.cell
  go_wp2_with fail
  refine (yMay HP.out).mono ?_; rintro ee w2 ⟨rfl, B⟩; clear xX1; replace X1 := X1.below B; replace HB := Hqb HB B; clear B; have xX1 := X1.cell
  go_wp2_with fail
  refine (yMay HQ.out).mono ?_; rintro ee w3 ⟨rfl, B⟩; clear xX1; replace X1 := X1.below B; replace HB := Hqb HB B; clear B; have xX1 := X1.cell
  go_upto_region 5 with (fail)
  clear xX1; refine Jo.rk [0, 1, 2, 3, 4, 5, 6, 7, 8, 9, 10, 11, 12, 13, 14, 15, 16, 17, 18, 19, 20, 21, 22, 23, 24] [some 16, some 17, some 18, some 19, some 20, some 21, some 22, some 23, some 24, some 25, some 26, some 27, some 28, some 29, some 30, some 31, some 32, some 33, some 34, some 35, some 36, some 37, some 38, some 39, some 2] [[], [0], [1], [1, 2], [3], [4], [4, 5], [4], [4, 7], [4, 6, 8], [4, 9], [4, 10], [11], [12], [12, 13], [12], [12, 14, 15], [12, 16], [17], [18], [18, 19], [18], [18, 20, 21], [18, 22], [23]] 25 0 [Jo.qb true, Jo.qb true, Jo.qb true, Jo.qb true, Jo.qb true, Jo.qp w.heap.size 1, Jo.q4 D s M E, Jo.qp w.heap.size 5, Jo.q4 D' s' M' E', Jo.qi c, Jo.qb false, Jo.qb false, Jo.qb false, Jo.qu, Jo.qu, Jo.qu, Jo.qu, Jo.qb false, Jo.qb false, Jo.qu, Jo.qu, Jo.qu, Jo.qu, Jo.qb false, Jo.qb false] (by kernel_rfl) (by kernel_rfl) (by decide) rfl ?_ ?_
  · iterate 9 (refine Jo.jm rfl ?_ ?_; rotate_left)
    refine Jo.jm rfl ?_ ?_
    · rintro wj hJ _ rfl _ rfl _ rfl K hK; simp only [Jo.z] at hK ⊢; go_simp; refine (yCmp hM hM' HC.out).mono ?_; rintro ee wk ⟨rfl, B⟩; exact hK.out _ _ rfl B
    refine Jo.jm rfl ?_ ?_
    · rintro wj hJ _ rfl _ rfl K hK; simp only [Jo.z] at hK ⊢; have hc0 := HC0.out; go_simp
      exact hK.out _ _ (by first | rfl | (show Value.bool _ = Value.bool _; rw [hc0]) | simp_all) (br _ _)
    iterate 14 (refine Jo.jm rfl ?_ ?_; rotate_left)
    exact Jo.Steps.nil
    all_goals (rintro wj hJ; (repeat rintro _ rfl); intro K hK; simp only [Jo.z] at hK ⊢; have xX1 := (X1.below hJ).cell; go_simp; exact hK.out _ _ rfl (br _ _))
  rintro w8 hJ _ rfl _ rfl _ rfl _ rfl _ rfl _ _ _ rfl _ _ _ rfl _ rfl _ rfl _ rfl _ rfl _ rfl _ rfl _ rfl _ rfl _ rfl _ rfl _ rfl _ rfl _ rfl _ rfl _ rfl _ rfl -; simp only [Jo.z]; replace X1 := X1.below hJ; replace HB := Hqb HB hJ; refine Jo.jdone (by kernel_rfl) ?_; go_wp2
  go_ret
  exact ⟨rfl, HB.out⟩
theorem jvmay_ft {w : World} {D' M' E' c : Int} {s' : Bool} (hM : (0 : Int) < 18446744073709551616) (hM' : (M' : Int) < 18446744073709551616) (hq : decide (MayQ D' s' M' E') = true) (hc : cmpI (rk 2 false 0 0) (rk D' s' M' E') = c) (hc0 : decide (c ≤ 0) = true) : Calls Tryd.prog 62 #[.agg #[.bool false, .int .i64 2, .bool false, .int .u64 0, .int .i64 0, .int .i64 D', .bool s', .int .u64 M', .int .i64 E']] w (PB w false) := by
  have HP : Hid (decide (MayQ 2 false 0 0) = true) := Lib.hid (by decide)
  have HN1 := Lib.hid trivial; have HQ := Lib.hid hq; have HC := Lib.hid hc; have HC0 := Lib.hid hc0; clear hq hc hc0
  go_enter Tryd.func62, Tryd.ntmps62
  go_upto_region 1 with (fail)
  generalize hW1 : w.alloc _ = w1 at *; obtain ⟨X1, HB⟩ := Bo.en1 hW1; clear hW1; have xX1 := X1.cell
  go_wp2_with fail
  refine (yMay HP.out).mono ?_; rintro ee w2 ⟨rfl, B⟩; clear xX1; replace X1 := X1.below B; replace HB := Hqb HB B; clear B; have xX1 := X1.cell
  go_wp2_with fail
  refine (yMay HQ.out).mono ?_; rintro ee w3 ⟨rfl, B⟩; clear xX1; replace X1 := X1.below B; replace HB := Hqb HB B; clear B; have xX1 := X1.cell
  go_upto_region 5 with (fail)
  clear xX1; refine Jo.rk [0, 1, 2, 3, 4, 5, 6, 7, 8, 9, 10, 11, 12, 13, 14, 15, 16, 17, 18, 19, 20, 21, 22, 23, 24] [some 16, some 17, some 18, some 19, some 20, some 21, some 22, some 23, some 24, some 25, some 26, some 27, some 28, some 29, some 30, some 31, some 32, some 33, some 34, some 35, some 36, some 37, some 38, some 39, some 2] [[], [0], [1], [1, 2], [3], [4], [4, 5], [4], [4, 7], [4, 6, 8], [4, 9], [4, 10], [11], [12], [12, 13], [12], [12, 14, 15], [12, 16], [17], [18], [18, 19], [18], [18, 20, 21], [18, 22], [23]] 25 0 [Jo.qb true, Jo.qb true, Jo.qb true, Jo.qb true, Jo.qb true, Jo.qp w.heap.size 1, Jo.q4 2 false 0 0, Jo.qp w.heap.size 5, Jo.q4 D' s' M' E', Jo.qi c, Jo.qb true, Jo.qb true, Jo.qb true, Jo.qp w.heap.size 1, Jo.q4 2 false 0 0, Jo.q4 2 false 0 0, Jo.qb false, Jo.qb false, Jo.qb false, Jo.qu, Jo.qu, Jo.qu, Jo.qu, Jo.qb false, Jo.qb false] (by kernel_rfl) (by kernel_rfl) (by decide) rfl ?_ ?_
  · iterate 9 (refine Jo.jm rfl ?_ ?_; rotate_left)
    refine Jo.jm rfl ?_ ?_
    · rintro wj hJ _ rfl _ rfl _ rfl K hK; simp only [Jo.z] at hK ⊢; go_simp; refine (yCmp hM hM' HC.out).mono ?_; rintro ee wk ⟨rfl, B⟩; exact hK.out _ _ rfl B
    refine Jo.jm rfl ?_ ?_
    · rintro wj hJ _ rfl _ rfl K hK; simp only [Jo.z] at hK ⊢; have hc0 := HC0.out; go_simp
      exact hK.out _ _ (by first | rfl | (show Value.bool _ = Value.bool _; rw [hc0]) | simp_all) (br _ _)
    iterate 4 (refine Jo.jm rfl ?_ ?_; rotate_left)
    refine Jo.jm rfl ?_ ?_
    · rintro wj hJ _ rfl K hK; simp only [Jo.z] at hK ⊢; go_simp; refine (yInfE false).mono ?_; rintro ee wk ⟨rfl, B⟩; exact hK.out _ _ rfl B
    refine Jo.jm rfl ?_ ?_
    · rintro wj hJ _ rfl _ rfl _ rfl K hK; simp only [Jo.z] at hK ⊢; have hne := HN1.out; go_simp
      repeat' split
      all_goals exact hK.out _ _ (congrArg Value.bool (by first | rfl | (exfalso; simp_all))) (br _ _)
    iterate 8 (refine Jo.jm rfl ?_ ?_; rotate_left)
    exact Jo.Steps.nil
    all_goals (rintro wj hJ; (repeat rintro _ rfl); intro K hK; simp only [Jo.z] at hK ⊢; have xX1 := (X1.below hJ).cell; go_simp; exact hK.out _ _ rfl (br _ _))
  rintro w8 hJ _ rfl _ rfl _ rfl _ rfl _ rfl _ _ _ rfl _ _ _ rfl _ rfl _ rfl _ rfl _ rfl _ _ _ rfl _ rfl _ rfl _ rfl _ rfl _ rfl _ rfl _ rfl _ rfl _ rfl _ rfl -; simp only [Jo.z]; replace X1 := X1.below hJ; replace HB := Hqb HB hJ; refine Jo.jdone (by kernel_rfl) ?_; go_wp2
  go_ret
  exact ⟨rfl, HB.out⟩
theorem jvmay_fb {w : World} {D M E c : Int} {s : Bool} (hM : (M : Int) < 18446744073709551616) (hM' : (0 : Int) < 18446744073709551616) (hp : decide (MayQ D s M E) = true) (hc : cmpI (rk D s M E) (rk 2 true 0 0) = c) (hc0 : decide (c ≤ 0) = true) (h1 : ¬ (D = 2 ∧ s = false ∧ M = 0 ∧ E = 0)) : Calls Tryd.prog 62 #[.agg #[.bool false, .int .i64 D, .bool s, .int .u64 M, .int .i64 E, .int .i64 2, .bool true, .int .u64 0, .int .i64 0]] w (PB w false) := by
  have HQ : Hid (decide (MayQ 2 true 0 0) = true) := Lib.hid (by decide)
  have HN2 := Lib.hid trivial; have HP := Lib.hid hp; have HC := Lib.hid hc; have HC0 := Lib.hid hc0; have HN1 := Lib.hid h1; clear hp hc hc0 h1
  go_enter Tryd.func62, Tryd.ntmps62
  go_upto_region 1 with (fail)
  generalize hW1 : w.alloc _ = w1 at *; obtain ⟨X1, HB⟩ := Bo.en1 hW1; clear hW1; have xX1 := X1.cell
  go_wp2_with fail
  refine (yMay HP.out).mono ?_; rintro ee w2 ⟨rfl, B⟩; clear xX1; replace X1 := X1.below B; replace HB := Hqb HB B; clear B; have xX1 := X1.cell
  go_wp2_with fail
  refine (yMay HQ.out).mono ?_; rintro ee w3 ⟨rfl, B⟩; clear xX1; replace X1 := X1.below B; replace HB := Hqb HB B; clear B; have xX1 := X1.cell
  go_upto_region 5 with (fail)
  clear xX1; refine Jo.rk [0, 1, 2, 3, 4, 5, 6, 7, 8, 9, 10, 11, 12, 13, 14, 15, 16, 17, 18, 19, 20, 21, 22, 23, 24] [some 16, some 17, some 18, some 19, some 20, some 21, some 22, some 23, some 24, some 25, some 26, some 27, some 28, some 29, some 30, some 31, some 32, some 33, some 34, some 35, some 36, some 37, some 38, some 39, some 2] [[], [0], [1], [1, 2], [3], [4], [4, 5], [4], [4, 7], [4, 6, 8], [4, 9], [4, 10], [11], [12], [12, 13], [12], [12, 14, 15], [12, 16], [17], [18], [18, 19], [18], [18, 20, 21], [18, 22], [23]] 25 0 [Jo.qb true, Jo.qb true, Jo.qb true, Jo.qb true, Jo.qb true, Jo.qp w.heap.size 1, Jo.q4 D s M E, Jo.qp w.heap.size 5, Jo.q4 2 true 0 0, Jo.qi c, Jo.qb true, Jo.qb true, Jo.qb true, Jo.qp w.heap.size 1, Jo.q4 D s M E, Jo.q4 2 false 0 0, Jo.qb true, Jo.qb true, Jo.qb true, Jo.qp w.heap.size 5, Jo.q4 2 true 0 0, Jo.q4 2 true 0 0, Jo.qb false, Jo.qb false, Jo.qb false] (by kernel_rfl) (by kernel_rfl) (by decide) rfl ?_ ?_
  · iterate 9 (refine Jo.jm rfl ?_ ?_; rotate_left)
    refine Jo.jm rfl ?_ ?_
    · rintro wj hJ _ rfl _ rfl _ rfl K hK; simp only [Jo.z] at hK ⊢; go_simp; refine (yCmp hM hM' HC.out).mono ?_; rintro ee wk ⟨rfl, B⟩; exact hK.out _ _ rfl B
    refine Jo.jm rfl ?_ ?_
    · rintro wj hJ _ rfl _ rfl K hK; simp only [Jo.z] at hK ⊢; have hc0 := HC0.out; go_simp
      exact hK.out _ _ (by first | rfl | (show Value.bool _ = Value.bool _; rw [hc0]) | simp_all) (br _ _)
    iterate 4 (refine Jo.jm rfl ?_ ?_; rotate_left)
    refine Jo.jm rfl ?_ ?_
    · rintro wj hJ _ rfl K hK; simp only [Jo.z] at hK ⊢; go_simp; refine (yInfE false).mono ?_; rintro ee wk ⟨rfl, B⟩; exact hK.out _ _ rfl B
    refine Jo.jm rfl ?_ ?_
    · rintro wj hJ _ rfl _ rfl _ rfl K hK; simp only [Jo.z] at hK ⊢; have hne := HN1.out; go_simp
      repeat' split
      all_goals exact hK.out _ _ (congrArg Value.bool (by first | rfl | (exfalso; simp_all))) (br _ _)
    iterate 4 (refine Jo.jm rfl ?_ ?_; rotate_left)
    refine Jo.jm rfl ?_ ?_
    · rintro wj hJ _ rfl K hK; simp only [Jo.z] at hK ⊢; go_simp; refine (yInfE true).mono ?_; rintro ee wk ⟨rfl, B⟩; exact hK.out _ _ rfl B
    refine Jo.jm rfl ?_ ?_
    · rintro wj hJ _ rfl _ rfl _ rfl K hK; simp only [Jo.z] at hK ⊢; have hne := HN2.out; go_simp
      repeat' split
      all_goals exact hK.out _ _ (congrArg Value.bool (by first | rfl | (exfalso; simp_all))) (br _ _)
    iterate 2 (refine Jo.jm rfl ?_ ?_; rotate_left)
    exact Jo.Steps.nil
    all_goals (rintro wj hJ; (repeat rintro _ rfl); intro K hK; simp only [Jo.z] at hK ⊢; have xX1 := (X1.below hJ).cell; go_simp; exact hK.out _ _ rfl (br _ _))
  rintro w8 hJ _ rfl _ rfl _ rfl _ rfl _ rfl _ _ _ rfl _ _ _ rfl _ rfl _ rfl _ rfl _ rfl _ _ _ rfl _ rfl _ rfl _ rfl _ rfl _ _ _ rfl _ rfl _ rfl _ rfl _ rfl -; simp only [Jo.z]; replace X1 := X1.below hJ; replace HB := Hqb HB hJ; refine Jo.jdone (by kernel_rfl) ?_; go_wp2
  go_ret
  exact ⟨rfl, HB.out⟩
theorem jvmay_fy {w : World} {D M E D' M' E' c : Int} {s s' : Bool} (hM : (M : Int) < 18446744073709551616) (hM' : (M' : Int) < 18446744073709551616) (hp : decide (MayQ D s M E) = true) (hq : decide (MayQ D' s' M' E') = true) (hc : cmpI (rk D s M E) (rk D' s' M' E') = c) (hc0 : decide (c ≤ 0) = true) (h1 : ¬ (D = 2 ∧ s = false ∧ M = 0 ∧ E = 0)) (h2 : ¬ (D' = 2 ∧ s' = true ∧ M' = 0 ∧ E' = 0)) : Calls Tryd.prog 62 #[.agg #[.bool false, .int .i64 D, .bool s, .int .u64 M, .int .i64 E, .int .i64 D', .bool s', .int .u64 M', .int .i64 E']] w (PB w true) := by
  have HP := Lib.hid hp; have HQ := Lib.hid hq; have HC := Lib.hid hc; have HC0 := Lib.hid hc0; have HN1 := Lib.hid h1; have HN2 := Lib.hid h2; clear hp hq hc hc0 h1 h2
  go_enter Tryd.func62, Tryd.ntmps62
  go_upto_region 1 with (fail)
  generalize hW1 : w.alloc _ = w1 at *; obtain ⟨X1, HB⟩ := Bo.en1 hW1; clear hW1; have xX1 := X1.cell
  go_wp2_with fail
  refine (yMay HP.out).mono ?_; rintro ee w2 ⟨rfl, B⟩; clear xX1; replace X1 := X1.below B; replace HB := Hqb HB B; clear B; have xX1 := X1.cell
  go_wp2_with fail
  refine (yMay HQ.out).mono ?_; rintro ee w3 ⟨rfl, B⟩; clear xX1; replace X1 := X1.below B; replace HB := Hqb HB B; clear B; have xX1 := X1.cell
  go_upto_region 5 with (fail)
  clear xX1; refine Jo.rk [0, 1, 2, 3, 4, 5, 6, 7, 8, 9, 10, 11, 12, 13, 14, 15, 16, 17, 18, 19, 20, 21, 22, 23, 24] [some 16, some 17, some 18, some 19, some 20, some 21, some 22, some 23, some 24, some 25, some 26, some 27, some 28, some 29, some 30, some 31, some 32, some 33, some 34, some 35, some 36, some 37, some 38, some 39, some 2] [[], [0], [1], [1, 2], [3], [4], [4, 5], [4], [4, 7], [4, 6, 8], [4, 9], [4, 10], [11], [12], [12, 13], [12], [12, 14, 15], [12, 16], [17], [18], [18, 19], [18], [18, 20, 21], [18, 22], [23]] 25 0 [Jo.qb true, Jo.qb true, Jo.qb true, Jo.qb true, Jo.qb true, Jo.qp w.heap.size 1, Jo.q4 D s M E, Jo.qp w.heap.size 5, Jo.q4 D' s' M' E', Jo.qi c, Jo.qb true, Jo.qb true, Jo.qb true, Jo.qp w.heap.size 1, Jo.q4 D s M E, Jo.q4 2 false 0 0, Jo.qb true, Jo.qb true, Jo.qb true, Jo.qp w.heap.size 5, Jo.q4 D' s' M' E', Jo.q4 2 true 0 0, Jo.qb true, Jo.qb true, Jo.qb true] (by kernel_rfl) (by kernel_rfl) (by decide) rfl ?_ ?_
  · iterate 9 (refine Jo.jm rfl ?_ ?_; rotate_left)
    refine Jo.jm rfl ?_ ?_
    · rintro wj hJ _ rfl _ rfl _ rfl K hK; simp only [Jo.z] at hK ⊢; go_simp; refine (yCmp hM hM' HC.out).mono ?_; rintro ee wk ⟨rfl, B⟩; exact hK.out _ _ rfl B
    refine Jo.jm rfl ?_ ?_
    · rintro wj hJ _ rfl _ rfl K hK; simp only [Jo.z] at hK ⊢; have hc0 := HC0.out; go_simp
      exact hK.out _ _ (by first | rfl | (show Value.bool _ = Value.bool _; rw [hc0]) | simp_all) (br _ _)
    iterate 4 (refine Jo.jm rfl ?_ ?_; rotate_left)
    refine Jo.jm rfl ?_ ?_
    · rintro wj hJ _ rfl K hK; simp only [Jo.z] at hK ⊢; go_simp; refine (yInfE false).mono ?_; rintro ee wk ⟨rfl, B⟩; exact hK.out _ _ rfl B
    refine Jo.jm rfl ?_ ?_
    · rintro wj hJ _ rfl _ rfl _ rfl K hK; simp only [Jo.z] at hK ⊢; have hne := HN1.out; go_simp
      repeat' split
      all_goals exact hK.out _ _ (congrArg Value.bool (by first | rfl | (exfalso; simp_all))) (br _ _)
    iterate 4 (refine Jo.jm rfl ?_ ?_; rotate_left)
    refine Jo.jm rfl ?_ ?_
    · rintro wj hJ _ rfl K hK; simp only [Jo.z] at hK ⊢; go_simp; refine (yInfE true).mono ?_; rintro ee wk ⟨rfl, B⟩; exact hK.out _ _ rfl B
    refine Jo.jm rfl ?_ ?_
    · rintro wj hJ _ rfl _ rfl _ rfl K hK; simp only [Jo.z] at hK ⊢; have hne := HN2.out; go_simp
      repeat' split
      all_goals exact hK.out _ _ (congrArg Value.bool (by first | rfl | (exfalso; simp_all))) (br _ _)
    iterate 2 (refine Jo.jm rfl ?_ ?_; rotate_left)
    exact Jo.Steps.nil
    all_goals (rintro wj hJ; (repeat rintro _ rfl); intro K hK; simp only [Jo.z] at hK ⊢; have xX1 := (X1.below hJ).cell; go_simp; exact hK.out _ _ rfl (br _ _))
  rintro w8 hJ _ rfl _ rfl _ rfl _ rfl _ rfl _ _ _ rfl _ _ _ rfl _ rfl _ rfl _ rfl _ rfl _ _ _ rfl _ rfl _ rfl _ rfl _ rfl _ _ _ rfl _ rfl _ rfl _ rfl _ rfl -; simp only [Jo.z]; replace X1 := X1.below hJ; replace HB := Hqb HB hJ; refine Jo.jdone (by kernel_rfl) ?_; go_wp2
  go_ret
  exact ⟨rfl, HB.out⟩
theorem rk_top {D : Int} {s : Bool} {M E : Int} (hM : M < 18446744073709551616) (h : MayQ D s M E) (b : Bool) : rk D s M E = sgi b TP ↔ (D = 2 ∧ s = b ∧ M = 0 ∧ E = 0) := by
  constructor
  · intro e
    have q := rk_fq hM h; rw [e] at q; exact q.uniq (fq_inf2 b)
  · rintro ⟨rfl, rfl, rfl, rfl⟩; exact (fq_inf2 s).rk
theorem jvMay {w : World} {e : Bool} {D M E D' M' E' : Int} {s s' : Bool} {r : Bool} (hM : M < 18446744073709551616) (hM' : M' < 18446744073709551616) (hr : mayI e D s M E D' s' M' E' = r) : Calls Tryd.prog 62 #[.agg #[.bool e, .int .i64 D, .bool s, .int .u64 M, .int .i64 E, .int .i64 D', .bool s', .int .u64 M', .int .i64 E']] w (PB w r) := by
  cases e
  · have e0 : decide (rkI false D s M E D' s' M' E' ≠ none) = r := by rw [← hr]; exact (if_neg ff).symm
    rw [rkI_f] at e0
    by_cases hp : MayQ D s M E
    · by_cases hq : MayQ D' s' M' E'
      · rw [if_pos ⟨hp, hq⟩] at e0; have b1 := (rk_fq hM hp).bd; have b2 := (rk_fq hM' hq).bd; have t1 := rk_top hM hp false; have t2 := rk_top hM' hq true
        have tf : sgi false TP = 19342822337206103650074625 := rfl
        have tt : sgi true TP = -19342822337206103650074625 := rfl
        rw [tf] at t1; rw [tt] at t2; have hpd := decide_eq_true hp; have hqd := decide_eq_true hq
        by_cases hc : rk D s M E ≤ rk D' s' M' E'
        · have hc0 : decide (cmpI (rk D s M E) (rk D' s' M' E') ≤ 0) = true := decide_eq_true (by rcases cmpI_tri (rk D s M E) (rk D' s' M' E') with ⟨a, b⟩ | ⟨a, b⟩ | ⟨a, b⟩ <;> rw [b] <;> omega)
          by_cases h1 : D = 2 ∧ s = false ∧ M = 0 ∧ E = 0
          · have k1 := t1.2 h1; rw [mkI_none (by omega)] at e0
            obtain rfl : false = r := e0
            obtain ⟨rfl, rfl, rfl, rfl⟩ := h1; exact jvmay_ft hM hM' hqd rfl hc0
          · have k1 : rk D s M E ≠ 19342822337206103650074625 := fun c => h1 (t1.1 c)
            by_cases h2 : D' = 2 ∧ s' = true ∧ M' = 0 ∧ E' = 0
            · have k2 := t2.2 h2; rw [mkI_none (by omega)] at e0
              obtain rfl : false = r := e0
              obtain ⟨rfl, rfl, rfl, rfl⟩ := h2; exact jvmay_fb hM hM' hpd rfl hc0 h1
            · have k2 : rk D' s' M' E' ≠ -19342822337206103650074625 := fun c => h2 (t2.1 c)
              rw [mkI_some hc (by omega) (by omega)] at e0
              obtain rfl : true = r := e0
              exact jvmay_fy hM hM' hpd hqd rfl hc0 h1 h2
        · rw [mkI_none (fun c => hc c.1)] at e0
          obtain rfl : false = r := e0
          exact jvmay_fc hM hM' hpd hqd rfl (decide_eq_false (by rcases cmpI_tri (rk D s M E) (rk D' s' M' E') with ⟨a, b⟩ | ⟨a, b⟩ | ⟨a, b⟩ <;> rw [b] <;> omega))
      · rw [if_neg (fun c => hq c.2)] at e0
        obtain rfl : false = r := e0
        exact jvmay_fq hM hM' (decide_eq_true hp) (decide_eq_false hq)
    · rw [if_neg (fun c => hp c.1)] at e0
      obtain rfl : false = r := e0
      exact jvmay_fp hM hM' (decide_eq_false hp) rfl
  · exact jvmay_t hr
theorem jvFair {w : World} {e : Bool} {D M E D' M' E' : Int} {s s' : Bool} {x : Sp} (hM : M < 18446744073709551616) (hM' : M' < 18446744073709551616) (hr : rkI e D s M E D' s' M' E' = x) : Calls Tryd.prog 38 #[.agg #[.bool e, .int .i64 D, .bool s, .int .u64 M, .int .i64 E, .int .i64 D', .bool s', .int .u64 M', .int .i64 E']] w (PV w x) := by
  cases hm : mayI e D s M E D' s' M' E'
  · obtain rfl : none = x := (mayI_no hm).symm.trans hr
    have HM := Lib.hid hm; clear hm hr
    go_enter Tryd.func38, Tryd.ntmps38
    go_upto_region 1 with (fail)
    generalize hW1 : (w.alloc _).alloc _ = w1 at *; obtain ⟨X1, XR, HB⟩ := Bo.en2 hW1; clear hW1; have xX1 := X1.cell
    go_wp2_with fail
    refine (jvMay hM hM' HM.out).mono ?_; rintro ee w2 ⟨rfl, B⟩; clear xX1; replace X1 := X1.below B; replace XR := XR.below B; replace HB := Hqb HB B; clear B; clear HM hM hM'
    go_wp2_with fail
    refine (jvNoneE).mono ?_; rintro ee w3 ⟨rfl, B⟩; replace X1 := X1.below B; replace XR := XR.below B; replace HB := Hqb HB B; clear B; have xXR := XR.cell; have zXR0 := XR.frozen; go_wp2; clear xXR zXR0; have SX := StN.mk9 XR (.bool true) (.int .i64 0) (.bool false) (.int .u64 0) (.int .i64 0) (.int .i64 0) (.bool false) (.int .u64 0) (.int .i64 0)
    exact bodyPost_ret (by simp [results, Tryd.results38, go_sem, SX.box.cell]) rfl ⟨_, _, _, _, _, _, _, _, _, rfl, Ci.none, (SX.below HB.out (by omega))⟩
  · have hv := mayI_ci hM hM' hm; rw [hr] at hv; have HM := Lib.hid hm; clear hm hr
    go_enter Tryd.func38, Tryd.ntmps38
    go_upto_region 1 with (fail)
    generalize hW1 : (w.alloc _).alloc _ = w1 at *; obtain ⟨X1, XR, HB⟩ := Bo.en2 hW1; clear hW1; have xX1 := X1.cell
    go_wp2_with fail
    refine (jvMay hM hM' HM.out).mono ?_; rintro ee w2 ⟨rfl, B⟩; clear xX1; replace X1 := X1.below B; replace XR := XR.below B; replace HB := Hqb HB B; clear B; clear HM hM hM'; have xXR := XR.cell; have zXR0 := XR.frozen; have xX1 := X1.cell; go_wp2
    clear xXR zXR0 xX1; have SX := StN.mk9 XR (.bool e) (.int .i64 D) (.bool s) (.int .u64 M) (.int .i64 E) (.int .i64 D') (.bool s') (.int .u64 M') (.int .i64 E'); exact bodyPost_ret (by simp [results, Tryd.results38, go_sem, SX.box.cell]) rfl ⟨_, _, _, _, _, _, _, _, _, rfl, hv, (SX.below HB.out (by omega))⟩
def Jo.Fact.ir (x : Sp) : Jo.Fact := ⟨fun v w => ∃ e K s M E K' s' M' E', v = .agg #[.bool e, .int .i64 K, .bool s, .int .u64 M, .int .i64 E, .int .i64 K', .bool s', .int .u64 M', .int .i64 E'] ∧ M < 18446744073709551616 ∧ M' < 18446744073709551616 ∧ rkI e K s M E K' s' M' E' = x, fun v w w' h b => h⟩
theorem rkI_mk {K M E K' M' E' : Int} {s s' : Bool} {a b : Int} {x : Sp} (q : Fq K s M E a) (q' : Fq K' s' M' E' b) (hx : mkI a b = x) : rkI false K s M E K' s' M' E' = x := by
  rw [rkI_f, if_pos ⟨q.1, q'.1⟩, q.rk, q'.rk, hx]
theorem jvMake {w : World} {D D' M M' E E' : Int} {s s' : Bool} {a b : Int} {x : Sp} (hM : M < 18446744073709551616) (hM' : M' < 18446744073709551616) (ha : rk D s M E = a) (hb : rk D' s' M' E' = b) (hx : mkI a b = x) : Calls Tryd.prog 57 #[.agg #[.int .i64 D, .bool s, .int .u64 M, .int .i64 E], .agg #[.int .i64 D', .bool s', .int .u64 M', .int .i64 E']] w (PV w x) := by
  have HA := Lib.hid ha; have HBB := Lib.hid hb; have HX := Lib.hid hx; clear ha hb hx
  go_enter Tryd.func57, Tryd.ntmps57
  go_upto_region 1 with (fail)
  generalize hW1 : ((w.alloc _).alloc _).alloc _ = w1 at *; obtain ⟨X2, X3, XR, HB⟩ := Bo.en3 hW1; clear hW1; refine Jo.rk [0, 1, 2, 3, 4, 5] [some 5, some 6, some 7, some 8, some 9, some 10, none] [[], [0], [], [2], [1, 3], [4], []] 7 1 [Jo.q4 D s M E, Jo.Fact.num a, Jo.q4 D' s' M' E', Jo.Fact.num b, Jo.Fact.ir x, Jo.Fact.iv x, Jo.Fact.any] (by kernel_rfl) (by kernel_rfl) (by decide) rfl ?_ ?_
  · refine Jo.jm rfl ?_ ?_; rotate_left
    refine Jo.jm rfl ?_ ?_
    · rintro wj hJ _ rfl K hK; simp only [Jo.z] at hK ⊢; go_simp; refine (gFair hM HA.out).mono ?_; rintro ee wk ⟨K1, s1, M1, E1, rfl, q1, B⟩; exact hK.out _ _ ⟨K1, s1, M1, E1, rfl, q1⟩ B
    refine Jo.jm rfl ?_ ?_; rotate_left
    refine Jo.jm rfl ?_ ?_
    · rintro wj hJ _ rfl K hK; simp only [Jo.z] at hK ⊢; go_simp; refine (gFair hM' HBB.out).mono ?_; rintro ee wk ⟨K2, s2, M2, E2, rfl, q2, B⟩; exact hK.out _ _ ⟨K2, s2, M2, E2, rfl, q2⟩ B
    refine Jo.jm rfl ?_ ?_
    · rintro wj hJ _ ⟨K1, s1, M1, E1, rfl, q1⟩ _ ⟨K2, s2, M2, E2, rfl, q2⟩ K hK; simp only [Jo.z] at hK ⊢; go_simp; exact hK.out _ _ ⟨_, _, _, _, _, _, _, _, _, rfl, q1.top, q2.top, rkI_mk q1 q2 HX.out⟩ (br _ _)
    refine Jo.jm rfl ?_ ?_
    · rintro wj hJ _ ⟨e4, K4, s4, M4, E4, K4b, s4b, M4b, E4b, rfl, m4, m4b, r4⟩ K hK; simp only [Jo.z] at hK ⊢; go_simp; refine (jvFair m4 m4b r4).mono ?_; rintro ee wk ⟨e5, K5, s5, M5, E5, K5b, s5b, M5b, E5b, rfl, v5, B⟩; exact hK.out _ _ ⟨e5, K5, s5, M5, E5, K5b, s5b, M5b, E5b, rfl, v5⟩ B
    exact Jo.Steps.nil
    all_goals (rintro wj hJ; (repeat rintro _ rfl); intro K hK; simp only [Jo.z] at hK ⊢; have xX2 := (X2.below hJ).cell; have xX3 := (X3.below hJ).cell; go_simp; exact hK.out _ _ rfl (br _ _))
  rintro w8 hJ _ rfl _ ⟨K1, s1, M1, E1, rfl, q1⟩ _ rfl _ ⟨K2, s2, M2, E2, rfl, q2⟩ _ ⟨_, _, _, _, _, _, _, _, _, rfl, _⟩ _ ⟨e5, K5, s5, M5, E5, K5b, s5b, M5b, E5b, rfl, v5⟩ -; simp only [Jo.z]; replace X2 := X2.below hJ; replace X3 := X3.below hJ; replace XR := XR.below hJ; replace HB := Hqb HB hJ; have xXR := XR.cell; have zXR0 := XR.frozen
  refine Jo.jnext (i := 6) (o := ⟨none, _, _, _, _, _⟩) (by kernel_rfl) rfl (fun K hK => ?_)
  go_simp; refine hK.out _ _ ?_; clear hK K xXR zXR0; have SX := StN.mk9 XR (.bool e5) (.int .i64 K5) (.bool s5) (.int .u64 M5) (.int .i64 E5) (.int .i64 K5b) (.bool s5b) (.int .u64 M5b) (.int .i64 E5b); refine Jo.jdone (by kernel_rfl) ?_; go_wp2; exact bodyPost_ret (by simp [results, Tryd.results57, go_sem, SX.box.cell]) rfl ⟨_, _, _, _, _, _, _, _, _, rfl, v5, (SX.below HB.out (by omega))⟩
end Go.Proofs.YtpnmphofengoeaaDoor

namespace Go.Proofs.YtpnmphofengoeaaDoor
set_option maxHeartbeats 2000000
open Go.RowKit
set_option linter.unusedVariables false
set_option linter.unusedSimpArgs false
set_option maxRecDepth 100000

theorem cmp_le {x y c : Int} (h : cmpI x y = c) : decide (c ≤ 0) = decide (x ≤ y) := by
  rw [← h]
  by_cases e : x ≤ y
  · rw [decide_eq_true e]
    exact decide_eq_true (by rcases cmpI_tri x y with ⟨a, b⟩ | ⟨a, b⟩ | ⟨a, b⟩ <;> rw [b] <;> omega)
  · rw [decide_eq_false e]
    exact decide_eq_false (by rcases cmpI_tri x y with ⟨a, b⟩ | ⟨a, b⟩ | ⟨a, b⟩ <;> rw [b] <;> omega)
theorem jvHas {w : World} {e : Bool} {D M E D' M' E' : Int} {s s' : Bool} {G P Q : Int} {g : Bool} {x : Sp} {n : Int} {r : Bool} (hM : M < 18446744073709551616) (hM' : M' < 18446744073709551616) (hP : P < 18446744073709551616) (hx : rkI e D s M E D' s' M' E' = x) (hn : rk G g P Q = n) (hr : hasI x n = r) : Calls Tryd.prog 41 #[.agg #[.bool e, .int .i64 D, .bool s, .int .u64 M, .int .i64 E, .int .i64 D', .bool s', .int .u64 M', .int .i64 E'], .agg #[.int .i64 G, .bool g, .int .u64 P, .int .i64 Q]] w (PB w r) := by
  have HX := Lib.hid hx; have HN := Lib.hid hn; clear hx hn
  go_enter Tryd.func41, Tryd.ntmps41
  go_upto_region 1 with (fail)
  generalize hW1 : (w.alloc _).alloc _ = w1 at *; obtain ⟨X2, X3, HB⟩ := Bo.en2 hW1; clear hW1; have xX2 := X2.cell
  go_wp2_with fail
  refine (jvFair hM hM' HX.out).mono ?_; rintro ee w2 ⟨e1, K1, s1, M1, E1, K1b, s1b, M1b, E1b, rfl, v1, B⟩; clear xX2; replace X2 := X2.below B; replace X3 := X3.below B; replace HB := Hqb HB B; clear B
  go_upto_region 2 with (fail)
  have lX5 := Nat.le_refl (World.heap w2).size; have nX5X2 := X2.lt; have nX5X3 := X3.lt; generalize hWn : w2.alloc _ = w3 at *; obtain ⟨X5, BW⟩ := Bo.nw hWn; clear hWn; replace X2 := X2.below BW; replace X3 := X3.below BW; replace HB := Hqb HB BW; clear BW; clear lX5; have xX3 := X3.cell
  go_wp2_with fail
  refine (gFair hP HN.out).mono ?_; rintro ee w4 ⟨K2, s2, M2, E2, rfl, q2, B⟩; clear xX3; replace X2 := X2.below B; replace X3 := X3.below B; replace X5 := X5.below B; replace HB := Hqb HB B; clear B
  go_upto_region 3 with (fail)
  have lX6 := Nat.le_refl (World.heap w4).size; have nX6X2 := X2.lt; have nX6X3 := X3.lt; have nX6X5 := X5.lt; generalize hWn : w4.alloc _ = w5 at *; obtain ⟨X6, BW⟩ := Bo.nw hWn; clear hWn; replace X2 := X2.below BW; replace X3 := X3.below BW; replace X5 := X5.below BW; replace HB := Hqb HB BW; clear BW; clear lX6; clear HX HN hM hM' hP
  rcases x with _ | ⟨xa, xb⟩
  · obtain ⟨rfl, y1, y1b⟩ := v1
    obtain rfl : false = r := hr
    have xX5 := X5.cell; have xX6 := X6.cell; go_wp2
    go_ret
    exact ⟨rfl, HB.out⟩
  · obtain ⟨rfl, a1, b1, o1, o1l, o1h⟩ := v1; have i2 := fq_inf q2
    have hr2 : (!infp n && decide (xa ≤ n) && decide (n ≤ xb)) = r := hr
    rw [i2] at hr2; clear hr i2
    by_cases hk : K2 = 2
    · subst hk
      obtain rfl : false = r := hr2
      have xX5 := X5.cell; have xX6 := X6.cell; go_wp2
      go_ret
      exact ⟨rfl, HB.out⟩
    · have hk2 : (K2 == 2) = false := by simpa using hk
      rw [hk2] at hr2
      have hne : (K2 != 2) = true := by simpa using hk
      cases hk1 : decide (xa ≤ n)
      · rw [hk1] at hr2
        obtain rfl : false = r := hr2
        obtain ⟨c1, hc1⟩ : ∃ c, cmpI xa n = c := ⟨_, rfl⟩; have ht1 := cmp_le hc1; rw [hk1] at ht1
        have HC1 : Hid (cmpI (rk K1 s1 M1 E1) (rk K2 s2 M2 E2) = c1) := Lib.hid (by rw [a1.rk, q2.rk]; exact hc1)
        clear hc1 hk1; have xX5 := X5.cell; have xX6 := X6.cell
        go_wp2_with fail
        refine (yCmp a1.top q2.top HC1.out).mono ?_; rintro ee w6 ⟨rfl, B⟩; clear xX5 xX6; replace X5 := X5.below B; replace X6 := X6.below B; replace HB := Hqb HB B; clear B; go_wp2
        go_ret
        exact ⟨rfl, HB.out⟩
      · rw [hk1] at hr2; obtain ⟨z, hk3⟩ : ∃ z, decide (n ≤ xb) = z := ⟨_, rfl⟩; rw [hk3] at hr2
        obtain rfl : z = r := hr2
        obtain ⟨c1, hc1⟩ : ∃ c, cmpI xa n = c := ⟨_, rfl⟩; have ht1 := cmp_le hc1; rw [hk1] at ht1
        have HC1 : Hid (cmpI (rk K1 s1 M1 E1) (rk K2 s2 M2 E2) = c1) := Lib.hid (by rw [a1.rk, q2.rk]; exact hc1)
        clear hc1 hk1; have xX5 := X5.cell; have xX6 := X6.cell
        go_wp2_with fail
        refine (yCmp a1.top q2.top HC1.out).mono ?_; rintro ee w6 ⟨rfl, B⟩; clear xX5 xX6; replace X5 := X5.below B; replace X6 := X6.below B; replace HB := Hqb HB B; clear B; obtain ⟨c3, hc3⟩ : ∃ c, cmpI n xb = c := ⟨_, rfl⟩; have ht3 := cmp_le hc3; rw [hk3] at ht3
        have HC3 : Hid (cmpI (rk K2 s2 M2 E2) (rk K1b s1b M1b E1b) = c3) := Lib.hid (by rw [q2.rk, b1.rk]; exact hc3)
        clear hc3 hk3; have xX5 := X5.cell; have xX6 := X6.cell
        go_wp2_with fail
        refine (yCmp q2.top b1.top HC3.out).mono ?_; rintro ee w7 ⟨rfl, B⟩; clear xX5 xX6; replace X5 := X5.below B; replace X6 := X6.below B; replace HB := Hqb HB B; clear B; go_wp2
        go_ret
        exact ⟨by first | rfl | (show Ending.returned (.bool _) = _; rw [ht3]), HB.out⟩
theorem jvWithin {w : World} {e : Bool} {D M E D' M' E' : Int} {s s' : Bool} {e2 : Bool} {G P Q G' P' Q' : Int} {g g' : Bool} {x y : Sp} {r : Bool} (hM : M < 18446744073709551616) (hM' : M' < 18446744073709551616) (hP : P < 18446744073709551616) (hP' : P' < 18446744073709551616) (hx : rkI e D s M E D' s' M' E' = x) (hy : rkI e2 G g P Q G' g' P' Q' = y) (hr : witI x y = r) : Calls Tryd.prog 43 #[.agg #[.bool e, .int .i64 D, .bool s, .int .u64 M, .int .i64 E, .int .i64 D', .bool s', .int .u64 M', .int .i64 E'], .agg #[.bool e2, .int .i64 G, .bool g, .int .u64 P, .int .i64 Q, .int .i64 G', .bool g', .int .u64 P', .int .i64 Q']] w (PB w r) := by
  have HX := Lib.hid hx; have HY := Lib.hid hy; clear hx hy
  go_enter Tryd.func43, Tryd.ntmps43
  go_upto_region 1 with (fail)
  generalize hW1 : (w.alloc _).alloc _ = w1 at *; obtain ⟨X2, X3, HB⟩ := Bo.en2 hW1; clear hW1; have xX2 := X2.cell
  go_wp2_with fail
  refine (jvFair hM hM' HX.out).mono ?_; rintro ee w2 ⟨e1, K1, s1, M1, E1, K1b, s1b, M1b, E1b, rfl, v1, B⟩; clear xX2; replace X2 := X2.below B; replace X3 := X3.below B; replace HB := Hqb HB B; clear B
  go_upto_region 2 with (fail)
  have lX5 := Nat.le_refl (World.heap w2).size; have nX5X2 := X2.lt; have nX5X3 := X3.lt; generalize hWn : w2.alloc _ = w3 at *; obtain ⟨X5, BW⟩ := Bo.nw hWn; clear hWn; replace X2 := X2.below BW; replace X3 := X3.below BW; replace HB := Hqb HB BW; clear BW; clear lX5; have xX3 := X3.cell
  go_wp2_with fail
  refine (jvFair hP hP' HY.out).mono ?_; rintro ee w4 ⟨e2, K2, s2, M2, E2, K2b, s2b, M2b, E2b, rfl, v2, B⟩; clear xX3; replace X2 := X2.below B; replace X3 := X3.below B; replace X5 := X5.below B; replace HB := Hqb HB B; clear B
  go_upto_region 3 with (fail)
  have lX6 := Nat.le_refl (World.heap w4).size; have nX6X2 := X2.lt; have nX6X3 := X3.lt; have nX6X5 := X5.lt; generalize hWn : w4.alloc _ = w5 at *; obtain ⟨X6, BW⟩ := Bo.nw hWn; clear hWn; replace X2 := X2.below BW; replace X3 := X3.below BW; replace X5 := X5.below BW; replace HB := Hqb HB BW; clear BW; clear lX6; clear HX HY hM hM' hP hP'
  rcases x with _ | ⟨xa, xb⟩
  · obtain ⟨rfl, y1, y1b⟩ := v1
    obtain rfl : true = r := hr
    have xX5 := X5.cell; have xX6 := X6.cell; go_wp2
    go_ret
    exact ⟨rfl, HB.out⟩
  · obtain ⟨rfl, a1, b1, o1, o1l, o1h⟩ := v1
    rcases y with _ | ⟨ya, yb⟩
    · obtain ⟨rfl, y2, y2b⟩ := v2
      obtain rfl : false = r := hr
      have xX5 := X5.cell; have xX6 := X6.cell; go_wp2
      go_ret
      exact ⟨rfl, HB.out⟩
    · obtain ⟨rfl, a2, b2, o2, o2l, o2h⟩ := v2
      have hr2 : (decide (ya ≤ xa) && decide (xb ≤ yb)) = r := hr
      clear hr
      cases hk1 : decide (ya ≤ xa)
      · rw [hk1] at hr2
        obtain rfl : false = r := hr2
        obtain ⟨c1, hc1⟩ : ∃ c, cmpI ya xa = c := ⟨_, rfl⟩; have ht1 := cmp_le hc1; rw [hk1] at ht1
        have HC1 : Hid (cmpI (rk K2 s2 M2 E2) (rk K1 s1 M1 E1) = c1) := Lib.hid (by rw [a2.rk, a1.rk]; exact hc1)
        clear hc1 hk1; have xX5 := X5.cell; have xX6 := X6.cell
        go_wp2_with fail
        refine (yCmp a2.top a1.top HC1.out).mono ?_; rintro ee w6 ⟨rfl, B⟩; clear xX5 xX6; replace X5 := X5.below B; replace X6 := X6.below B; replace HB := Hqb HB B; clear B; go_wp2
        go_ret
        exact ⟨rfl, HB.out⟩
      · rw [hk1] at hr2; obtain ⟨z, hk3⟩ : ∃ z, decide (xb ≤ yb) = z := ⟨_, rfl⟩; rw [hk3] at hr2
        obtain rfl : z = r := hr2
        obtain ⟨c1, hc1⟩ : ∃ c, cmpI ya xa = c := ⟨_, rfl⟩; have ht1 := cmp_le hc1; rw [hk1] at ht1
        have HC1 : Hid (cmpI (rk K2 s2 M2 E2) (rk K1 s1 M1 E1) = c1) := Lib.hid (by rw [a2.rk, a1.rk]; exact hc1)
        clear hc1 hk1; have xX5 := X5.cell; have xX6 := X6.cell
        go_wp2_with fail
        refine (yCmp a2.top a1.top HC1.out).mono ?_; rintro ee w6 ⟨rfl, B⟩; clear xX5 xX6; replace X5 := X5.below B; replace X6 := X6.below B; replace HB := Hqb HB B; clear B; obtain ⟨c3, hc3⟩ : ∃ c, cmpI xb yb = c := ⟨_, rfl⟩; have ht3 := cmp_le hc3; rw [hk3] at ht3
        have HC3 : Hid (cmpI (rk K1b s1b M1b E1b) (rk K2b s2b M2b E2b) = c3) := Lib.hid (by rw [b1.rk, b2.rk]; exact hc3)
        clear hc3 hk3; have xX5 := X5.cell; have xX6 := X6.cell
        go_wp2_with fail
        refine (yCmp b1.top b2.top HC3.out).mono ?_; rintro ee w7 ⟨rfl, B⟩; clear xX5 xX6; replace X5 := X5.below B; replace X6 := X6.below B; replace HB := Hqb HB B; clear B; go_wp2
        go_ret
        exact ⟨by first | rfl | (show Ending.returned (.bool _) = _; rw [ht3]), HB.out⟩
end Go.Proofs.YtpnmphofengoeaaDoor

namespace Go.Proofs.YtpnmphofengoeaaDoor
set_option maxHeartbeats 2000000
open Go.RowKit
set_option linter.unusedVariables false
set_option linter.unusedSimpArgs false
set_option maxRecDepth 100000

theorem Nl.lit2 {W : World} {g : Nat} {D1 D2 M1 M2 E1 E2 r1 r2 : Int} {s1 s2 : Bool} (hg : W.heap.size = g) (h1 : M1 < 18446744073709551616) (h2 : M2 < 18446744073709551616) (k1 : rk D1 s1 M1 E1 = r1) (k2 : rk D2 s2 M2 E2 = r2) :
    Nl (W.alloc (.cells #[.int .i64 D1, .bool s1, .int .u64 M1, .int .i64 E1, .int .i64 D2, .bool s2, .int .u64 M2, .int .i64 E2] 38)) (some ⟨g, 0, none⟩) 2 2 [r1, r2] := by
  subst hg; have hh := heap_alloc_new W (.cells #[.int .i64 D1, .bool s1, .int .u64 M1, .int .i64 E1, .int .i64 D2, .bool s2, .int .u64 M2, .int .i64 E2] 38)
  refine ⟨rfl, Nat.le_refl _, by decide, fun _ => ⟨_, 0, rfl, fun k hk => ?_⟩⟩
  rcases (by omega : k = 0 ∨ k = 1) with rfl | rfl
  · exact ⟨D1, s1, M1, E1, by rw [cell_of_row _ _ _ _ _ _ hh]; rfl, by rw [cell_of_row _ _ _ _ _ _ hh]; rfl, by rw [cell_of_row _ _ _ _ _ _ hh]; rfl, by rw [cell_of_row _ _ _ _ _ _ hh]; rfl, h1, k1⟩
  · exact ⟨D2, s2, M2, E2, by rw [cell_of_row _ _ _ _ _ _ hh]; rfl, by rw [cell_of_row _ _ _ _ _ _ hh]; rfl, by rw [cell_of_row _ _ _ _ _ _ hh]; rfl, by rw [cell_of_row _ _ _ _ _ _ hh]; rfl, h2, k2⟩
theorem mnp_two {a b : Int} (ha : a ≤ 19342822337206103650074625) : mnp [a, b] = min a b := by
  have := TP_eq
  show min (min TP a) b = _
  omega
theorem mxp_two {a b : Int} (ha : -19342822337206103650074625 ≤ a) : mxp [a, b] = max a b := by
  have := TP_eq
  show max (max (-TP) a) b = _
  omega
theorem jvTwo {w : World} {e : Bool} {D M E D' M' E' : Int} {s s' : Bool} {e2 : Bool} {G P Q G' P' Q' : Int} {g g' : Bool} {x y z : Sp} (hM : M < 18446744073709551616) (hM' : M' < 18446744073709551616) (hP : P < 18446744073709551616) (hP' : P' < 18446744073709551616) (hx : rkI e D s M E D' s' M' E' = x) (hy : rkI e2 G g P Q G' g' P' Q' = y) (hr : meetI x y = z) : Calls Tryd.prog 29 #[.agg #[.bool e, .int .i64 D, .bool s, .int .u64 M, .int .i64 E, .int .i64 D', .bool s', .int .u64 M', .int .i64 E'], .agg #[.bool e2, .int .i64 G, .bool g, .int .u64 P, .int .i64 Q, .int .i64 G', .bool g', .int .u64 P', .int .i64 Q']] w (PV w z) := by
  have HX := Lib.hid hx; have HY := Lib.hid hy; clear hx hy
  go_enter Tryd.func29, Tryd.ntmps29
  go_upto_region 1 with (fail)
  generalize hW1 : ((w.alloc _).alloc _).alloc _ = w1 at *; obtain ⟨X2, X3, XR, HB⟩ := Bo.en3 hW1; clear hW1; have xX2 := X2.cell
  go_wp2_with fail
  refine (jvFair hM hM' HX.out).mono ?_; rintro ee w2 ⟨e1, K1, s1, M1, E1, K1b, s1b, M1b, E1b, rfl, v1, B⟩; clear xX2; replace X2 := X2.below B; replace X3 := X3.below B; replace XR := XR.below B; replace HB := Hqb HB B; clear B
  go_upto_region 2 with (fail)
  have lX5 := Nat.le_refl (World.heap w2).size; have nX5X2 := X2.lt; have nX5X3 := X3.lt; have nX5XR := XR.lt; generalize hWn : w2.alloc _ = w3 at *; obtain ⟨X5, BW⟩ := Bo.nw hWn; clear hWn; replace X2 := X2.below BW; replace X3 := X3.below BW; replace XR := XR.below BW; replace HB := Hqb HB BW; clear BW; clear lX5; have xX3 := X3.cell
  go_wp2_with fail
  refine (jvFair hP hP' HY.out).mono ?_; rintro ee w4 ⟨e2, K2, s2, M2, E2, K2b, s2b, M2b, E2b, rfl, v2, B⟩; clear xX3; replace X2 := X2.below B; replace X3 := X3.below B; replace XR := XR.below B; replace X5 := X5.below B; replace HB := Hqb HB B; clear B
  go_upto_region 3 with (fail)
  have lX6 := Nat.le_refl (World.heap w4).size; have nX6X2 := X2.lt; have nX6X3 := X3.lt; have nX6XR := XR.lt; have nX6X5 := X5.lt; generalize hWn : w4.alloc _ = w5 at *; obtain ⟨X6, BW⟩ := Bo.nw hWn; clear hWn; replace X2 := X2.below BW; replace X3 := X3.below BW; replace XR := XR.below BW; replace X5 := X5.below BW; replace HB := Hqb HB BW; clear BW; clear lX6; clear HX HY hM hM' hP hP'
  rcases x with _ | ⟨xa, xb⟩
  · obtain ⟨rfl, y1, y1b⟩ := v1
    obtain rfl : none = z := hr
    have xX5 := X5.cell; have xX6 := X6.cell
    go_wp2_with fail
    refine (jvNoneE).mono ?_; rintro ee w7 ⟨rfl, B⟩; clear xX5 xX6; replace XR := XR.below B; replace X5 := X5.below B; replace X6 := X6.below B; replace HB := Hqb HB B; clear B; have xXR := XR.cell; have zXR0 := XR.frozen; go_wp2; clear xXR zXR0
    have SX := StN.mk9 XR (.bool true) (.int .i64 0) (.bool false) (.int .u64 0) (.int .i64 0) (.int .i64 0) (.bool false) (.int .u64 0) (.int .i64 0); exact bodyPost_ret (by simp [results, Tryd.results29, go_sem, SX.box.cell]) rfl ⟨_, _, _, _, _, _, _, _, _, rfl, Ci.none, (SX.below HB.out (by omega))⟩
  · obtain ⟨rfl, a1, b1, o1, o1l, o1h⟩ := v1
    rcases y with _ | ⟨ya, yb⟩
    · obtain ⟨rfl, y2, y2b⟩ := v2; clear o1 o1l o1h
      obtain rfl : none = z := hr
      have xX5 := X5.cell; have xX6 := X6.cell
      go_wp2_with fail
      refine (jvNoneE).mono ?_; rintro ee w7 ⟨rfl, B⟩; clear xX5 xX6; replace XR := XR.below B; replace X5 := X5.below B; replace X6 := X6.below B; replace HB := Hqb HB B; clear B; have xXR := XR.cell; have zXR0 := XR.frozen; go_wp2; clear xXR zXR0
      have SX := StN.mk9 XR (.bool true) (.int .i64 0) (.bool false) (.int .u64 0) (.int .i64 0) (.int .i64 0) (.bool false) (.int .u64 0) (.int .i64 0); exact bodyPost_ret (by simp [results, Tryd.results29, go_sem, SX.box.cell]) rfl ⟨_, _, _, _, _, _, _, _, _, rfl, Ci.none, (SX.below HB.out (by omega))⟩
    · obtain ⟨rfl, a2, b2, o2, o2l, o2h⟩ := v2
      have hu : mxp [xa, ya] = max xa ya := mxp_two a1.bd.1
      have hl : mnp [xb, yb] = min xb yb := mnp_two b1.bd.2
      obtain ⟨u, hu2⟩ : ∃ u, max xa ya = u := ⟨_, rfl⟩; obtain ⟨l, hl2⟩ : ∃ l, min xb yb = l := ⟨_, rfl⟩
      have hr2 : mkI u l = z := by rw [← hu2, ← hl2]; exact hr
      rw [hu2] at hu; rw [hl2] at hl; have HU := Lib.hid hu; have HL := Lib.hid hl; have HR := Lib.hid hr2; clear hu hl hu2 hl2 hr hr2 o1 o1l o1h o2 o2l o2h; have xX5 := X5.cell; have xX6 := X6.cell
      go_upto_region 5 with (fail)
      clear xX5 xX6; refine Jo.rk [0, 1, 2, 3, 4, 5, 6, 7, 8, 9, 10, 11, 12] [some 18, some 19, some 20, some 21, some 22, some 23, some 24, some 25, some 26, some 27, some 28, some 29, some 30, none] [[], [0], [], [2], [1, 3], [4], [], [6], [], [8], [7, 9], [10], [5, 11], []] 14 1 [Jo.qp w2.heap.size 1, Jo.q4 K1 s1 M1 E1, Jo.qp w4.heap.size 1, Jo.q4 K2 s2 M2 E2, Jo.Fact.nl 2 [xa, ya], Jo.Fact.num u, Jo.qp w2.heap.size 5, Jo.q4 K1b s1b M1b E1b, Jo.qp w4.heap.size 5, Jo.q4 K2b s2b M2b E2b, Jo.Fact.nl 2 [xb, yb], Jo.Fact.num l, Jo.Fact.iv z, Jo.Fact.any] (by kernel_rfl) (by kernel_rfl) (by decide) rfl ?_ ?_
      · iterate 4 (refine Jo.jm rfl ?_ ?_; rotate_left)
        refine Jo.jm rfl ?_ ?_
        · rintro wj hJ _ rfl _ rfl K hK; simp only [Jo.z] at hK ⊢; go_simp; exact hK.out _ _ ⟨_, 2, rfl, Nl.lit2 rfl a1.top a2.top a1.rk a2.rk⟩ (bel1 _ _)
        refine Jo.jm rfl ?_ ?_
        · rintro wj hJ _ ⟨A4, c4, rfl, h4⟩ K hK; simp only [Jo.z] at hK ⊢; go_simp; refine (yMost h4 HU.out).mono ?_; rintro ee wk ⟨K3, s3, M3, E3, rfl, q3, B⟩; exact hK.out _ _ ⟨K3, s3, M3, E3, rfl, q3⟩ B
        iterate 4 (refine Jo.jm rfl ?_ ?_; rotate_left)
        refine Jo.jm rfl ?_ ?_
        · rintro wj hJ _ rfl _ rfl K hK; simp only [Jo.z] at hK ⊢; go_simp; exact hK.out _ _ ⟨_, 2, rfl, Nl.lit2 rfl b1.top b2.top b1.rk b2.rk⟩ (bel1 _ _)
        refine Jo.jm rfl ?_ ?_
        · rintro wj hJ _ ⟨A5, c5, rfl, h5⟩ K hK; simp only [Jo.z] at hK ⊢; go_simp; refine (yLeast h5 HL.out).mono ?_; rintro ee wk ⟨K4, s4, M4, E4, rfl, q4, B⟩; exact hK.out _ _ ⟨K4, s4, M4, E4, rfl, q4⟩ B
        refine Jo.jm rfl ?_ ?_
        · rintro wj hJ _ ⟨K3, s3, M3, E3, rfl, q3⟩ _ ⟨K4, s4, M4, E4, rfl, q4⟩ K hK; simp only [Jo.z] at hK ⊢; go_simp; refine (jvMake q3.top q4.top q3.rk q4.rk HR.out).mono ?_; rintro ee wk ⟨e5, K5, s5, M5, E5, K5b, s5b, M5b, E5b, rfl, v5, B⟩; exact hK.out _ _ ⟨e5, K5, s5, M5, E5, K5b, s5b, M5b, E5b, rfl, v5⟩ B
        exact Jo.Steps.nil
        all_goals (rintro wj hJ; (repeat rintro _ rfl); intro K hK; simp only [Jo.z] at hK ⊢; have xX5 := (X5.below hJ).cell; have xX6 := (X6.below hJ).cell; go_simp; exact hK.out _ _ rfl (br _ _))
      rintro w8 hJ _ _ _ rfl _ _ _ rfl _ ⟨A4, c4, rfl, _⟩ _ ⟨K3, s3, M3, E3, rfl, q3⟩ _ _ _ rfl _ _ _ rfl _ ⟨A5, c5, rfl, _⟩ _ ⟨K4, s4, M4, E4, rfl, q4⟩ _ ⟨e5, K5, s5, M5, E5, K5b, s5b, M5b, E5b, rfl, v5⟩ -; simp only [Jo.z]; replace XR := XR.below hJ; replace X5 := X5.below hJ; replace X6 := X6.below hJ; replace HB := Hqb HB hJ; have xXR := XR.cell
      have zXR0 := XR.frozen
      refine Jo.jnext (i := 13) (o := ⟨none, _, _, _, _, _⟩) (by kernel_rfl) rfl (fun K hK => ?_)
      go_simp; refine hK.out _ _ ?_; clear hK K xXR zXR0; have SX := StN.mk9 XR (.bool e5) (.int .i64 K5) (.bool s5) (.int .u64 M5) (.int .i64 E5) (.int .i64 K5b) (.bool s5b) (.int .u64 M5b) (.int .i64 E5b); refine Jo.jdone (by kernel_rfl) ?_; go_wp2; exact bodyPost_ret (by simp [results, Tryd.results29, go_sem, SX.box.cell]) rfl ⟨_, _, _, _, _, _, _, _, _, rfl, v5, (SX.below HB.out (by omega))⟩
theorem jvBoth {w : World} {e : Bool} {D M E D' M' E' : Int} {s s' : Bool} {e2 : Bool} {G P Q G' P' Q' : Int} {g g' : Bool} {x y z : Sp} (hM : M < 18446744073709551616) (hM' : M' < 18446744073709551616) (hP : P < 18446744073709551616) (hP' : P' < 18446744073709551616) (hx : rkI e D s M E D' s' M' E' = x) (hy : rkI e2 G g P Q G' g' P' Q' = y) (hr : hullI x y = z) : Calls Tryd.prog 30 #[.agg #[.bool e, .int .i64 D, .bool s, .int .u64 M, .int .i64 E, .int .i64 D', .bool s', .int .u64 M', .int .i64 E'], .agg #[.bool e2, .int .i64 G, .bool g, .int .u64 P, .int .i64 Q, .int .i64 G', .bool g', .int .u64 P', .int .i64 Q']] w (PV w z) := by
  have HX := Lib.hid hx; have HY := Lib.hid hy; clear hx hy
  go_enter Tryd.func30, Tryd.ntmps30
  go_upto_region 1 with (fail)
  generalize hW1 : ((w.alloc _).alloc _).alloc _ = w1 at *; obtain ⟨X2, X3, XR, HB⟩ := Bo.en3 hW1; clear hW1; have xX2 := X2.cell
  go_wp2_with fail
  refine (jvFair hM hM' HX.out).mono ?_; rintro ee w2 ⟨e1, K1, s1, M1, E1, K1b, s1b, M1b, E1b, rfl, v1, B⟩; clear xX2; replace X2 := X2.below B; replace X3 := X3.below B; replace XR := XR.below B; replace HB := Hqb HB B; clear B
  go_upto_region 2 with (fail)
  have lX5 := Nat.le_refl (World.heap w2).size; have nX5X2 := X2.lt; have nX5X3 := X3.lt; have nX5XR := XR.lt; generalize hWn : w2.alloc _ = w3 at *; obtain ⟨X5, BW⟩ := Bo.nw hWn; clear hWn; replace X2 := X2.below BW; replace X3 := X3.below BW; replace XR := XR.below BW; replace HB := Hqb HB BW; clear BW; clear lX5; have xX3 := X3.cell
  go_wp2_with fail
  refine (jvFair hP hP' HY.out).mono ?_; rintro ee w4 ⟨e2, K2, s2, M2, E2, K2b, s2b, M2b, E2b, rfl, v2, B⟩; clear xX3; replace X2 := X2.below B; replace X3 := X3.below B; replace XR := XR.below B; replace X5 := X5.below B; replace HB := Hqb HB B; clear B
  go_upto_region 3 with (fail)
  have lX6 := Nat.le_refl (World.heap w4).size; have nX6X2 := X2.lt; have nX6X3 := X3.lt; have nX6XR := XR.lt; have nX6X5 := X5.lt; generalize hWn : w4.alloc _ = w5 at *; obtain ⟨X6, BW⟩ := Bo.nw hWn; clear hWn; replace X2 := X2.below BW; replace X3 := X3.below BW; replace XR := XR.below BW; replace X5 := X5.below BW; replace HB := Hqb HB BW; clear BW; clear lX6; clear HX HY hM hM' hP hP'
  rcases x with _ | ⟨xa, xb⟩
  · obtain ⟨rfl, y1, y1b⟩ := v1
    obtain rfl : y = z := hr
    have xXR := XR.cell; have zXR0 := XR.frozen; have xX5 := X5.cell; have xX6 := X6.cell; go_wp2; clear xXR zXR0 xX5 xX6; have SX := StN.mk9 XR (.bool e2) (.int .i64 K2) (.bool s2) (.int .u64 M2) (.int .i64 E2) (.int .i64 K2b) (.bool s2b) (.int .u64 M2b) (.int .i64 E2b)
    exact bodyPost_ret (by simp [results, Tryd.results30, go_sem, SX.box.cell]) rfl ⟨_, _, _, _, _, _, _, _, _, rfl, v2, (SX.below HB.out (by omega))⟩
  · obtain ⟨rfl, a1, b1, o1, o1l, o1h⟩ := v1
    rcases y with _ | ⟨ya, yb⟩
    · obtain ⟨rfl, y2, y2b⟩ := v2
      obtain rfl : some (xa, xb) = z := hr
      have xXR := XR.cell; have zXR0 := XR.frozen; have xX5 := X5.cell; have xX6 := X6.cell; go_wp2; clear xXR zXR0 xX5 xX6; have SX := StN.mk9 XR (.bool false) (.int .i64 K1) (.bool s1) (.int .u64 M1) (.int .i64 E1) (.int .i64 K1b) (.bool s1b) (.int .u64 M1b) (.int .i64 E1b)
      exact bodyPost_ret (v := .agg #[.bool false, .int .i64 K1, .bool s1, .int .u64 M1, .int .i64 E1, .int .i64 K1b, .bool s1b, .int .u64 M1b, .int .i64 E1b]) (by simp [results, Tryd.results30, go_sem, SX.box.cell]) rfl ⟨_, _, _, _, _, _, _, _, _, rfl, ⟨rfl, a1, b1, o1, o1l, o1h⟩, (SX.below HB.out (by omega))⟩
    · obtain ⟨rfl, a2, b2, o2, o2l, o2h⟩ := v2
      have hu : mnp [xa, ya] = min xa ya := mnp_two a1.bd.2
      have hl : mxp [xb, yb] = max xb yb := mxp_two b1.bd.1
      obtain ⟨u, hu2⟩ : ∃ u, min xa ya = u := ⟨_, rfl⟩; obtain ⟨l, hl2⟩ : ∃ l, max xb yb = l := ⟨_, rfl⟩
      have hr2 : mkI u l = z := by rw [← hu2, ← hl2]; exact hr
      rw [hu2] at hu; rw [hl2] at hl; have HU := Lib.hid hu; have HL := Lib.hid hl; have HR := Lib.hid hr2; clear hu hl hu2 hl2 hr hr2 o1 o1l o1h o2 o2l o2h; have xX5 := X5.cell; have xX6 := X6.cell
      go_upto_region 7 with (fail)
      clear xX5 xX6; refine Jo.rk [0, 1, 2, 3, 4, 5, 6, 7, 8, 9, 10, 11, 12] [some 17, some 18, some 19, some 20, some 21, some 22, some 23, some 24, some 25, some 26, some 27, some 28, some 29, none] [[], [0], [], [2], [1, 3], [4], [], [6], [], [8], [7, 9], [10], [5, 11], []] 14 1 [Jo.qp w2.heap.size 1, Jo.q4 K1 s1 M1 E1, Jo.qp w4.heap.size 1, Jo.q4 K2 s2 M2 E2, Jo.Fact.nl 2 [xa, ya], Jo.Fact.num u, Jo.qp w2.heap.size 5, Jo.q4 K1b s1b M1b E1b, Jo.qp w4.heap.size 5, Jo.q4 K2b s2b M2b E2b, Jo.Fact.nl 2 [xb, yb], Jo.Fact.num l, Jo.Fact.iv z, Jo.Fact.any] (by kernel_rfl) (by kernel_rfl) (by decide) rfl ?_ ?_
      · iterate 4 (refine Jo.jm rfl ?_ ?_; rotate_left)
        refine Jo.jm rfl ?_ ?_
        · rintro wj hJ _ rfl _ rfl K hK; simp only [Jo.z] at hK ⊢; go_simp; exact hK.out _ _ ⟨_, 2, rfl, Nl.lit2 rfl a1.top a2.top a1.rk a2.rk⟩ (bel1 _ _)
        refine Jo.jm rfl ?_ ?_
        · rintro wj hJ _ ⟨A4, c4, rfl, h4⟩ K hK; simp only [Jo.z] at hK ⊢; go_simp; refine (yLeast h4 HU.out).mono ?_; rintro ee wk ⟨K3, s3, M3, E3, rfl, q3, B⟩; exact hK.out _ _ ⟨K3, s3, M3, E3, rfl, q3⟩ B
        iterate 4 (refine Jo.jm rfl ?_ ?_; rotate_left)
        refine Jo.jm rfl ?_ ?_
        · rintro wj hJ _ rfl _ rfl K hK; simp only [Jo.z] at hK ⊢; go_simp; exact hK.out _ _ ⟨_, 2, rfl, Nl.lit2 rfl b1.top b2.top b1.rk b2.rk⟩ (bel1 _ _)
        refine Jo.jm rfl ?_ ?_
        · rintro wj hJ _ ⟨A5, c5, rfl, h5⟩ K hK; simp only [Jo.z] at hK ⊢; go_simp; refine (yMost h5 HL.out).mono ?_; rintro ee wk ⟨K4, s4, M4, E4, rfl, q4, B⟩; exact hK.out _ _ ⟨K4, s4, M4, E4, rfl, q4⟩ B
        refine Jo.jm rfl ?_ ?_
        · rintro wj hJ _ ⟨K3, s3, M3, E3, rfl, q3⟩ _ ⟨K4, s4, M4, E4, rfl, q4⟩ K hK; simp only [Jo.z] at hK ⊢; go_simp; refine (jvMake q3.top q4.top q3.rk q4.rk HR.out).mono ?_; rintro ee wk ⟨e5, K5, s5, M5, E5, K5b, s5b, M5b, E5b, rfl, v5, B⟩; exact hK.out _ _ ⟨e5, K5, s5, M5, E5, K5b, s5b, M5b, E5b, rfl, v5⟩ B
        exact Jo.Steps.nil
        all_goals (rintro wj hJ; (repeat rintro _ rfl); intro K hK; simp only [Jo.z] at hK ⊢; have xX5 := (X5.below hJ).cell; have xX6 := (X6.below hJ).cell; go_simp; exact hK.out _ _ rfl (br _ _))
      rintro w8 hJ _ _ _ rfl _ _ _ rfl _ ⟨A4, c4, rfl, _⟩ _ ⟨K3, s3, M3, E3, rfl, q3⟩ _ _ _ rfl _ _ _ rfl _ ⟨A5, c5, rfl, _⟩ _ ⟨K4, s4, M4, E4, rfl, q4⟩ _ ⟨e5, K5, s5, M5, E5, K5b, s5b, M5b, E5b, rfl, v5⟩ -; simp only [Jo.z]; replace XR := XR.below hJ; replace X5 := X5.below hJ; replace X6 := X6.below hJ; replace HB := Hqb HB hJ; have xXR := XR.cell
      have zXR0 := XR.frozen
      refine Jo.jnext (i := 13) (o := ⟨none, _, _, _, _, _⟩) (by kernel_rfl) rfl (fun K hK => ?_)
      go_simp; refine hK.out _ _ ?_; clear hK K xXR zXR0; have SX := StN.mk9 XR (.bool e5) (.int .i64 K5) (.bool s5) (.int .u64 M5) (.int .i64 E5) (.int .i64 K5b) (.bool s5b) (.int .u64 M5b) (.int .i64 E5b); refine Jo.jdone (by kernel_rfl) ?_; go_wp2; exact bodyPost_ret (by simp [results, Tryd.results30, go_sem, SX.box.cell]) rfl ⟨_, _, _, _, _, _, _, _, _, rfl, v5, (SX.below HB.out (by omega))⟩
end Go.Proofs.YtpnmphofengoeaaDoor

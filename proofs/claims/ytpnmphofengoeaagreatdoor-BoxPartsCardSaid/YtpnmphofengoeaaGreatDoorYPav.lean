/-
  Contracts and words that the statement's proof rests on: Xb, Cg, Cm, Fa, Fe, Fd, Fn, Fo.
-/
import Derived.Test.YtpnmphofengoeaaGreatDoorYPau
namespace Go.Proofs.YtpnmphofengoeaaGreatDoor
open Go.RowKit
set_option linter.unusedVariables false
set_option maxRecDepth 100000

def rkV : V9 → Sp
  | (e, K, s, M, E, K', s', M', E') => rkI e K s M E K' s' M' E'
def topV : V9 → Prop
  | (_, _, _, M, _, _, _, M', _) => M < 18446744073709551616 ∧ M' < 18446744073709551616
def ciV : V9 → Sp → Prop
  | (e, K, s, M, E, K', s', M', E'), x => Ci e K s M E K' s' M' E' x
def valV : V9 → Value
  | (e, K, s, M, E, K', s', M', E') => .agg #[.bool e, .int .i64 K, .bool s, .int .u64 M, .int .i64 E, .int .i64 K', .bool s', .int .u64 M', .int .i64 E']
theorem ciV_rk {v : V9} {x : Sp} (h : ciV v x) : rkV v = x := Ci.rk h
theorem ciV_top {v : V9} {x : Sp} (h : ciV v x) : topV v := Ci.top h
theorem topV_ok {v : V9} (h : topV v) : SpOk (rkV v) := rkI_ok h.1 h.2
theorem topV_ci {v : V9} (h : topV v) (hn : rkV v ≠ none) : ciV v (rkV v) := by
  obtain ⟨e, K, s, M, E, K', s', M', E'⟩ := v; refine mayI_ci h.1 h.2 ?_
  cases hm : mayI e K s M E K' s' M' E'
  · exact absurd (mayI_no hm) hn
  · rfl
theorem ciV_uniq {u v : V9} {x : Sp} (h : ciV u x) (k : ciV v x) : u = v := by
  obtain ⟨e, K, s, M, E, K', s', M', E'⟩ := u; obtain ⟨e2, K2, s2, M2, E2, K2', s2', M2', E2'⟩ := v; obtain ⟨rfl, rfl, rfl, rfl, rfl, rfl, rfl, rfl, rfl⟩ := Ci.uniq h k
  rfl
def Iq (w : World) (A : Option Addr) (n c : Nat) (r : List V9) : Prop :=
  r.length = n ∧ n ≤ c ∧ n ≤ 1099511627776 ∧ (∀ v ∈ r, topV v) ∧ (0 < n → ∃ b o, A = some ⟨b, o, none⟩ ∧ ∀ j u, (vrow r)[j]? = some u → w.cell? ⟨b, o + j, none⟩ = some u)
theorem vrow_getD (r : List V9) (k : Nat) (hk : k < r.length) (v : V9) (hv : r[k]? = some v) :
    (vrow r)[k * 9]? = some (.bool v.1) ∧ (vrow r)[k * 9 + 1]? = some (.int .i64 v.2.1) ∧ (vrow r)[k * 9 + 2]? = some (.bool v.2.2.1) ∧ (vrow r)[k * 9 + 3]? = some (.int .u64 v.2.2.2.1) ∧ (vrow r)[k * 9 + 4]? = some (.int .i64 v.2.2.2.2.1) ∧ (vrow r)[k * 9 + 5]? = some (.int .i64 v.2.2.2.2.2.1) ∧ (vrow r)[k * 9 + 6]? = some (.bool v.2.2.2.2.2.2.1) ∧ (vrow r)[k * 9 + 7]? = some (.int .u64 v.2.2.2.2.2.2.2.1) ∧ (vrow r)[k * 9 + 8]? = some (.int .i64 v.2.2.2.2.2.2.2.2) := by
  obtain ⟨e, K, s, M, E, K', s', M', E'⟩ := v; exact vrow_at r k e K s M E K' s' M' E' hv
theorem vrow_split : ∀ (r : List V9) (j : Nat) (u : Value), (vrow r)[j]? = some u → ∃ k i v, r[k]? = some v ∧ j = k * 9 + i ∧ i < 9 ∧ (vrow [v])[i]? = some u
  | [], j, u, h => by cases h
  | v :: r, j, u, h => by
    have e : vrow (v :: r) = vrow [v] ++ vrow r := vrow_append [v] r
    rw [e] at h
    have hl : (vrow [v]).length = 9 := vrow_len [v]
    by_cases hj : j < 9
    · rw [List.getElem?_append_left (by omega)] at h; exact ⟨0, j, v, rfl, by omega, hj, h⟩
    · rw [List.getElem?_append_right (by omega), hl] at h; obtain ⟨k, i, v2, h1, h2, h3, h4⟩ := vrow_split r (j - 9) u h; exact ⟨k + 1, i, v2, h1, by omega, h3, h4⟩
section
variable {w w' : World} {base n c : Nat} {A : Option Addr} {l : List Sp} {r : List V9}
theorem Iq.il (h : Iq w A n c r) : Il8 w A n c (r.map rkV) := by
  obtain ⟨h1, h2, h3, h4, h5⟩ := h
  refine ⟨by rw [List.length_map, h1], h2, h3, fun hn => ?_⟩
  obtain ⟨b, o, e, hc⟩ := h5 hn
  refine ⟨b, o, e, fun k hk => ?_⟩
  obtain ⟨v, hv⟩ : ∃ v, r[k]? = some v := ⟨r[k], List.getElem?_eq_getElem (by omega)⟩; obtain ⟨c0, c1, c2, c3, c4, c5, c6, c7, c8⟩ := vrow_getD r k (by omega) v hv; have ht := h4 v (List.mem_of_getElem? hv); obtain ⟨e, K, s, M, E, K', s', M', E'⟩ := v; refine ⟨e, K, s, M, E, K', s', M', E', hc _ _ c0, ?_, ?_, ?_, ?_, ?_, ?_, ?_, ?_, ht.1, ht.2, ?_⟩
  iterate 8 (rw [Nat.add_assoc]; exact hc _ _ (by assumption))
  rw [List.getD_eq_getElem?_getD, List.getElem?_map, hv]
  rfl
theorem Il8.iq (h : Il8 w A n c l) : ∃ r, Iq w A n c r ∧ r.map rkV = l := by
  obtain ⟨h1, h2, h3, h4⟩ := h
  rcases Nat.eq_zero_or_pos n with h0 | h0
  · subst h0
    obtain rfl := List.eq_nil_of_length_eq_zero h1
    exact ⟨[], ⟨rfl, h2, h3, fun v hv => (by cases hv), fun hn => absurd hn (Nat.lt_irrefl _)⟩, rfl⟩
  · obtain ⟨b, o, e, hc⟩ := h4 h0
    have key : ∀ k, k ≤ n → ∃ r : List V9, r.length = k ∧ (∀ v ∈ r, topV v) ∧ (∀ j u, (vrow r)[j]? = some u → w.cell? ⟨b, o + j, none⟩ = some u) ∧ r.map rkV = l.take k := by
      intro k
      induction k with
      | zero => exact fun _ => ⟨[], rfl, fun v hv => (by cases hv), fun j u h => (by cases h), by simp⟩
      | succ k ih =>
        intro hk
        obtain ⟨r, r1, r2, r3, r4⟩ := ih (by omega); obtain ⟨e, K, s, M, E, K', s', M', E', c0, c1, c2, c3, c4, c5, c6, c7, c8, hM, hM', hr⟩ := hc k (by omega)
        refine ⟨r ++ [(e, K, s, M, E, K', s', M', E')], by simp [r1], fun v hv => ?_, fun j u hj => ?_, ?_⟩
        · rcases List.mem_append.1 hv with hv | hv
          · exact r2 v hv
          · obtain rfl := List.mem_singleton.1 hv
            exact ⟨hM, hM'⟩
        · rw [vrow_append] at hj
          have hl : (vrow r).length = k * 9 := by rw [vrow_len, r1]
          by_cases hjk : j < k * 9
          · rw [List.getElem?_append_left (by omega)] at hj; exact r3 j u hj
          · rw [List.getElem?_append_right (by omega), hl] at hj; obtain ⟨i, hi⟩ : ∃ i, j - k * 9 = i := ⟨_, rfl⟩; rw [hi] at hj
            obtain rfl : j = k * 9 + i := by omega
            have hb : i < 9 := by
              have := (List.getElem?_eq_some_iff.1 hj).1
              rw [vrow_len] at this
              simpa using this
            rw [← Nat.add_assoc]
            rcases (by omega : i = 0 ∨ i = 1 ∨ i = 2 ∨ i = 3 ∨ i = 4 ∨ i = 5 ∨ i = 6 ∨ i = 7 ∨ i = 8) with rfl | rfl | rfl | rfl | rfl | rfl | rfl | rfl | rfl <;> cases hj <;> assumption
        · rw [List.map_append, r4, List.take_succ_eq_append_getElem (by omega)]
          congr 1
          rw [List.getD_eq_getElem?_getD, List.getElem?_eq_getElem (by omega)] at hr
          exact congrArg (fun x => [x]) hr
    obtain ⟨r, r1, r2, r3, r4⟩ := key n (Nat.le_refl _)
    exact ⟨r, ⟨r1, h2, h3, r2, fun _ => ⟨b, o, e, r3⟩⟩, by rw [r4, List.take_of_length_le (by omega)]⟩
theorem Iq.below (h : Iq w A n c r) (hb : Below w.heap.size w w') : Iq w' A n c r := by
  obtain ⟨h1, h2, h3, h4, h5⟩ := h
  refine ⟨h1, h2, h3, h4, fun hn => ?_⟩
  obtain ⟨b, o, e, hc⟩ := h5 hn
  exact ⟨b, o, e, fun j u hj => (hb.cell (p := ⟨b, _, none⟩) (block_lt_of_cell (hc j u hj))).trans (hc j u hj)⟩
theorem Iq.kept {base2 : Nat} (h : Iq w A n c r) (hb : Below base2 w w') (hl : 0 < n → ∀ k, ownA A = some k → k < base2) : Iq w' A n c r := by
  obtain ⟨h1, h2, h3, h4, h5⟩ := h
  refine ⟨h1, h2, h3, h4, fun hn => ?_⟩
  obtain ⟨b, o, rfl, hc⟩ := h5 hn
  exact ⟨b, o, rfl, fun j u hj => (hb.cell (p := ⟨b, _, none⟩) (hl hn b rfl)).trans (hc j u hj)⟩
theorem Iq.lt (h : Iq w A n c r) (hn : 0 < n) : ∀ k, ownA A = some k → k < w.heap.size := by
  obtain ⟨h1, h2, h3, h4, h5⟩ := h; obtain ⟨b, o, rfl, hc⟩ := h5 hn
  intro k hk
  cases hk
  obtain ⟨u, hu⟩ : ∃ u, (vrow r)[0]? = some u := ⟨(vrow r)[0]'(by rw [vrow_len]; omega), List.getElem?_eq_getElem (by rw [vrow_len]; omega)⟩; exact block_lt_of_cell (hc 0 u hu)
theorem Iq.len (h : Iq w A n c r) : r.length = n := h.1
theorem Iq.top (h : Iq w A n c r) : ∀ v ∈ r, topV v := h.2.2.2.1
def Io (w : World) (base : Nat) (A : Option Addr) (n c : Nat) (r : List V9) : Prop :=
  w.ownsRow base 34 9 (.slice A n c) n (vrow r) ∧ r.length = n ∧ ∀ v ∈ r, topV v
theorem Io.kept {row : Option Nat} (h : Io w base A n c r) (hg : w.grownBy w' row) (hne : ownA A = none ∨ ownA A ≠ row) : Io w' base A n c r := ⟨h.1.kept hg (by rw [own_eq]; exact hne), h.2⟩
theorem Io.own_lt (h : Io w base A n c r) : ∀ k, ownA A = some k → base ≤ k ∧ k < w.heap.size := by
  intro k hk
  exact h.1.lt k (by rw [own_eq]; exact hk)
theorem Io.below (h : Io w base A n c r) (hb : Below w.heap.size w w') : Io w' base A n c r := by
  obtain ⟨h1, h2⟩ := h; refine ⟨⟨h1.1, ?_⟩, h2⟩
  rcases h1.2 with h3 | ⟨g, cap, cur, hv, hg, hh, q⟩
  · exact .inl h3
  · refine .inr ⟨g, cap, cur, hv, hg, ?_, q⟩; rw [hb.block g (Array.getElem?_eq_some_iff.1 hh).1]; exact hh
theorem Io.iq (h : Io w base A n c r) (hn : n ≤ 1099511627776) : Iq w A n c r := by
  obtain ⟨h1, h2, h3⟩ := h
  rcases h1.2 with ⟨e1, e2⟩ | ⟨g, cap, cur, hv, hg, hh, hc, hm, hs, ht⟩
  · injection e1 with a1 a2 a3
    subst a1; subst a2; subst a3
    exact ⟨h2, Nat.le_refl _, hn, h3, fun h => absurd h (Nat.lt_irrefl _)⟩
  · injection hv with a1 a2 a3
    subst a1; subst a3
    refine ⟨h2, hc, hn, h3, fun _ => ⟨g, 0, rfl, fun j u hj => ?_⟩⟩
    rw [cell_of_row w g (0 + j) _ _ (0, 0) hh, Nat.zero_add, ← Array.getElem?_toList]; rw [← ht, List.getElem?_take] at hj
    split at hj
    · exact hj
    · cases hj
theorem Io.ia (h : Io w base A n c r) (hl : l.length = n) (hc : ∀ k v, r[k]? = some v → ciV v (l.getD k none)) : Ia w base A n c l := by
  refine ⟨r, h.1, h.2.1, hl, fun k hk => ?_⟩
  have h2 := h.2.1
  have hv : r[k]? = some r[k] := List.getElem?_eq_getElem (by omega)
  have := hc k _ hv
  generalize r[k] = v at hv this; obtain ⟨e, K, s, M, E, K', s', M', E'⟩ := v; exact ⟨e, K, s, M, E, K', s', M', E', hv, this⟩
theorem Ia.io (h : Ia w base A n c l) : ∃ r, Io w base A n c r ∧ r.map rkV = l ∧ ∀ k v, r[k]? = some v → ciV v (l.getD k none) := by
  obtain ⟨r, h1, h2, h3, h4⟩ := h
  have hc : ∀ k v, r[k]? = some v → ciV v (l.getD k none) := by
    intro k v hv
    have hk := (List.getElem?_eq_some_iff.1 hv).1; obtain ⟨e, K, s, M, E, K', s', M', E', hr, q⟩ := h4 k (by omega); rw [hv] at hr
    cases hr
    exact q
  refine ⟨r, ⟨h1, h2, fun v hv => ?_⟩, ?_, hc⟩
  · obtain ⟨k, hk, e⟩ := List.getElem_of_mem hv; exact ciV_top (hc k v (by rw [List.getElem?_eq_getElem hk, e]))
  · apply List.ext_getElem?
    intro k
    rw [List.getElem?_map]
    rcases e : r[k]? with _ | v
    · rw [List.getElem?_eq_none_iff] at e; rw [List.getElem?_eq_none (by omega)]
      rfl
    · have hk := (List.getElem?_eq_some_iff.1 e).1
      have := ciV_rk (hc k v e)
      rw [List.getD_eq_getElem?_getD, List.getElem?_eq_getElem (by omega)] at this; rw [List.getElem?_eq_getElem (by omega)]; exact congrArg some this
theorem Io.same (h : Io w base A n c r) (he : bxEmp (r.map rkV) = false) : Ia w base A n c (r.map rkV) := by
  refine h.ia (by rw [List.length_map]; exact h.2.1) fun k v hv => ?_
  have hm := List.mem_of_getElem? hv
  have hn : rkV v ≠ none := fun e => (bxEmp_no.1 he) (e ▸ List.mem_map_of_mem hm)
  have := topV_ci (h.2.2 v hm) hn
  rw [List.getD_eq_getElem?_getD, List.getElem?_map, hv]; exact this
theorem Io.nil (w : World) (base : Nat) : Io w base none 0 0 [] := ⟨World.ownsRow_nil w base _ 9, rfl, fun v h => by cases h⟩
theorem Io.made (w : World) (cur : Array Value) (cap : Nat) (hm : cap ≤ maxLen) (hs : cur.size = cap * 9) (hb : base ≤ w.heap.size) : Io (w.alloc (.cells cur 34)) base (some ⟨w.heap.size, 0, none⟩) 0 cap [] :=
  ⟨World.ownsRow_made w cur cap hb hm hs, rfl, fun v h => by cases h⟩
theorem run_io {ty : TypeId} {m d : Nat} {a : Addr} {q : List V9} (h : Io w base A n c r) (k : Iq w (some a) m d q) (hn : n + m ≤ 1000000) (hb : base ≤ w.heap.size) :
    ∃ A2 c2 w', (Builtin.append_ #[22, 22] ty #[.slice A n c, .slice (some a) m d]).run Tryz.prog w = .ok (.slice A2 (n + m) c2) w' ∧ Io w' base A2 (n + m) c2 (r ++ q) ∧ w.grownBy w' (ownA A) ∧ (ownA A2 = ownA A ∨ ownA A2 = some w.heap.size) := by
  obtain ⟨i, hi, hz, hsi, hby⟩ := info_parts infoIv; obtain ⟨h1, h2, h3⟩ := h; obtain ⟨k1, k2, k3, k4, k5⟩ := k
  obtain ⟨v', w', hr, ho, hg, _, hat⟩ := run_append_own_at (P := Tryz.prog) w base 22 ty 34 i _ 9 72 Tryz.underlying22 hi hz hsi hby rfl (by decide) _ n (vrow r) h1 a m d (vrow q) (by rw [vrow_len, k1])
    (fun j u hj => by
      rcases Nat.eq_zero_or_pos m with h0 | h0
      · subst h0
        obtain rfl := List.eq_nil_of_length_eq_zero k1
        cases hj
      · obtain ⟨b, o, e, hc⟩ := k5 h0
        cases e
        rw [Addr.add_lit]; exact hc j u hj) (vrow_one q) (by unfold maxLen; omega) (by omega) hb
  rw [own_eq] at hg hat; rw [← vrow_append] at ho
  obtain ⟨A2, c2, rfl⟩ : ∃ A2 c2, v' = .slice A2 (n + m) c2 := by
    rcases ho.2 with ⟨e, h0⟩ | ⟨g', cap', cur', hv, _⟩
    · exact ⟨none, 0, by rw [e, h0]⟩
    · exact ⟨_, _, hv⟩
  rw [own_eq] at hat
  refine ⟨A2, c2, w', hr, ⟨ho, by rw [List.length_append, h2, k1], fun v hv => ?_⟩, hg, hat⟩
  rcases List.mem_append.1 hv with hv | hv
  · exact h3 v hv
  · exact k4 v hv
theorem wpList_io {ops : Array Oper} {rest : List Oper} {o : Oper} {a : Act} {Q : Exit → Act → World → Prop} (hgd : o.guard = none) (s x : Operand)
    (ho : o.op = .call { callee := .builtin .append, args := #[s, x], argTypes := #[22, 22] }) {m d : Nat} {B : Addr} {q : List V9}
    (hs : a.eval s = .slice A n c) (hx : a.eval x = .slice (some B) m d) (h : Io w base A n c r) (k : Iq w (some B) m d q) (hn : n + m ≤ 1000000) (hb : base ≤ w.heap.size)
    (hK : ∀ A2 c2 w', Io w' base A2 (n + m) c2 (r ++ q) → w.grownBy w' (ownA A) → (ownA A2 = ownA A ∨ ownA A2 = some w.heap.size) → wpList Tryz.prog ops Q rest (a.put o.dst (.slice A2 (n + m) c2)) w') : wpList Tryz.prog ops Q (o :: rest) a w := by
  refine wpList_plain hgd fun K hK2 => ?_
  obtain ⟨A2, c2, w', hr, h1, h2, h3⟩ := run_io (ty := o.type) h k hn hb
  unfold Oper.wp execOp
  simp only [ho, resolve, invoke, builtin, Sem.run_bind, Sem.run_pure, Result.andThen_ok, List.map_toArray, List.map_cons, List.map_nil, hs, hx, hr]; exact hK2 _ _ (hK A2 c2 w' h1 h2 h3)
/-! ### stores into one -/
theorem own_set {xs : List Value} {g : Nat} (h : w.ownsRow base 34 9 (.slice (some ⟨g, 0, none⟩) n c) n xs) (j : Nat) (u : Value) : (w.setCell ⟨g, j, none⟩ u).ownsRow base 34 9 (.slice (some ⟨g, 0, none⟩) n c) n (xs.set j u) := by
  obtain ⟨h1, h2⟩ := h; refine ⟨by rw [List.length_set]; exact h1, ?_⟩
  rcases h2 with ⟨e1, e2⟩ | ⟨g', cap, cur, hv, hg, hh, hc, hm, hs, ht⟩
  · cases e1
  · cases hv
    have X : Bo w g cur 34 := hh
    refine .inr ⟨g, c, _, rfl, hg, X.set j u, hc, hm, by rw [Array.size_setIfInBounds]; exact hs, ?_⟩
    rw [Array.toList_setIfInBounds, List.take_set, ht]
theorem vrow_set : ∀ (r : List V9) (i : Nat) (e : Bool) (K : Int) (s : Bool) (M E K' : Int) (s' : Bool) (M' E' : Int), i < r.length →
    (((((((((vrow r).set (i * 9) (.bool e)).set (i * 9 + 1) (.int .i64 K)).set (i * 9 + 2) (.bool s)).set (i * 9 + 3) (.int .u64 M)).set (i * 9 + 4) (.int .i64 E)).set (i * 9 + 5) (.int .i64 K')).set (i * 9 + 6) (.bool s')).set (i * 9 + 7) (.int .u64 M')).set (i * 9 + 8) (.int .i64 E') = vrow (r.set i (e, K, s, M, E, K', s', M', E'))
  | [], i, _, _, _, _, _, _, _, _, _, h => absurd h (Nat.not_lt_zero _)
  | (e0, K0, s0, M0, E0, K0', s0', M0', E0') :: r, 0, e, K, s, M, E, K', s', M', E', _ => rfl
  | (e0, K0, s0, M0, E0, K0', s0', M0', E0') :: r, i + 1, e, K, s, M, E, K', s', M', E', h => by
    have := vrow_set r i e K s M E K' s' M' E' (Nat.lt_of_succ_lt_succ h)
    have h0 : (i + 1) * 9 = i * 9 + 9 := by omega
    have hi : ∀ k, i * 9 + 9 + k = (i * 9 + k) + 9 := fun k => by omega
    show (((((((((vrow _).set ((i + 1) * 9) _).set _ _).set _ _).set _ _).set _ _).set _ _).set _ _).set _ _).set _ _ = _
    rw [h0, hi, hi, hi, hi, hi, hi, hi, hi]
    show _ :: _ :: _ :: _ :: _ :: _ :: _ :: _ :: _ :: (((((((((vrow r).set (i * 9) _).set (i * 9 + 1) _).set (i * 9 + 2) _).set (i * 9 + 3) _).set (i * 9 + 4) _).set (i * 9 + 5) _).set (i * 9 + 6) _).set (i * 9 + 7) _).set (i * 9 + 8) _ = _
    rw [this]
    rfl
theorem Io.set {g : Nat} (h : Io w base (some ⟨g, 0, none⟩) n c r) {i : Nat} (hi : i < n) {e : Bool} {K : Int} {s : Bool} {M E K' : Int} {s' : Bool} {M' E' : Int} (h1 : M < 18446744073709551616) (h2 : M' < 18446744073709551616) :
    Io (((((((((w.setCell ⟨g, i * 9, none⟩ (.bool e)).setCell ⟨g, i * 9 + 1, none⟩ (.int .i64 K)).setCell ⟨g, i * 9 + 2, none⟩ (.bool s)).setCell ⟨g, i * 9 + 3, none⟩ (.int .u64 M)).setCell ⟨g, i * 9 + 4, none⟩ (.int .i64 E)).setCell ⟨g, i * 9 + 5, none⟩ (.int .i64 K')).setCell ⟨g, i * 9 + 6, none⟩ (.bool s')).setCell ⟨g, i * 9 + 7, none⟩ (.int .u64 M')).setCell ⟨g, i * 9 + 8, none⟩ (.int .i64 E')) base (some ⟨g, 0, none⟩) n c (r.set i (e, K, s, M, E, K', s', M', E')) := by
  obtain ⟨k1, k2, k3⟩ := h
  refine ⟨?_, by rw [List.length_set]; exact k2, fun v hv => ?_⟩
  · rw [← vrow_set r i e K s M E K' s' M' E' (by omega)]; exact own_set (own_set (own_set (own_set (own_set (own_set (own_set (own_set (own_set k1 _ _) _ _) _ _) _ _) _ _) _ _) _ _) _ _) _ _
  · rcases List.mem_or_eq_of_mem_set hv with hv | rfl
    · exact k3 v hv
    · exact ⟨h1, h2⟩
theorem grown_set9 {g i : Nat} {v0 v1 v2 v3 v4 v5 v6 v7 v8 : Value} :
    w.grownBy (((((((((w.setCell ⟨g, i, none⟩ v0).setCell ⟨g, i + 1, none⟩ v1).setCell ⟨g, i + 2, none⟩ v2).setCell ⟨g, i + 3, none⟩ v3).setCell ⟨g, i + 4, none⟩ v4).setCell ⟨g, i + 5, none⟩ v5).setCell ⟨g, i + 6, none⟩ v6).setCell ⟨g, i + 7, none⟩ v7).setCell ⟨g, i + 8, none⟩ v8) (some g) := by
  have one : ∀ (W : World) (j : Nat) (v : Value), W.grownBy (W.setCell ⟨g, j, none⟩ v) (some g) := fun W j v => ⟨rfl, rfl, rfl, by simp, fun k _ hk => Below.heap_setCell _ _ _ k (fun e => hk (by rw [e]))⟩
  exact (((((((((one w i v0).trans (one _ _ v1)).trans (one _ _ v2)).trans (one _ _ v3)).trans (one _ _ v4)).trans (one _ _ v5)).trans (one _ _ v6)).trans (one _ _ v7)).trans (one _ _ v8))
end
end Go.Proofs.YtpnmphofengoeaaGreatDoor

namespace Go.Proofs.YtpnmphofengoeaaGreatDoor
set_option maxHeartbeats 4000000
open Go.RowKit
set_option linter.unusedVariables false
set_option linter.unusedSimpArgs false
set_option maxRecDepth 100000

theorem jvAllE {w : World} : Calls Tryz.prog 61 #[] w (fun e w' => e = .returned (.agg #[.bool false, .int .i64 2, .bool true, .int .u64 0, .int .i64 0, .int .i64 2, .bool false, .int .u64 0, .int .i64 0]) ∧ Below w.heap.size w w') := by
  refine jvAll.mono ?_; rintro ee w2 ⟨e1, K1, s1, M1, E1, K1b, s1b, M1b, E1b, rfl, v1, B⟩; obtain ⟨rfl, rfl, rfl, rfl, rfl, rfl, rfl, rfl, rfl⟩ := v1.uniq ci_all; exact ⟨rfl, B⟩
theorem cmp_lt {x y c : Int} (h : cmpI x y = c) : decide (c < 0) = decide (x < y) := by
  rw [← h]
  by_cases e : x < y
  · rw [decide_eq_true e]
    exact decide_eq_true (by rcases cmpI_tri x y with ⟨a, b⟩ | ⟨a, b⟩ | ⟨a, b⟩ <;> rw [b] <;> omega)
  · rw [decide_eq_false e]
    exact decide_eq_false (by rcases cmpI_tri x y with ⟨a, b⟩ | ⟨a, b⟩ | ⟨a, b⟩ <;> rw [b] <;> omega)
theorem cmp_gt {x y c : Int} (h : cmpI x y = c) : decide (0 < c) = decide (y < x) := by
  rw [← h]
  by_cases e : y < x
  · rw [decide_eq_true e]
    exact decide_eq_true (by rcases cmpI_tri x y with ⟨a, b⟩ | ⟨a, b⟩ | ⟨a, b⟩ <;> rw [b] <;> omega)
  · rw [decide_eq_false e]
    exact decide_eq_false (by rcases cmpI_tri x y with ⟨a, b⟩ | ⟨a, b⟩ | ⟨a, b⟩ <;> rw [b] <;> omega)
def NearS (x : Sp) : Prop := ∀ a b, x = some (a, b) → infp a = false → infp b = false → Near (ep a) (ep b)
theorem jvMid {w : World} {e : Bool} {D M E D' M' E' : Int} {s s' : Bool} {x : Sp} {r : Int} (hM : M < 18446744073709551616) (hM' : M' < 18446744073709551616) (hx : rkI e D s M E D' s' M' E' = x) (hn : NearS x) (hr : midI x = r) : Calls Tryz.prog 40 #[.agg #[.bool e, .int .i64 D, .bool s, .int .u64 M, .int .i64 E, .int .i64 D', .bool s', .int .u64 M', .int .i64 E']] w (PN w r) := by
  have HX := Lib.hid hx; clear hx
  go_enter Tryz.func40, Tryz.ntmps40
  go_upto_region 1 with (fail)
  generalize hW1 : (w.alloc _).alloc _ = w1 at *; obtain ⟨X1, XR, HB⟩ := Bo.en2 hW1; clear hW1; have xX1 := X1.cell
  go_wp2_with fail
  refine (jvFair hM hM' HX.out).mono ?_; rintro ee w2 ⟨e1, K1, s1, M1, E1, K1b, s1b, M1b, E1b, rfl, v1, B⟩; clear xX1; replace X1 := X1.below B; replace XR := XR.below B; replace HB := Hqb HB B; clear B
  go_upto_region 2 with (fail)
  have lX3 := Nat.le_refl (World.heap w2).size; have nX3X1 := X1.lt; have nX3XR := XR.lt; generalize hWn : w2.alloc _ = w3 at *; obtain ⟨X3, BW⟩ := Bo.nw hWn; clear hWn; replace X1 := X1.below BW; replace XR := XR.below BW; replace HB := Hqb HB BW; clear BW; clear lX3; clear HX hM hM'
  rcases x with _ | ⟨xa, xb⟩
  · obtain ⟨rfl, y1, y1b⟩ := v1
    obtain rfl : 0 = r := hr
    clear hn; have xX3 := X3.cell
    refine Jo.region_joint (T := [0, 1, 2, 3, 4, 5, 6]) (ds := [some 7, some 8, some 9, some 10, some 11, some 12, some 13]) (ls := [[], [0], [1], [2], [2], [2, 3, 4], [2, 5]]) (k := 7) (L := [(some 7, 0), (some 8, 1), (some 9, 2), (some 10, 3), (some 11, 4), (some 12, 5), (some 13, 6)]) (fuel := 0) (J := fun wj => Below (World.heap w3).size w3 wj)
      (F := [Jo.qp w2.heap.size 0, Jo.qb true, Jo.qb true, Jo.qu, Jo.qu, Jo.qu, Jo.qb true])
      (by kernel_rfl) (by kernel_rfl) (by decide) rfl rfl (fun _ _ h b => bt h b) ((br _ _).drew) ?_ (fun vs w4 hJ hd => ?_)
    clear xX3
    · refine Jo.jm rfl ?_ ?_; rotate_left
      refine Jo.jm rfl ?_ ?_
      · rintro wj hJ _ rfl K hK; simp only [Jo.z] at hK ⊢; have xX30 := (X3.below hJ).a 0 (.bool true) rfl; go_simp; exact hK.out _ _ rfl (br _ _)
      iterate 5 (refine Jo.jm rfl ?_ ?_; rotate_left)
      exact Jo.Steps.nil
      all_goals (rintro wj hJ; (repeat rintro _ rfl); intro K hK; simp only [Jo.z] at hK ⊢; go_simp; exact hK.out _ _ rfl (br _ _))
    have d3 : (Jo.qu).P (vs 3) w4 := hd 3 (by decide)
    have d4 : (Jo.qu).P (vs 4) w4 := hd 4 (by decide)
    have d5 : (Jo.qu).P (vs 5) w4 := hd 5 (by decide)
    simp only [Jo.putl, Jo.zd, Jo.ze, Act.put, Jo.za, Jo.zb, Jo.zc]
    rw [show vs 1 = _ from hd 1 (by decide), show vs 2 = _ from hd 2 (by decide), show vs 6 = _ from hd 6 (by decide)]
    clear hd; generalize vs 3 = u3 at d3 ⊢; generalize vs 4 = u4 at d4 ⊢; generalize vs 5 = u5 at d5 ⊢
    replace d3 : u3 = _ := d3
    subst d3
    replace d4 : u4 = _ := d4
    subst d4
    replace d5 : u5 = _ := d5
    subst d5; replace XR := XR.below hJ; replace X3 := X3.below hJ; replace HB := Hqb HB hJ; refine Jo.jdone (by kernel_rfl) ?_; have xXR := XR.cell; have zXR0 := XR.frozen; go_wp2; clear xXR zXR0; have SX := StN.mk4 XR (.int .i64 0) (.bool false) (.int .u64 0) (.int .i64 0); exact bodyPost_ret (by simp [results, Tryz.results40, go_sem, SX.box.cell]) rfl ⟨_, _, _, _, rfl, Fq.nought, (SX.below HB.out (by omega))⟩
  · obtain ⟨rfl, a1, b1, o1, o1l, o1h⟩ := v1; rw [mid_some] at hr; have hnr := hn xa xb rfl; clear hn
    by_cases hall : xa = -19342822337206103650074625 ∧ xb = 19342822337206103650074625
    · obtain ⟨rfl, rfl⟩ := hall; rw [if_pos ⟨rfl, rfl⟩] at hr
      obtain rfl : 0 = r := hr
      obtain ⟨rfl, rfl, rfl, rfl⟩ := a1.uniq (show Fq 2 true 0 0 (-19342822337206103650074625) from fq_inf2 true)
      obtain ⟨rfl, rfl, rfl, rfl⟩ := b1.uniq (show Fq 2 false 0 0 19342822337206103650074625 from fq_inf2 false)
      clear hnr; have xX3 := X3.cell
      refine Jo.region_joint (T := [0, 1, 2, 3, 4, 5, 6]) (ds := [some 7, some 8, some 9, some 10, some 11, some 12, some 13]) (ls := [[], [0], [1], [2], [2], [2, 3, 4], [2, 5]]) (k := 7) (L := [(some 7, 0), (some 8, 1), (some 9, 2), (some 10, 3), (some 11, 4), (some 12, 5), (some 13, 6)]) (fuel := 0) (J := fun wj => Below (World.heap w3).size w3 wj)
        (F := [Jo.qp w2.heap.size 0, Jo.qb false, Jo.qb false, Jo.q9 false 2 true 0 0 2 false 0 0, Jo.q9 false 2 true 0 0 2 false 0 0, Jo.qb true, Jo.qb true])
        (by kernel_rfl) (by kernel_rfl) (by decide) rfl rfl (fun _ _ h b => bt h b) ((br _ _).drew) ?_ (fun vs w4 hJ hd => ?_)
      clear xX3
      · refine Jo.jm rfl ?_ ?_; rotate_left
        refine Jo.jm rfl ?_ ?_
        · rintro wj hJ _ rfl K hK; simp only [Jo.z] at hK ⊢; have xX30 := (X3.below hJ).a 0 (.bool false) rfl; go_simp; exact hK.out _ _ rfl (br _ _)
        iterate 2 (refine Jo.jm rfl ?_ ?_; rotate_left)
        refine Jo.jm rfl ?_ ?_
        · rintro wj hJ _ rfl K hK; simp only [Jo.z] at hK ⊢; go_simp; refine (jvAllE).mono ?_; rintro ee wk ⟨rfl, B⟩; exact hK.out _ _ rfl B
        refine Jo.jm rfl ?_ ?_
        · rintro wj hJ _ rfl _ rfl _ rfl K hK; simp only [Jo.z] at hK ⊢; go_simp
          exact hK.out _ _ (by first | rfl | simp) (br _ _)
        refine Jo.jm rfl ?_ ?_; rotate_left
        exact Jo.Steps.nil
        all_goals (rintro wj hJ; (repeat rintro _ rfl); intro K hK; simp only [Jo.z] at hK ⊢; have xX3 := (X3.below hJ).cell; go_simp; exact hK.out _ _ rfl (br _ _))
      simp only [Jo.putl, Jo.zd, Jo.ze, Act.put, Jo.za, Jo.zb, Jo.zc]
      rw [show vs 1 = _ from hd 1 (by decide), show vs 2 = _ from hd 2 (by decide), show vs 3 = _ from hd 3 (by decide), show vs 4 = _ from hd 4 (by decide), show vs 5 = _ from hd 5 (by decide), show vs 6 = _ from hd 6 (by decide)]
      clear hd; replace XR := XR.below hJ; replace X3 := X3.below hJ; replace HB := Hqb HB hJ; refine Jo.jdone (by kernel_rfl) ?_; have xXR := XR.cell; have zXR0 := XR.frozen; go_wp2; clear xXR zXR0; have SX := StN.mk4 XR (.int .i64 0) (.bool false) (.int .u64 0) (.int .i64 0); exact bodyPost_ret (by simp [results, Tryz.results40, go_sem, SX.box.cell]) rfl ⟨_, _, _, _, rfl, Fq.nought, (SX.below HB.out (by omega))⟩
    · rw [if_neg hall] at hr
      have hne : ¬ (K1 = 2 ∧ s1 = true ∧ M1 = 0 ∧ E1 = 0 ∧ K1b = 2 ∧ s1b = false ∧ M1b = 0 ∧ E1b = 0) := by
        rintro ⟨rfl, rfl, rfl, rfl, rfl, rfl, rfl, rfl⟩; exact hall ⟨by rw [← a1.rk]; exact (fq_inf2 true).rk, by rw [← b1.rk]; exact (fq_inf2 false).rk⟩
      have HNE := Lib.hid hne; have i1 := fq_inf a1; have i2 := fq_inf b1; have htp := TP_eq
      have j1 : xa = -19342822337206103650074625 ↔ infp xa = true := by
        constructor
        · rintro rfl
          rfl
        · intro c
          rcases infp_true c with e | e <;> omega
      have j2 : xb = 19342822337206103650074625 ↔ infp xb = true := by
        constructor
        · rintro rfl
          rfl
        · intro c
          rcases infp_true c with e | e <;> omega
      rw [i1] at j1; rw [i2] at j2; clear hne hall htp; have xX3 := X3.cell
      refine Jo.region_joint (T := [0, 1, 2, 3, 4, 5, 6]) (ds := [some 7, some 8, some 9, some 10, some 11, some 12, some 13]) (ls := [[], [0], [1], [2], [2], [2, 3, 4], [2, 5]]) (k := 7) (L := [(some 7, 0), (some 8, 1), (some 9, 2), (some 10, 3), (some 11, 4), (some 12, 5), (some 13, 6)]) (fuel := 0) (J := fun wj => Below (World.heap w3).size w3 wj)
        (F := [Jo.qp w2.heap.size 0, Jo.qb false, Jo.qb false, Jo.q9 false K1 s1 M1 E1 K1b s1b M1b E1b, Jo.q9 false 2 true 0 0 2 false 0 0, Jo.qb false, Jo.qb false])
        (by kernel_rfl) (by kernel_rfl) (by decide) rfl rfl (fun _ _ h b => bt h b) ((br _ _).drew) ?_ (fun vs w4 hJ hd => ?_)
      clear xX3
      · refine Jo.jm rfl ?_ ?_; rotate_left
        refine Jo.jm rfl ?_ ?_
        · rintro wj hJ _ rfl K hK; simp only [Jo.z] at hK ⊢; have xX30 := (X3.below hJ).a 0 (.bool false) rfl; go_simp; exact hK.out _ _ rfl (br _ _)
        iterate 2 (refine Jo.jm rfl ?_ ?_; rotate_left)
        refine Jo.jm rfl ?_ ?_
        · rintro wj hJ _ rfl K hK; simp only [Jo.z] at hK ⊢; go_simp; refine (jvAllE).mono ?_; rintro ee wk ⟨rfl, B⟩; exact hK.out _ _ rfl B
        refine Jo.jm rfl ?_ ?_
        · rintro wj hJ _ rfl _ rfl _ rfl K hK; simp only [Jo.z] at hK ⊢; have hne := HNE.out; go_simp
          repeat' split
          all_goals exact hK.out _ _ (congrArg Value.bool (by first | rfl | (exfalso; simp_all))) (br _ _)
        refine Jo.jm rfl ?_ ?_; rotate_left
        exact Jo.Steps.nil
        all_goals (rintro wj hJ; (repeat rintro _ rfl); intro K hK; simp only [Jo.z] at hK ⊢; have xX3 := (X3.below hJ).cell; go_simp; exact hK.out _ _ rfl (br _ _))
      simp only [Jo.putl, Jo.zd, Jo.ze, Act.put, Jo.za, Jo.zb, Jo.zc]
      rw [show vs 1 = _ from hd 1 (by decide), show vs 2 = _ from hd 2 (by decide), show vs 3 = _ from hd 3 (by decide), show vs 4 = _ from hd 4 (by decide), show vs 5 = _ from hd 5 (by decide), show vs 6 = _ from hd 6 (by decide)]
      clear hd; replace XR := XR.below hJ; replace X3 := X3.below hJ; replace HB := Hqb HB hJ; refine Jo.jdone (by kernel_rfl) ?_; clear HNE
      by_cases k1 : K1 = 2
      · subst k1; rw [if_pos (j1.2 rfl)] at hr
        obtain rfl : xb = r := hr
        clear i1 i2 j1 j2 hnr o1 o1l o1h; have xXR := XR.cell; have zXR0 := XR.frozen; have xX3 := X3.cell; go_wp2; clear xXR zXR0 xX3; have SX := StN.mk4 XR (.int .i64 K1b) (.bool s1b) (.int .u64 M1b) (.int .i64 E1b); exact bodyPost_ret (by simp [results, Tryz.results40, go_sem, SX.box.cell]) rfl ⟨_, _, _, _, rfl, b1, (SX.below HB.out (by omega))⟩
      · have e1 : (K1 == 2) = false := by simpa using k1
        rw [if_neg (fun c => by have := j1.1 c; rw [e1] at this; cases this)] at hr
        clear j1
        by_cases k2 : K1b = 2
        · subst k2; rw [if_pos (j2.2 rfl)] at hr
          obtain rfl : xa = r := hr
          clear i1 i2 j2 hnr o1 o1l o1h; have xXR := XR.cell; have zXR0 := XR.frozen; have xX3 := X3.cell; go_wp2; clear xXR zXR0 xX3; have SX := StN.mk4 XR (.int .i64 K1) (.bool s1) (.int .u64 M1) (.int .i64 E1); exact bodyPost_ret (by simp [results, Tryz.results40, go_sem, SX.box.cell]) rfl ⟨_, _, _, _, rfl, a1, (SX.below HB.out (by omega))⟩
        · have e2 : (K1b == 2) = false := by simpa using k2
          rw [if_neg (fun c => by have := j2.1 c; rw [e2] at this; cases this)] at hr
          clear j2; have hN := hnr (i1.trans e1) (i2.trans e2); obtain ⟨u, hu⟩ : ∃ u, addp false xa xb = u := ⟨_, rfl⟩; rw [hu] at hr; obtain ⟨m, hm⟩ : ∃ m, mulp false u 9670816261106674691997697 = m := ⟨_, rfl⟩
          have hr2 : clp m xa xb = r := by rw [← hm]; exact hr
          have HU := Lib.hid hu; have HM := Lib.hid hm; have HN := Lib.hid hN; clear hu hm hN hr i1 i2 hnr o1 o1l o1h; have xX3 := X3.cell
          go_wp2_with fail
          refine (gAdd a1.top b1.top a1.rk b1.rk (fun _ _ => HN.out) HU.out).mono ?_
          rintro ee w5 ⟨K2, s2, M2, E2, rfl, q2, B⟩; clear xX3; replace XR := XR.below B; replace X3 := X3.below B; replace HB := Hqb HB B; clear B
          go_wp2_with fail
          refine (gHalf q2.top q2.rk HM.out).mono ?_; rintro ee w6 ⟨K3, s3, M3, E3, rfl, q3, B⟩; replace XR := XR.below B; replace X3 := X3.below B; replace HB := Hqb HB B; clear B
          go_upto_region 9 with (fail)
          have lX4 := Nat.le_refl (World.heap w6).size; have nX4XR := XR.lt; have nX4X3 := X3.lt; generalize hWn : w6.alloc _ = w7 at *; obtain ⟨X4, BW⟩ := Bo.nw hWn; clear hWn; replace XR := XR.below BW; replace X3 := X3.below BW; replace HB := Hqb HB BW; clear BW; clear lX4 HU HM HN q2; obtain ⟨c, hc⟩ : ∃ c, cmpI m xa = c := ⟨_, rfl⟩; have ht := cmp_lt hc
          have HC : Hid (cmpI (rk K3 s3 M3 E3) (rk K1 s1 M1 E1) = c) := Lib.hid (by rw [q3.rk, a1.rk]; exact hc)
          clear hc; have xX3 := X3.cell; have xX4 := X4.cell
          go_wp2_with fail
          refine (yCmp q3.top a1.top HC.out).mono ?_; rintro ee w8 ⟨rfl, B⟩; clear xX3 xX4; replace XR := XR.below B; replace X3 := X3.below B; replace X4 := X4.below B; replace HB := Hqb HB B; clear B; clear HC
          by_cases hl : m < xa
          · rw [decide_eq_true hl] at ht
            unfold clp at hr2
            rw [if_pos hl] at hr2
            obtain rfl : xa = r := hr2
            clear hl; have xXR := XR.cell; have zXR0 := XR.frozen; have xX3 := X3.cell; have xX4 := X4.cell; go_wp2; clear xXR zXR0 xX3 xX4; have SX := StN.mk4 XR (.int .i64 K1) (.bool s1) (.int .u64 M1) (.int .i64 E1); exact bodyPost_ret (by simp [results, Tryz.results40, go_sem, SX.box.cell]) rfl ⟨_, _, _, _, rfl, a1, (SX.below HB.out (by omega))⟩
          · rw [decide_eq_false hl] at ht
            unfold clp at hr2
            rw [if_neg hl] at hr2; clear hl; obtain ⟨d, hd⟩ : ∃ d, cmpI m xb = d := ⟨_, rfl⟩; have ht2 := cmp_gt hd
            have HD : Hid (cmpI (rk K3 s3 M3 E3) (rk K1b s1b M1b E1b) = d) := Lib.hid (by rw [q3.rk, b1.rk]; exact hd)
            clear hd; have xX3 := X3.cell; have xX4 := X4.cell
            go_wp2_with fail
            refine (yCmp q3.top b1.top HD.out).mono ?_; rintro ee w9 ⟨rfl, B⟩; clear xX3 xX4; replace XR := XR.below B; replace X3 := X3.below B; replace X4 := X4.below B; replace HB := Hqb HB B; clear B; clear HD
            by_cases hl : xb < m
            · rw [decide_eq_true hl] at ht2; rw [if_pos hl] at hr2
              obtain rfl : xb = r := hr2
              clear hl; have xXR := XR.cell; have zXR0 := XR.frozen; have xX3 := X3.cell; have xX4 := X4.cell; go_wp2; clear xXR zXR0 xX3 xX4; have SX := StN.mk4 XR (.int .i64 K1b) (.bool s1b) (.int .u64 M1b) (.int .i64 E1b); exact bodyPost_ret (by simp [results, Tryz.results40, go_sem, SX.box.cell]) rfl ⟨_, _, _, _, rfl, b1, (SX.below HB.out (by omega))⟩
            · rw [decide_eq_false hl] at ht2; rw [if_neg hl] at hr2
              obtain rfl : m = r := hr2
              clear hl; have xXR := XR.cell; have zXR0 := XR.frozen; have xX3 := X3.cell; have xX4 := X4.cell; go_wp2; clear xXR zXR0 xX3 xX4; have SX := StN.mk4 XR (.int .i64 K3) (.bool s3) (.int .u64 M3) (.int .i64 E3); exact bodyPost_ret (by simp [results, Tryz.results40, go_sem, SX.box.cell]) rfl ⟨_, _, _, _, rfl, q3, (SX.below HB.out (by omega))⟩
theorem jvWidth {w : World} {e : Bool} {D M E D' M' E' : Int} {s s' : Bool} {x : Sp} {r : Int} (hM : M < 18446744073709551616) (hM' : M' < 18446744073709551616) (hx : rkI e D s M E D' s' M' E' = x) (hn : ∀ a b, x = some (a, b) → infp b = false → infp (-a) = false → Near (ep b) (ep (-a))) (hr : widI x = r) : Calls Tryz.prog 25 #[.agg #[.bool e, .int .i64 D, .bool s, .int .u64 M, .int .i64 E, .int .i64 D', .bool s', .int .u64 M', .int .i64 E']] w (PN w r) := by
  have HX := Lib.hid hx; clear hx
  go_enter Tryz.func25, Tryz.ntmps25
  go_upto_region 1 with (fail)
  generalize hW1 : (w.alloc _).alloc _ = w1 at *; obtain ⟨X1, XR, HB⟩ := Bo.en2 hW1; clear hW1; have xX1 := X1.cell
  go_wp2_with fail
  refine (jvFair hM hM' HX.out).mono ?_; rintro ee w2 ⟨e1, K1, s1, M1, E1, K1b, s1b, M1b, E1b, rfl, v1, B⟩; clear xX1; replace X1 := X1.below B; replace XR := XR.below B; replace HB := Hqb HB B; clear B
  go_upto_region 2 with (fail)
  have lX3 := Nat.le_refl (World.heap w2).size; have nX3X1 := X1.lt; have nX3XR := XR.lt; generalize hWn : w2.alloc _ = w3 at *; obtain ⟨X3, BW⟩ := Bo.nw hWn; clear hWn; replace X1 := X1.below BW; replace XR := XR.below BW; replace HB := Hqb HB BW; clear BW; clear lX3; clear HX hM hM'
  rcases x with _ | ⟨xa, xb⟩
  · obtain ⟨rfl, y1, y1b⟩ := v1
    obtain rfl : 0 = r := hr
    clear hn; have xXR := XR.cell; have zXR0 := XR.frozen; have xX3 := X3.cell; go_wp2; clear xXR zXR0 xX3; have SX := StN.mk4 XR (.int .i64 0) (.bool false) (.int .u64 0) (.int .i64 0); exact bodyPost_ret (by simp [results, Tryz.results25, go_sem, SX.box.cell]) rfl ⟨_, _, _, _, rfl, Fq.nought, (SX.below HB.out (by omega))⟩
  · obtain ⟨rfl, a1, b1, o1, o1l, o1h⟩ := v1
    have HR := Lib.hid (show addp true xb (-xa) = r from hr)
    have HN := Lib.hid (hn xa xb rfl); clear hr hn o1 o1l o1h; have xX3 := X3.cell
    go_wp2_with fail
    refine (gSub b1.top a1.top b1.rk (by rw [a1.rk]) HN.out HR.out).mono ?_; rintro ee w4 ⟨K2, s2, M2, E2, rfl, q2, B⟩; clear xX3; replace XR := XR.below B; replace X3 := X3.below B; replace HB := Hqb HB B; clear B; have xXR := XR.cell; have zXR0 := XR.frozen; go_wp2; clear xXR zXR0; have SX := StN.mk4 XR (.int .i64 K2) (.bool s2) (.int .u64 M2) (.int .i64 E2)
    exact bodyPost_ret (by simp [results, Tryz.results25, go_sem, SX.box.cell]) rfl ⟨_, _, _, _, rfl, q2, (SX.below HB.out (by omega))⟩
def PV2 (w : World) (x y : Sp) (e : Ending) (w' : World) : Prop := ∃ e0 K s M E K' s' M' E' e1 G g P Q G' g' P' Q', e = .returned (.tuple #[.agg #[.bool e0, .int .i64 K, .bool s, .int .u64 M, .int .i64 E, .int .i64 K', .bool s', .int .u64 M', .int .i64 E'], .agg #[.bool e1, .int .i64 G, .bool g, .int .u64 P, .int .i64 Q, .int .i64 G', .bool g', .int .u64 P', .int .i64 Q']]) ∧ Ci e0 K s M E K' s' M' E' x ∧ Ci e1 G g P Q G' g' P' Q' y ∧ Below w.heap.size w w'
theorem jvSplit {w : World} {e : Bool} {D M E D' M' E' : Int} {s s' : Bool} {x y z : Sp} (hM : M < 18446744073709551616) (hM' : M' < 18446744073709551616) (hx : rkI e D s M E D' s' M' E' = x) (hn : NearS x) (hy : loI x = y) (hz : hiI x = z) : Calls Tryz.prog 18 #[.agg #[.bool e, .int .i64 D, .bool s, .int .u64 M, .int .i64 E, .int .i64 D', .bool s', .int .u64 M', .int .i64 E']] w (PV2 w y z) := by
  have HX := Lib.hid hx; clear hx
  go_enter Tryz.func18, Tryz.ntmps18
  go_upto_region 1 with (fail)
  generalize hW1 : ((w.alloc _).alloc _).alloc _ = w1 at *; obtain ⟨X1, XR, XS, HB⟩ := Bo.en3 hW1; clear hW1; have xX1 := X1.cell
  go_wp2_with fail
  refine (jvFair hM hM' HX.out).mono ?_; rintro ee w2 ⟨e1, K1, s1, M1, E1, K1b, s1b, M1b, E1b, rfl, v1, B⟩; clear xX1; replace X1 := X1.below B; replace XR := XR.below B; replace XS := XS.below B; replace HB := Hqb HB B; clear B
  go_upto_region 2 with (fail)
  have lX4 := Nat.le_refl (World.heap w2).size; have nX4X1 := X1.lt; have nX4XR := XR.lt; have nX4XS := XS.lt; generalize hWn : w2.alloc _ = w3 at *; obtain ⟨X4, BW⟩ := Bo.nw hWn; clear hWn; replace X1 := X1.below BW; replace XR := XR.below BW; replace XS := XS.below BW; replace HB := Hqb HB BW; clear BW; clear lX4; clear HX hM hM'
  rcases x with _ | ⟨xa, xb⟩
  · obtain ⟨rfl, y1, y1b⟩ := v1
    obtain rfl : none = y := hy
    obtain rfl : none = z := hz
    clear hn; have xX4 := X4.cell
    go_wp2_with fail
    refine (jvNoneE).mono ?_; rintro ee w4 ⟨rfl, B⟩; clear xX4; replace XR := XR.below B; replace XS := XS.below B; replace X4 := X4.below B; replace HB := Hqb HB B; clear B
    go_wp2_with fail
    refine (jvNoneE).mono ?_; rintro ee w5 ⟨rfl, B⟩; replace XR := XR.below B; replace XS := XS.below B; replace X4 := X4.below B; replace HB := Hqb HB B; clear B; have xXR := XR.cell; have zXR0 := XR.frozen; have xXS := XS.cell; have zXS0 := XS.frozen; go_wp2; clear xXR zXR0 xXS zXS0
    generalize hS : ((((((((w5.setCell _ _).setCell _ _).setCell _ _).setCell _ _).setCell _ _).setCell _ _).setCell _ _).setCell _ _).setCell _ _ = w6 at *; have SX := StN.of9 XR hS; replace XS := XS.stn SX (by omega); replace X4 := X4.stn SX (by omega); replace HB := Hqs HB SX (by omega); replace XR := SX.box; clear SX hS; generalize hS : ((((((((w6.setCell _ _).setCell _ _).setCell _ _).setCell _ _).setCell _ _).setCell _ _).setCell _ _).setCell _ _).setCell _ _ = w7 at *
    have SX := StN.of9 XS hS; replace XR := XR.stn SX (by omega); replace X4 := X4.stn SX (by omega); replace HB := Hqs HB SX (by omega); replace XS := SX.box; clear SX hS; exact bodyPost_ret (v := .tuple #[.agg #[.bool true, .int .i64 0, .bool false, .int .u64 0, .int .i64 0, .int .i64 0, .bool false, .int .u64 0, .int .i64 0], .agg #[.bool true, .int .i64 0, .bool false, .int .u64 0, .int .i64 0, .int .i64 0, .bool false, .int .u64 0, .int .i64 0]]) (by simp [results, Tryz.results18, go_sem, XR.cell, XS.cell]) rfl ⟨_, _, _, _, _, _, _, _, _, _, _, _, _, _, _, _, _, _, rfl, Ci.none, Ci.none, HB.out⟩
  · obtain ⟨rfl, a1, b1, o1, o1l, o1h⟩ := v1; obtain ⟨m, hm⟩ : ∃ m, midI (some (xa, xb)) = m := ⟨_, rfl⟩
    have hy2 : mkI xa m = y := by rw [← hm]; exact hy
    have hz2 : mkI m xb = z := by rw [← hm]; exact hz
    have HMD := Lib.hid hm; have HY := Lib.hid hy2; have HZ := Lib.hid hz2
    have hci : Ci false K1 s1 M1 E1 K1b s1b M1b E1b (some (xa, xb)) := ⟨rfl, a1, b1, o1, o1l, o1h⟩
    clear hy hz hm hy2 hz2 o1 o1l o1h; have xX4 := X4.cell
    go_wp2_with fail
    refine (jvMid hci.top.1 hci.top.2 hci.rk hn HMD.out).mono ?_; rintro ee w4 ⟨K2, s2, M2, E2, rfl, q2, B⟩; clear xX4; replace XR := XR.below B; replace XS := XS.below B; replace X4 := X4.below B; replace HB := Hqb HB B; clear B; clear HMD hn hci
    go_upto_region 5 with (fail)
    have lX5 := Nat.le_refl (World.heap w4).size; have nX5XR := XR.lt; have nX5XS := XS.lt; have nX5X4 := X4.lt; generalize hWn : w4.alloc _ = w5 at *; obtain ⟨X5, BW⟩ := Bo.nw hWn; clear hWn; replace XR := XR.below BW; replace XS := XS.below BW; replace X4 := X4.below BW; replace HB := Hqb HB BW; clear BW; clear lX5; refine Jo.rk [0, 1, 2, 3, 4, 5, 6, 7] [some 14, some 15, some 16, some 17, some 18, some 19, some 20, some 21, none, none] [[], [0], [], [1, 2], [], [], [5], [4, 6], [], []] 10 2 [Jo.qp w2.heap.size 1, Jo.q4 K1 s1 M1 E1, Jo.q4 K2 s2 M2 E2, Jo.Fact.iv y, Jo.q4 K2 s2 M2 E2, Jo.qp w2.heap.size 5, Jo.q4 K1b s1b M1b E1b, Jo.Fact.iv z, Jo.Fact.any, Jo.Fact.any] (by kernel_rfl) (by kernel_rfl) (by decide) rfl ?_ ?_
    · iterate 3 (refine Jo.jm rfl ?_ ?_; rotate_left)
      refine Jo.jm rfl ?_ ?_
      · rintro wj hJ _ rfl _ rfl K hK; simp only [Jo.z] at hK ⊢; go_simp; refine (jvMake a1.top q2.top a1.rk q2.rk HY.out).mono ?_; rintro ee wk ⟨e3, K3, s3, M3, E3, K3b, s3b, M3b, E3b, rfl, v3, B⟩; exact hK.out _ _ ⟨e3, K3, s3, M3, E3, K3b, s3b, M3b, E3b, rfl, v3⟩ B
      iterate 3 (refine Jo.jm rfl ?_ ?_; rotate_left)
      refine Jo.jm rfl ?_ ?_
      · rintro wj hJ _ rfl _ rfl K hK; simp only [Jo.z] at hK ⊢; go_simp; refine (jvMake q2.top b1.top q2.rk b1.rk HZ.out).mono ?_; rintro ee wk ⟨e4, K4, s4, M4, E4, K4b, s4b, M4b, E4b, rfl, v4, B⟩; exact hK.out _ _ ⟨e4, K4, s4, M4, E4, K4b, s4b, M4b, E4b, rfl, v4⟩ B
      exact Jo.Steps.nil
      all_goals (rintro wj hJ; (repeat rintro _ rfl); intro K hK; simp only [Jo.z] at hK ⊢; have xX4 := (X4.below hJ).cell; have xX5 := (X5.below hJ).cell; go_simp; exact hK.out _ _ rfl (br _ _))
    rintro w8 hJ _ _ _ rfl _ rfl _ ⟨e3, K3, s3, M3, E3, K3b, s3b, M3b, E3b, rfl, v3⟩ _ rfl _ _ _ rfl _ ⟨e4, K4, s4, M4, E4, K4b, s4b, M4b, E4b, rfl, v4⟩ -; simp only [Jo.z]; replace XR := XR.below hJ; replace XS := XS.below hJ; replace X4 := X4.below hJ; replace X5 := X5.below hJ; replace HB := Hqb HB hJ; have xXR := XR.cell; have zXR0 := XR.frozen
    refine Jo.jnext (i := 8) (o := ⟨none, _, _, _, _, _⟩) (by kernel_rfl) rfl (fun K hK => ?_)
    go_simp; refine hK.out _ _ ?_; clear hK K xXR zXR0; generalize hS : ((((((((w8.setCell _ _).setCell _ _).setCell _ _).setCell _ _).setCell _ _).setCell _ _).setCell _ _).setCell _ _).setCell _ _ = w9 at *; have SX := StN.of9 XR hS; replace XS := XS.stn SX (by omega); replace X4 := X4.stn SX (by omega); replace X5 := X5.stn SX (by omega); replace HB := Hqs HB SX (by omega)
    replace XR := SX.box; clear SX hS; have xXS := XS.cell; have zXS0 := XS.frozen
    refine Jo.jnext (i := 9) (o := ⟨none, _, _, _, _, _⟩) (by kernel_rfl) rfl (fun K hK => ?_)
    go_simp; refine hK.out _ _ ?_; clear hK K xXS zXS0; generalize hS : ((((((((w9.setCell _ _).setCell _ _).setCell _ _).setCell _ _).setCell _ _).setCell _ _).setCell _ _).setCell _ _).setCell _ _ = wA at *; have SX := StN.of9 XS hS; replace XR := XR.stn SX (by omega); replace X4 := X4.stn SX (by omega); replace X5 := X5.stn SX (by omega); replace HB := Hqs HB SX (by omega)
    replace XS := SX.box; clear SX hS; refine Jo.jdone (by kernel_rfl) ?_; go_wp2; exact bodyPost_ret (v := .tuple #[.agg #[.bool e3, .int .i64 K3, .bool s3, .int .u64 M3, .int .i64 E3, .int .i64 K3b, .bool s3b, .int .u64 M3b, .int .i64 E3b], .agg #[.bool e4, .int .i64 K4, .bool s4, .int .u64 M4, .int .i64 E4, .int .i64 K4b, .bool s4b, .int .u64 M4b, .int .i64 E4b]]) (by simp [results, Tryz.results18, go_sem, XR.cell, XS.cell]) rfl ⟨_, _, _, _, _, _, _, _, _, _, _, _, _, _, _, _, _, _, rfl, v3, v4, HB.out⟩
end Go.Proofs.YtpnmphofengoeaaGreatDoor

namespace Go.Proofs.YtpnmphofengoeaaGreatDoor
set_option maxHeartbeats 8000000
open Go.RowKit
set_option linter.unusedVariables false
set_option linter.unusedSimpArgs false
set_option maxRecDepth 100000

theorem kvAllE {w : World} : Calls Tryz.prog 56 #[] w (fun e w' => e = .returned (.agg #[.bool false, .int .i64 2, .bool true, .int .u64 0, .int .i64 0, .int .i64 2, .bool false, .int .u64 0, .int .i64 0]) ∧ Below w.heap.size w w') := by
  refine kvAll.mono ?_; rintro ee w2 ⟨e1, K1, s1, M1, E1, K1b, s1b, M1b, E1b, rfl, v1, B⟩; obtain ⟨rfl, rfl, rfl, rfl, rfl, rfl, rfl, rfl, rfl⟩ := v1.uniq ci_all; exact ⟨rfl, B⟩
theorem smA_two {a b : Int} (ha : -19342822337206103650074625 ≤ a ∧ a ≤ 19342822337206103650074625) : smA false [a, b] = addp false a b := by
  show addp false (addp false 0 a) b = _
  rw [addp_comm (x := 0) false, addp_zero false ha.1 ha.2]
theorem kvMid {w : World} {e : Bool} {D M E D' M' E' : Int} {s s' : Bool} {x : Sp} {r : Int} (hT : Tb w) (hM : M < 18446744073709551616) (hM' : M' < 18446744073709551616) (hx : rkI e D s M E D' s' M' E' = x) (hr : midI x = r) : Calls Tryz.prog 36 #[.agg #[.bool e, .int .i64 D, .bool s, .int .u64 M, .int .i64 E, .int .i64 D', .bool s', .int .u64 M', .int .i64 E']] w (PN w r) := by
  have HX := Lib.hid hx; clear hx
  go_enter Tryz.func36, Tryz.ntmps36
  go_upto_region 1 with (fail)
  generalize hW1 : (w.alloc _).alloc _ = w1 at *; obtain ⟨X1, XR, HB⟩ := Bo.en2 hW1; replace hT := hT.below HB.out; clear hW1; have xX1 := X1.cell
  go_wp2_with fail
  refine (kvOrE hM hM' HX.out).mono ?_; rintro ee w2 ⟨e1, K1, s1, M1, E1, K1b, s1b, M1b, E1b, rfl, v1, B⟩; clear xX1; replace X1 := X1.below B; replace XR := XR.below B; replace hT := hT.below B; replace HB := Hqb HB B; clear B; have xX1 := X1.cell; have zX10 := X1.frozen
  go_upto_region 2 with (fail)
  clear xX1 zX10; generalize hS : ((((((((w2.setCell _ _).setCell _ _).setCell _ _).setCell _ _).setCell _ _).setCell _ _).setCell _ _).setCell _ _).setCell _ _ = w3 at *; have SX := StN.of9 X1 hS; replace XR := XR.stn SX (by omega); replace hT := hT.stn SX (by simp [no8]); replace HB := Hqs HB SX (by omega); replace X1 := SX.box; clear SX hS
  clear HX hM hM'
  rcases x with _ | ⟨xa, xb⟩
  · obtain ⟨rfl, y1, y1b⟩ := v1
    obtain rfl : 0 = r := hr
    obtain ⟨_, rfl, rfl, rfl, rfl, rfl, rfl, rfl, rfl⟩ := (show Ci true K1 s1 M1 E1 K1b s1b M1b E1b none from ⟨rfl, y1, y1b⟩).uniq Ci.none
    clear y1 y1b; refine Jo.rk [0, 1, 2, 3, 4, 5, 6, 7, 8] [some 7, some 8, some 9, some 10, some 11, some 12, some 13, some 14, some 6] [[], [], [0, 1], [2], [3], [3], [3, 4, 5], [3, 6], [7]] 9 0 [Jo.q9 true 0 false 0 0 0 false 0 0, Jo.q9 true 0 false 0 0 0 false 0 0, Jo.qb true, Jo.qb true, Jo.qu, Jo.qu, Jo.qu, Jo.qb true, Jo.qb true] (by kernel_rfl) (by kernel_rfl) (by decide) rfl ?_ ?_
    · refine Jo.jm rfl ?_ ?_; rotate_left
      refine Jo.jm rfl ?_ ?_
      · rintro wj hJ K hK; simp only [Jo.z] at hK ⊢; go_simp; refine (kvNoneE).mono ?_; rintro ee wk ⟨rfl, B⟩; exact hK.out _ _ rfl B
      refine Jo.jm rfl ?_ ?_
      · rintro wj hJ _ rfl _ rfl K hK; simp only [Jo.z] at hK ⊢; go_simp
        repeat' split
        all_goals exact hK.out _ _ (congrArg Value.bool (by first | rfl | (exfalso; simp_all) | simp_all)) (br _ _)
      iterate 6 (refine Jo.jm rfl ?_ ?_; rotate_left)
      exact Jo.Steps.nil
      all_goals (rintro wj hJ; (repeat rintro _ rfl); intro K hK; simp only [Jo.z] at hK ⊢; have xX1 := (X1.below hJ).cell; go_simp; exact hK.out _ _ rfl (br _ _))
    rintro w4 hJ _ rfl _ rfl _ rfl _ rfl _ rfl _ rfl _ rfl _ rfl _ rfl -; simp only [Jo.z]; replace X1 := X1.below hJ; replace XR := XR.below hJ; replace hT := hT.below hJ; replace HB := Hqb HB hJ; refine Jo.jdone (by kernel_rfl) ?_; have xXR := XR.cell; have zXR0 := XR.frozen; go_wp2; clear xXR zXR0; have SX := StN.mk4 XR (.int .i64 0) (.bool false) (.int .u64 0) (.int .i64 0)
    exact bodyPost_ret (by simp [results, Tryz.results36, go_sem, SX.box.cell]) rfl ⟨_, _, _, _, rfl, Fq.nought, (SX.below HB.out (by omega))⟩
  · obtain ⟨rfl, a1, b1, o1, o1l, o1h⟩ := v1; rw [mid_some] at hr
    by_cases hall : xa = -19342822337206103650074625 ∧ xb = 19342822337206103650074625
    · obtain ⟨rfl, rfl⟩ := hall; rw [if_pos ⟨rfl, rfl⟩] at hr
      obtain rfl : 0 = r := hr
      obtain ⟨rfl, rfl, rfl, rfl⟩ := a1.uniq (show Fq 2 true 0 0 (-19342822337206103650074625) from fq_inf2 true)
      obtain ⟨rfl, rfl, rfl, rfl⟩ := b1.uniq (show Fq 2 false 0 0 19342822337206103650074625 from fq_inf2 false)
      refine Jo.rk [0, 1, 2, 3, 4, 5, 6, 7, 8] [some 7, some 8, some 9, some 10, some 11, some 12, some 13, some 14, some 6] [[], [], [0, 1], [2], [3], [3], [3, 4, 5], [3, 6], [7]] 9 0 [Jo.q9 false 2 true 0 0 2 false 0 0, Jo.q9 true 0 false 0 0 0 false 0 0, Jo.qb false, Jo.qb false, Jo.q9 false 2 true 0 0 2 false 0 0, Jo.q9 false 2 true 0 0 2 false 0 0, Jo.qb true, Jo.qb true, Jo.qb true] (by kernel_rfl) (by kernel_rfl) (by decide) rfl ?_ ?_
      · refine Jo.jm rfl ?_ ?_; rotate_left
        refine Jo.jm rfl ?_ ?_
        · rintro wj hJ K hK; simp only [Jo.z] at hK ⊢; go_simp; refine (kvNoneE).mono ?_; rintro ee wk ⟨rfl, B⟩; exact hK.out _ _ rfl B
        refine Jo.jm rfl ?_ ?_
        · rintro wj hJ _ rfl _ rfl K hK; simp only [Jo.z] at hK ⊢; go_simp
          repeat' split
          all_goals exact hK.out _ _ (congrArg Value.bool (by first | rfl | (exfalso; simp_all))) (br _ _)
        iterate 2 (refine Jo.jm rfl ?_ ?_; rotate_left)
        refine Jo.jm rfl ?_ ?_
        · rintro wj hJ _ rfl K hK; simp only [Jo.z] at hK ⊢; go_simp; refine (kvAllE).mono ?_; rintro ee wk ⟨rfl, B⟩; exact hK.out _ _ rfl B
        refine Jo.jm rfl ?_ ?_
        · rintro wj hJ _ rfl _ rfl _ rfl K hK; simp only [Jo.z] at hK ⊢; go_simp
          repeat' split
          all_goals exact hK.out _ _ (congrArg Value.bool (by first | rfl | (exfalso; simp_all) | simp_all)) (br _ _)
        iterate 2 (refine Jo.jm rfl ?_ ?_; rotate_left)
        exact Jo.Steps.nil
        all_goals (rintro wj hJ; (repeat rintro _ rfl); intro K hK; simp only [Jo.z] at hK ⊢; have xX1 := (X1.below hJ).cell; go_simp; exact hK.out _ _ rfl (br _ _))
      rintro w4 hJ _ rfl _ rfl _ rfl _ rfl _ rfl _ rfl _ rfl _ rfl _ rfl -; simp only [Jo.z]; replace X1 := X1.below hJ; replace XR := XR.below hJ; replace hT := hT.below hJ; replace HB := Hqb HB hJ; refine Jo.jdone (by kernel_rfl) ?_; have xXR := XR.cell; have zXR0 := XR.frozen; go_wp2; clear xXR zXR0; have SX := StN.mk4 XR (.int .i64 0) (.bool false) (.int .u64 0) (.int .i64 0)
      exact bodyPost_ret (by simp [results, Tryz.results36, go_sem, SX.box.cell]) rfl ⟨_, _, _, _, rfl, Fq.nought, (SX.below HB.out (by omega))⟩
    · rw [if_neg hall] at hr
      have hne : ¬ (K1 = 2 ∧ s1 = true ∧ M1 = 0 ∧ E1 = 0 ∧ K1b = 2 ∧ s1b = false ∧ M1b = 0 ∧ E1b = 0) := by
        rintro ⟨rfl, rfl, rfl, rfl, rfl, rfl, rfl, rfl⟩; exact hall ⟨by rw [← a1.rk]; exact (fq_inf2 true).rk, by rw [← b1.rk]; exact (fq_inf2 false).rk⟩
      have HNE := Lib.hid hne; have i1 := fq_inf a1; have i2 := fq_inf b1; have htp := TP_eq
      have j1 : xa = -19342822337206103650074625 ↔ infp xa = true := by
        constructor
        · rintro rfl
          rfl
        · intro c
          rcases infp_true c with e | e <;> omega
      have j2 : xb = 19342822337206103650074625 ↔ infp xb = true := by
        constructor
        · rintro rfl
          rfl
        · intro c
          rcases infp_true c with e | e <;> omega
      rw [i1] at j1; rw [i2] at j2; clear hne hall htp i1 i2; refine Jo.rk [0, 1, 2, 3, 4, 5, 6, 7, 8] [some 7, some 8, some 9, some 10, some 11, some 12, some 13, some 14, some 6] [[], [], [0, 1], [2], [3], [3], [3, 4, 5], [3, 6], [7]] 9 0 [Jo.q9 false K1 s1 M1 E1 K1b s1b M1b E1b, Jo.q9 true 0 false 0 0 0 false 0 0, Jo.qb false, Jo.qb false, Jo.q9 false K1 s1 M1 E1 K1b s1b M1b E1b, Jo.q9 false 2 true 0 0 2 false 0 0, Jo.qb false, Jo.qb false, Jo.qb false] (by kernel_rfl) (by kernel_rfl) (by decide) rfl ?_ ?_
      · refine Jo.jm rfl ?_ ?_; rotate_left
        refine Jo.jm rfl ?_ ?_
        · rintro wj hJ K hK; simp only [Jo.z] at hK ⊢; go_simp; refine (kvNoneE).mono ?_; rintro ee wk ⟨rfl, B⟩; exact hK.out _ _ rfl B
        refine Jo.jm rfl ?_ ?_
        · rintro wj hJ _ rfl _ rfl K hK; simp only [Jo.z] at hK ⊢; go_simp
          repeat' split
          all_goals exact hK.out _ _ (congrArg Value.bool (by first | rfl | (exfalso; simp_all))) (br _ _)
        iterate 2 (refine Jo.jm rfl ?_ ?_; rotate_left)
        refine Jo.jm rfl ?_ ?_
        · rintro wj hJ _ rfl K hK; simp only [Jo.z] at hK ⊢; go_simp; refine (kvAllE).mono ?_; rintro ee wk ⟨rfl, B⟩; exact hK.out _ _ rfl B
        refine Jo.jm rfl ?_ ?_
        · rintro wj hJ _ rfl _ rfl _ rfl K hK; simp only [Jo.z] at hK ⊢; have hne := HNE.out; go_simp
          repeat' split
          all_goals exact hK.out _ _ (congrArg Value.bool (by first | rfl | (exfalso; simp_all))) (br _ _)
        iterate 2 (refine Jo.jm rfl ?_ ?_; rotate_left)
        exact Jo.Steps.nil
        all_goals (rintro wj hJ; (repeat rintro _ rfl); intro K hK; simp only [Jo.z] at hK ⊢; have xX1 := (X1.below hJ).cell; go_simp; exact hK.out _ _ rfl (br _ _))
      rintro w4 hJ _ rfl _ rfl _ rfl _ rfl _ rfl _ rfl _ rfl _ rfl _ rfl -; simp only [Jo.z]; replace X1 := X1.below hJ; replace XR := XR.below hJ; replace hT := hT.below hJ; replace HB := Hqb HB hJ; refine Jo.jdone (by kernel_rfl) ?_; clear HNE
      by_cases k1 : K1 = 2
      · subst k1; rw [if_pos (j1.2 rfl)] at hr
        obtain rfl : xb = r := hr
        clear j1 j2 o1 o1l o1h; have xXR := XR.cell; have zXR0 := XR.frozen; have xX1 := X1.cell; go_wp2; clear xXR zXR0 xX1; have SX := StN.mk4 XR (.int .i64 K1b) (.bool s1b) (.int .u64 M1b) (.int .i64 E1b); exact bodyPost_ret (by simp [results, Tryz.results36, go_sem, SX.box.cell]) rfl ⟨_, _, _, _, rfl, b1, (SX.below HB.out (by omega))⟩
      · have e1 : (K1 == 2) = false := by simpa using k1
        rw [if_neg (fun c => by have := j1.1 c; rw [e1] at this; cases this)] at hr
        clear j1
        by_cases k2 : K1b = 2
        · subst k2; rw [if_pos (j2.2 rfl)] at hr
          obtain rfl : xa = r := hr
          clear j2 o1 o1l o1h; have xXR := XR.cell; have zXR0 := XR.frozen; have xX1 := X1.cell; go_wp2; clear xXR zXR0 xX1; have SX := StN.mk4 XR (.int .i64 K1) (.bool s1) (.int .u64 M1) (.int .i64 E1); exact bodyPost_ret (by simp [results, Tryz.results36, go_sem, SX.box.cell]) rfl ⟨_, _, _, _, rfl, a1, (SX.below HB.out (by omega))⟩
        · have e2 : (K1b == 2) = false := by simpa using k2
          rw [if_neg (fun c => by have := j2.1 c; rw [e2] at this; cases this)] at hr
          clear j2; have bda := a1.bd; have bdb := b1.bd; obtain ⟨u, hu⟩ : ∃ u, addp false xa xb = u := ⟨_, rfl⟩; rw [hu] at hr; obtain ⟨m, hm⟩ : ∃ m, mulp false u hlf = m := ⟨_, rfl⟩; rw [hm] at hr
          have hu2 : smA false [xa, xb] = u := (smA_two bda).trans hu
          obtain ⟨q, hq⟩ : ∃ q, max m xa = q := ⟨_, rfl⟩
          have hr2 : min q xb = r := by rw [← hq, clp_min o1]; exact hr
          have HU := Lib.hid hu2; have HMM := Lib.hid hm; have HQ0 := Lib.hid hq; have HR0 := Lib.hid hr2; have HO := Lib.hid o1; clear hu hm hu2 hq hr2 hr o1 o1l o1h; have xX1 := X1.cell
          go_wp2_with fail
          refine (aSum (hT.below (bel1 _ (.cells #[.int .i64 K1, .bool s1, .int .u64 M1, .int .i64 E1, .int .i64 K1b, .bool s1b, .int .u64 M1b, .int .i64 E1b] 32))) (Nl.lit2 rfl a1.top b1.top a1.rk b1.rk) HU.out).mono ?_; rintro ee w5 ⟨K5, s5, M5, E5, rfl, q5, B⟩; replace B := bt (bel1 _ (.cells #[.int .i64 K1, .bool s1, .int .u64 M1, .int .i64 E1, .int .i64 K1b, .bool s1b, .int .u64 M1b, .int .i64 E1b] 32)) B
          clear xX1; replace X1 := X1.below B; replace XR := XR.below B; replace hT := hT.below B; replace HB := Hqb HB B; clear B
          go_wp2_with fail
          refine (aHalf q5.top q5.rk HMM.out).mono ?_; rintro ee w6 ⟨K3, s3, M3, E3, rfl, q3, B⟩; replace X1 := X1.below B; replace XR := XR.below B; replace hT := hT.below B; replace HB := Hqb HB B; clear B; clear HU HMM q5
          go_upto_region 9 with (fail)
          have lX3 := Nat.le_refl (World.heap w6).size; have nX3X1 := X1.lt; have nX3XR := XR.lt; generalize hWn : w6.alloc _ = w7 at *; obtain ⟨X3, BW⟩ := Bo.nw hWn; clear hWn; replace X1 := X1.below BW; replace XR := XR.below BW; replace hT := hT.below BW; replace HB := Hqb HB BW; clear BW; clear lX3
          have hq2 : mxp [m, xa] = q := (mxp_two q3.bd.1).trans HQ0.out
          have hqx : q ≤ 19342822337206103650074625 := by have := HQ0.out; have := q3.bd; omega
          have hr3 : mnp [q, xb] = r := (mnp_two hqx).trans HR0.out
          have HQ := Lib.hid hq2; have HR := Lib.hid hr3; clear hq2 hr3 HQ0 HR0 hqx bda bdb HO; refine Jo.rk [0, 1, 2, 3, 4, 5, 6, 7, 8] [some 37, some 38, some 39, some 40, some 41, some 42, some 43, some 44, some 45, none] [[], [], [1], [0, 2], [3], [], [5], [4, 6], [7], []] 10 1 [Jo.q4 K3 s3 M3 E3, Jo.qp w.heap.size 1, Jo.q4 K1 s1 M1 E1, Jo.Fact.nl 2 [m, xa], Jo.Fact.num q, Jo.qp w.heap.size 5, Jo.q4 K1b s1b M1b E1b, Jo.Fact.nl 2 [q, xb], Jo.Fact.num r, Jo.Fact.any] (by kernel_rfl) (by kernel_rfl) (by decide) rfl ?_ ?_
          · iterate 3 (refine Jo.jm rfl ?_ ?_; rotate_left)
            refine Jo.jm rfl ?_ ?_
            · rintro wj hJ _ rfl _ rfl K hK; simp only [Jo.z] at hK ⊢; go_simp; exact hK.out _ _ ⟨_, 2, rfl, (Nl.lit2 rfl q3.top a1.top q3.rk a1.rk)⟩ (bel1 _ _)
            refine Jo.jm rfl ?_ ?_
            · rintro wj hJ _ ⟨A4, c4, rfl, h4⟩ K hK; simp only [Jo.z] at hK ⊢; go_simp; refine (nMost h4 HQ.out).mono ?_; rintro ee wk ⟨K6, s6, M6, E6, rfl, q6, B⟩; exact hK.out _ _ ⟨K6, s6, M6, E6, rfl, q6⟩ B
            iterate 2 (refine Jo.jm rfl ?_ ?_; rotate_left)
            refine Jo.jm rfl ?_ ?_
            · rintro wj hJ _ ⟨K6, s6, M6, E6, rfl, q6⟩ _ rfl K hK; simp only [Jo.z] at hK ⊢; go_simp; exact hK.out _ _ ⟨_, 2, rfl, (Nl.lit2 rfl q6.top b1.top q6.rk b1.rk)⟩ (bel1 _ _)
            refine Jo.jm rfl ?_ ?_
            · rintro wj hJ _ ⟨A5, c5, rfl, h5⟩ K hK; simp only [Jo.z] at hK ⊢; go_simp; refine (nLeast h5 HR.out).mono ?_; rintro ee wk ⟨K7, s7, M7, E7, rfl, q7, B⟩; exact hK.out _ _ ⟨K7, s7, M7, E7, rfl, q7⟩ B
            exact Jo.Steps.nil
            all_goals (rintro wj hJ; (repeat rintro _ rfl); intro K hK; simp only [Jo.z] at hK ⊢; have xX3 := (X3.below hJ).cell; have xX1 := (X1.below hJ).cell; go_simp; exact hK.out _ _ rfl (br _ _))
          rintro w8 hJ _ rfl _ _ _ rfl _ ⟨A4, c4, rfl, _⟩ _ ⟨K6, s6, M6, E6, rfl, q6⟩ _ _ _ rfl _ ⟨A5, c5, rfl, _⟩ _ ⟨K7, s7, M7, E7, rfl, q7⟩ -; simp only [Jo.z]; replace X1 := X1.below hJ; replace XR := XR.below hJ; replace X3 := X3.below hJ; replace hT := hT.below hJ; replace HB := Hqb HB hJ; have xXR := XR.cell; have zXR0 := XR.frozen
          refine Jo.jnext (i := 9) (o := ⟨none, _, _, _, _, _⟩) (by kernel_rfl) rfl (fun K hK => ?_)
          go_simp; refine hK.out _ _ ?_; clear hK K xXR zXR0; have SX := StN.mk4 XR (.int .i64 K7) (.bool s7) (.int .u64 M7) (.int .i64 E7); refine Jo.jdone (by kernel_rfl) ?_; go_wp2; exact bodyPost_ret (by simp [results, Tryz.results36, go_sem, SX.box.cell]) rfl ⟨_, _, _, _, rfl, q7, (SX.below HB.out (by omega))⟩
theorem kvWidth {w : World} {e : Bool} {D M E D' M' E' : Int} {s s' : Bool} {x : Sp} {r : Int} (hT : Tb w) (hM : M < 18446744073709551616) (hM' : M' < 18446744073709551616) (hx : rkI e D s M E D' s' M' E' = x) (hr : widI x = r) : Calls Tryz.prog 21 #[.agg #[.bool e, .int .i64 D, .bool s, .int .u64 M, .int .i64 E, .int .i64 D', .bool s', .int .u64 M', .int .i64 E']] w (PN w r) := by
  have HX := Lib.hid hx; clear hx
  go_enter Tryz.func21, Tryz.ntmps21
  go_upto_region 1 with (fail)
  generalize hW1 : (w.alloc _).alloc _ = w1 at *; obtain ⟨X1, XR, HB⟩ := Bo.en2 hW1; replace hT := hT.below HB.out; clear hW1; have xX1 := X1.cell
  go_wp2_with fail
  refine (kvOrE hM hM' HX.out).mono ?_; rintro ee w2 ⟨e1, K1, s1, M1, E1, K1b, s1b, M1b, E1b, rfl, v1, B⟩; clear xX1; replace X1 := X1.below B; replace XR := XR.below B; replace hT := hT.below B; replace HB := Hqb HB B; clear B; have xX1 := X1.cell; have zX10 := X1.frozen
  go_upto_region 2 with (fail)
  clear xX1 zX10; generalize hS : ((((((((w2.setCell _ _).setCell _ _).setCell _ _).setCell _ _).setCell _ _).setCell _ _).setCell _ _).setCell _ _).setCell _ _ = w3 at *; have SX := StN.of9 X1 hS; replace XR := XR.stn SX (by omega); replace hT := hT.stn SX (by simp [no8]); replace HB := Hqs HB SX (by omega); replace X1 := SX.box; clear SX hS
  clear HX hM hM'
  rcases x with _ | ⟨xa, xb⟩
  · obtain ⟨rfl, y1, y1b⟩ := v1
    obtain rfl : 0 = r := hr
    have xX1 := X1.cell
    go_wp2_with fail
    refine (aSub hT y1b.top y1.top y1b.rk (y := 0) (by rw [y1.rk]; rfl) (r := 0) (addp_zero true (by omega) (by omega))).mono ?_; rintro ee w4 ⟨K2, s2, M2, E2, rfl, q2, B⟩; clear xX1; replace X1 := X1.below B; replace XR := XR.below B; replace hT := hT.below B; replace HB := Hqb HB B; clear B; have xXR := XR.cell; have zXR0 := XR.frozen
    go_wp2; clear xXR zXR0; have SX := StN.mk4 XR (.int .i64 K2) (.bool s2) (.int .u64 M2) (.int .i64 E2); exact bodyPost_ret (by simp [results, Tryz.results21, go_sem, SX.box.cell]) rfl ⟨_, _, _, _, rfl, q2, (SX.below HB.out (by omega))⟩
  · obtain ⟨rfl, a1, b1, o1, o1l, o1h⟩ := v1
    have HR := Lib.hid (show addp true xb (-xa) = r from hr)
    clear hr o1 o1l o1h; have xX1 := X1.cell
    go_wp2_with fail
    refine (aSub hT b1.top a1.top b1.rk (by rw [a1.rk]) HR.out).mono ?_; rintro ee w4 ⟨K2, s2, M2, E2, rfl, q2, B⟩; clear xX1; replace X1 := X1.below B; replace XR := XR.below B; replace hT := hT.below B; replace HB := Hqb HB B; clear B; have xXR := XR.cell; have zXR0 := XR.frozen; go_wp2; clear xXR zXR0; have SX := StN.mk4 XR (.int .i64 K2) (.bool s2) (.int .u64 M2) (.int .i64 E2)
    exact bodyPost_ret (by simp [results, Tryz.results21, go_sem, SX.box.cell]) rfl ⟨_, _, _, _, rfl, q2, (SX.below HB.out (by omega))⟩
theorem kvSplit {w : World} {e : Bool} {D M E D' M' E' : Int} {s s' : Bool} {x y z : Sp} (hT : Tb w) (hM : M < 18446744073709551616) (hM' : M' < 18446744073709551616) (hx : rkI e D s M E D' s' M' E' = x) (hy : loI x = y) (hz : hiI x = z) : Calls Tryz.prog 16 #[.agg #[.bool e, .int .i64 D, .bool s, .int .u64 M, .int .i64 E, .int .i64 D', .bool s', .int .u64 M', .int .i64 E']] w (PV2 w y z) := by
  have HX := Lib.hid hx; clear hx
  go_enter Tryz.func16, Tryz.ntmps16
  go_upto_region 1 with (fail)
  generalize hW1 : ((w.alloc _).alloc _).alloc _ = w1 at *; obtain ⟨X1, XR, XS, HB⟩ := Bo.en3 hW1; replace hT := hT.below HB.out; clear hW1; have xX1 := X1.cell
  go_wp2_with fail
  refine (kvOrE hM hM' HX.out).mono ?_; rintro ee w2 ⟨e1, K1, s1, M1, E1, K1b, s1b, M1b, E1b, rfl, v1, B⟩; clear xX1; replace X1 := X1.below B; replace XR := XR.below B; replace XS := XS.below B; replace hT := hT.below B; replace HB := Hqb HB B; clear B; have xX1 := X1.cell; have zX10 := X1.frozen
  go_upto_region 2 with (fail)
  clear xX1 zX10; generalize hS : ((((((((w2.setCell _ _).setCell _ _).setCell _ _).setCell _ _).setCell _ _).setCell _ _).setCell _ _).setCell _ _).setCell _ _ = w3 at *; have SX := StN.of9 X1 hS; replace XR := XR.stn SX (by omega); replace XS := XS.stn SX (by omega); replace hT := hT.stn SX (by simp [no8]); replace HB := Hqs HB SX (by omega)
  replace X1 := SX.box; clear SX hS; clear HX hM hM'
  rcases x with _ | ⟨xa, xb⟩
  · obtain ⟨rfl, y1, y1b⟩ := v1
    obtain rfl : none = y := hy
    obtain rfl : none = z := hz
    obtain ⟨_, rfl, rfl, rfl, rfl, rfl, rfl, rfl, rfl⟩ := (show Ci true K1 s1 M1 E1 K1b s1b M1b E1b none from ⟨rfl, y1, y1b⟩).uniq Ci.none
    clear y1 y1b; refine Jo.rk [0, 1, 2] [some 7, some 8, some 9] [[], [], [0, 1]] 3 0 [Jo.q9 true 0 false 0 0 0 false 0 0, Jo.q9 true 0 false 0 0 0 false 0 0, Jo.qb true] (by kernel_rfl) (by kernel_rfl) (by decide) rfl ?_ ?_
    · refine Jo.jm rfl ?_ ?_
      · rintro wj hJ K hK; simp only [Jo.z] at hK ⊢; have xX1 := (X1.below hJ).cell; go_simp; exact hK.out _ _ rfl (br _ _)
      refine Jo.jm rfl ?_ ?_
      · rintro wj hJ K hK; simp only [Jo.z] at hK ⊢; go_simp; refine (kvNoneE).mono ?_; rintro ee wk ⟨rfl, B⟩; exact hK.out _ _ rfl B
      refine Jo.jm rfl ?_ ?_
      · rintro wj hJ _ rfl _ rfl K hK; simp only [Jo.z] at hK ⊢; go_simp
        repeat' split
        all_goals exact hK.out _ _ (congrArg Value.bool (by first | rfl | (exfalso; simp_all) | simp_all)) (br _ _)
      exact Jo.Steps.nil
    rintro w4 hJ _ rfl _ rfl _ rfl -; simp only [Jo.z]; replace X1 := X1.below hJ; replace XR := XR.below hJ; replace XS := XS.below hJ; replace hT := hT.below hJ; replace HB := Hqb HB hJ; refine Jo.jdone (by kernel_rfl) ?_
    go_wp2_with fail
    refine (kvNoneE).mono ?_; rintro ee w5 ⟨rfl, B⟩; replace X1 := X1.below B; replace XR := XR.below B; replace XS := XS.below B; replace hT := hT.below B; replace HB := Hqb HB B; clear B
    go_wp2_with fail
    refine (kvNoneE).mono ?_; rintro ee w6 ⟨rfl, B⟩; replace X1 := X1.below B; replace XR := XR.below B; replace XS := XS.below B; replace hT := hT.below B; replace HB := Hqb HB B; clear B; have xXR := XR.cell; have zXR0 := XR.frozen; have xXS := XS.cell; have zXS0 := XS.frozen; go_wp2
    clear xXR zXR0 xXS zXS0; generalize hS : ((((((((w6.setCell _ _).setCell _ _).setCell _ _).setCell _ _).setCell _ _).setCell _ _).setCell _ _).setCell _ _).setCell _ _ = w7 at *; have SX := StN.of9 XR hS; replace X1 := X1.stn SX (by omega); replace XS := XS.stn SX (by omega); replace hT := hT.stn SX (by simp [no8])
    replace HB := Hqs HB SX (by omega); replace XR := SX.box; clear SX hS; generalize hS : ((((((((w7.setCell _ _).setCell _ _).setCell _ _).setCell _ _).setCell _ _).setCell _ _).setCell _ _).setCell _ _).setCell _ _ = w8 at *; have SX := StN.of9 XS hS; replace X1 := X1.stn SX (by omega); replace XR := XR.stn SX (by omega); replace hT := hT.stn SX (by simp [no8]); replace HB := Hqs HB SX (by omega)
    replace XS := SX.box; clear SX hS; exact bodyPost_ret (v := .tuple #[.agg #[.bool true, .int .i64 0, .bool false, .int .u64 0, .int .i64 0, .int .i64 0, .bool false, .int .u64 0, .int .i64 0], .agg #[.bool true, .int .i64 0, .bool false, .int .u64 0, .int .i64 0, .int .i64 0, .bool false, .int .u64 0, .int .i64 0]]) (by simp [results, Tryz.results16, go_sem, XR.cell, XS.cell]) rfl ⟨_, _, _, _, _, _, _, _, _, _, _, _, _, _, _, _, _, _, rfl, Ci.none, Ci.none, HB.out⟩
  · obtain ⟨rfl, a1, b1, o1, o1l, o1h⟩ := v1; obtain ⟨m, hm⟩ : ∃ m, midI (some (xa, xb)) = m := ⟨_, rfl⟩
    have hy2 : mkI xa m = y := by rw [← hm]; exact hy
    have hz2 : mkI m xb = z := by rw [← hm]; exact hz
    have HMD := Lib.hid hm; have HY := Lib.hid hy2; have HZ := Lib.hid hz2
    have hci : Ci false K1 s1 M1 E1 K1b s1b M1b E1b (some (xa, xb)) := ⟨rfl, a1, b1, o1, o1l, o1h⟩
    clear hy hz hm hy2 hz2 o1 o1l o1h; refine Jo.rk [0, 1, 2] [some 7, some 8, some 9] [[], [], [0, 1]] 3 0 [Jo.q9 false K1 s1 M1 E1 K1b s1b M1b E1b, Jo.q9 true 0 false 0 0 0 false 0 0, Jo.qb false] (by kernel_rfl) (by kernel_rfl) (by decide) rfl ?_ ?_
    · refine Jo.jm rfl ?_ ?_
      · rintro wj hJ K hK; simp only [Jo.z] at hK ⊢; have xX1 := (X1.below hJ).cell; go_simp; exact hK.out _ _ rfl (br _ _)
      refine Jo.jm rfl ?_ ?_
      · rintro wj hJ K hK; simp only [Jo.z] at hK ⊢; go_simp; refine (kvNoneE).mono ?_; rintro ee wk ⟨rfl, B⟩; exact hK.out _ _ rfl B
      refine Jo.jm rfl ?_ ?_
      · rintro wj hJ _ rfl _ rfl K hK; simp only [Jo.z] at hK ⊢; go_simp
        repeat' split
        all_goals exact hK.out _ _ (congrArg Value.bool (by first | rfl | (exfalso; simp_all))) (br _ _)
      exact Jo.Steps.nil
    rintro w4 hJ _ rfl _ rfl _ rfl -; simp only [Jo.z]; replace X1 := X1.below hJ; replace XR := XR.below hJ; replace XS := XS.below hJ; replace hT := hT.below hJ; replace HB := Hqb HB hJ; refine Jo.jdone (by kernel_rfl) ?_; have xX1 := X1.cell
    go_wp2_with fail
    refine (kvMid hT hci.top.1 hci.top.2 hci.rk HMD.out).mono ?_; rintro ee w5 ⟨K2, s2, M2, E2, rfl, q2, B⟩; clear xX1; replace X1 := X1.below B; replace XR := XR.below B; replace XS := XS.below B; replace hT := hT.below B; replace HB := Hqb HB B; clear B; clear HMD hci
    go_upto_region 5 with (fail)
    have lX5 := Nat.le_refl (World.heap w5).size; have nX5X1 := X1.lt; have nX5XR := XR.lt; have nX5XS := XS.lt; generalize hWn : w5.alloc _ = w6 at *; obtain ⟨X5, BW⟩ := Bo.nw hWn; clear hWn; replace X1 := X1.below BW; replace XR := XR.below BW; replace XS := XS.below BW; replace hT := hT.below BW; replace HB := Hqb HB BW; clear BW; clear lX5; refine Jo.rk [0, 1, 2, 3, 4, 5, 6, 7] [some 14, some 15, some 16, some 17, some 18, some 19, some 20, some 21, none, none] [[], [0], [], [1, 2], [], [], [5], [4, 6], [], []] 10 2 [Jo.qp w.heap.size 1, Jo.q4 K1 s1 M1 E1, Jo.q4 K2 s2 M2 E2, Jo.Fact.iv y, Jo.q4 K2 s2 M2 E2, Jo.qp w.heap.size 5, Jo.q4 K1b s1b M1b E1b, Jo.Fact.iv z, Jo.Fact.any, Jo.Fact.any] (by kernel_rfl) (by kernel_rfl) (by decide) rfl ?_ ?_
    · iterate 3 (refine Jo.jm rfl ?_ ?_; rotate_left)
      refine Jo.jm rfl ?_ ?_
      · rintro wj hJ _ rfl _ rfl K hK; simp only [Jo.z] at hK ⊢; go_simp; refine (kvMake a1.top q2.top a1.rk q2.rk HY.out).mono ?_; rintro ee wk ⟨e3, K3, s3, M3, E3, K3b, s3b, M3b, E3b, rfl, v3, B⟩; exact hK.out _ _ ⟨e3, K3, s3, M3, E3, K3b, s3b, M3b, E3b, rfl, v3⟩ B
      iterate 3 (refine Jo.jm rfl ?_ ?_; rotate_left)
      refine Jo.jm rfl ?_ ?_
      · rintro wj hJ _ rfl _ rfl K hK; simp only [Jo.z] at hK ⊢; go_simp; refine (kvMake q2.top b1.top q2.rk b1.rk HZ.out).mono ?_; rintro ee wk ⟨e4, K4, s4, M4, E4, K4b, s4b, M4b, E4b, rfl, v4, B⟩; exact hK.out _ _ ⟨e4, K4, s4, M4, E4, K4b, s4b, M4b, E4b, rfl, v4⟩ B
      exact Jo.Steps.nil
      all_goals (rintro wj hJ; (repeat rintro _ rfl); intro K hK; simp only [Jo.z] at hK ⊢; have xX1 := (X1.below hJ).cell; have xX5 := (X5.below hJ).cell; go_simp; exact hK.out _ _ rfl (br _ _))
    rintro w8 hJ _ _ _ rfl _ rfl _ ⟨e3, K3, s3, M3, E3, K3b, s3b, M3b, E3b, rfl, v3⟩ _ rfl _ _ _ rfl _ ⟨e4, K4, s4, M4, E4, K4b, s4b, M4b, E4b, rfl, v4⟩ -; simp only [Jo.z]; replace X1 := X1.below hJ; replace XR := XR.below hJ; replace XS := XS.below hJ; replace X5 := X5.below hJ; replace hT := hT.below hJ; replace HB := Hqb HB hJ; have xXR := XR.cell
    have zXR0 := XR.frozen
    refine Jo.jnext (i := 8) (o := ⟨none, _, _, _, _, _⟩) (by kernel_rfl) rfl (fun K hK => ?_)
    go_simp; refine hK.out _ _ ?_; clear hK K xXR zXR0; generalize hS : ((((((((w8.setCell _ _).setCell _ _).setCell _ _).setCell _ _).setCell _ _).setCell _ _).setCell _ _).setCell _ _).setCell _ _ = w9 at *; have SX := StN.of9 XR hS; replace X1 := X1.stn SX (by omega); replace XS := XS.stn SX (by omega); replace X5 := X5.stn SX (by omega); replace hT := hT.stn SX (by simp [no8])
    replace HB := Hqs HB SX (by omega); replace XR := SX.box; clear SX hS; have xXS := XS.cell; have zXS0 := XS.frozen
    refine Jo.jnext (i := 9) (o := ⟨none, _, _, _, _, _⟩) (by kernel_rfl) rfl (fun K hK => ?_)
    go_simp; refine hK.out _ _ ?_; clear hK K xXS zXS0; generalize hS : ((((((((w9.setCell _ _).setCell _ _).setCell _ _).setCell _ _).setCell _ _).setCell _ _).setCell _ _).setCell _ _).setCell _ _ = wA at *; have SX := StN.of9 XS hS; replace X1 := X1.stn SX (by omega); replace XR := XR.stn SX (by omega); replace X5 := X5.stn SX (by omega); replace hT := hT.stn SX (by simp [no8])
    replace HB := Hqs HB SX (by omega); replace XS := SX.box; clear SX hS; refine Jo.jdone (by kernel_rfl) ?_; go_wp2; exact bodyPost_ret (v := .tuple #[.agg #[.bool e3, .int .i64 K3, .bool s3, .int .u64 M3, .int .i64 E3, .int .i64 K3b, .bool s3b, .int .u64 M3b, .int .i64 E3b], .agg #[.bool e4, .int .i64 K4, .bool s4, .int .u64 M4, .int .i64 E4, .int .i64 K4b, .bool s4b, .int .u64 M4b, .int .i64 E4b]]) (by simp [results, Tryz.results16, go_sem, XR.cell, XS.cell]) rfl ⟨_, _, _, _, _, _, _, _, _, _, _, _, _, _, _, _, _, _, rfl, v3, v4, HB.out⟩
end Go.Proofs.YtpnmphofengoeaaGreatDoor

namespace Go.Proofs.YtpnmphofengoeaaGreatDoor
open Go.RowKit
set_option linter.unusedVariables false

def In (x : Int) : Prop := -19342822337206103650074625 ≤ x ∧ x ≤ 19342822337206103650074625
theorem mkI_in {a b : Int} (ha : In a) (hb : In b) : SpOk (mkI a b) := mkI_ok ha.1 hb.2
theorem SpOk.in1 {a b : Int} (h : SpOk (some (a, b))) : In a ∧ In b := by
  obtain ⟨h1, h2, h3, h4, h5⟩ := h; exact ⟨⟨by omega, by omega⟩, ⟨by omega, by omega⟩⟩
def negI (x : Sp) : Sp := match x with
  | none => none
  | some (a, b) => mkI (-b) (-a)
def addI (x y : Sp) : Sp := match x, y with
  | some (a, b), some (c, d) => mkI (addp false a c) (addp true b d)
  | _, _ => none
def cor (f : Bool → Int → Int → Int) (a b c d : Int) : Sp := mkI (min (min (f false a c) (f false a d)) (min (f false b c) (f false b d))) (max (max (f true a c) (f true a d)) (max (f true b c) (f true b d)))
def mulI (x y : Sp) : Sp := match x, y with
  | some (a, b), some (c, d) => cor mulp a b c d
  | _, _ => none

theorem negI_some {a b : Int} (h : SpOk (some (a, b))) : negI (some (a, b)) = some (-b, -a) := by
  obtain ⟨h1, h2, h3, h4, h5⟩ := h; exact mkI_some (by omega) (by omega) (by omega)
theorem negI_ok {x : Sp} (h : SpOk x) : SpOk (negI x) := by
  rcases x with _ | ⟨a, b⟩
  · exact trivial
  · obtain ⟨⟨h1, h2⟩, h3, h4⟩ := h.in1; exact mkI_in ⟨by omega, by omega⟩ ⟨by omega, by omega⟩
theorem neg_neg {x : Sp} (h : SpOk x) : negI (negI x) = x := by
  rcases x with _ | ⟨a, b⟩
  · rfl
  · have k := negI_ok h; rw [negI_some h] at k ⊢; rw [negI_some k, Int.neg_neg, Int.neg_neg]
theorem add_comm (x y : Sp) : addI x y = addI y x := by
  rcases x with _ | ⟨a, b⟩ <;> rcases y with _ | ⟨c, d⟩ <;> first | rfl | skip
  show mkI _ _ = mkI _ _
  rw [addp_comm (x := a), addp_comm (x := b)]
theorem mul_comm (x y : Sp) : mulI x y = mulI y x := by
  rcases x with _ | ⟨a, b⟩ <;> rcases y with _ | ⟨c, d⟩ <;> first | rfl | skip
  show cor mulp a b c d = cor mulp c d a b
  unfold cor
  simp only [mulp_comm (x := c), mulp_comm (x := d)]
  congr 1 <;> omega
end Go.Proofs.YtpnmphofengoeaaGreatDoor

namespace Go.Proofs.YtpnmphofengoeaaGreatDoor
open Go.RowKit
set_option linter.unusedVariables false

def FzI (x : Sp) (h : Nat) : Prop := ∀ a b, x = some (a, b) → Fz a h ∧ Fz b h
theorem FzI.mk {a b : Int} {h : Nat} (f : Fz a h) (g : Fz b h) : FzI (mkI a b) h := fun c d e => by
  unfold mkI at e
  split at e
  · cases e
    exact ⟨f, g⟩
  · cases e
end Go.Proofs.YtpnmphofengoeaaGreatDoor

namespace Go.Proofs.YtpnmphofengoeaaGreatDoor
open Go.RowKit
set_option linter.unusedVariables false

def Zi (a b : Int) : Sp := some (opl a, opl b)
theorem opl_le {a b : Int} (h1 : -9223372036854775808 ≤ a) (h : a ≤ b) (h2 : b ≤ 9223372036854775807) : opl a ≤ opl b := by
  have c := opl_cmp (a := a) (b := b) h1 (by omega) (by omega) h2
  rcases cmpI_tri (opl a) (opl b) with ⟨p, e⟩ | ⟨p, e⟩ | ⟨p, e⟩
  · omega
  · omega
  · rw [e] at c
    rcases cmpI_tri a b with ⟨s, f⟩ | ⟨s, f⟩ | ⟨s, f⟩ <;> omega
theorem opl_fin {a : Int} (h1 : -9223372036854775807 ≤ a) (h2 : a ≤ 9223372036854775807) : -19342822337206103650074625 < opl a ∧ opl a < 19342822337206103650074625 := by
  rcases Int.lt_or_le 0 a with c | c
  · have := opl_pos c h2
    omega
  · by_cases d : a = 0
    · subst d
      decide
    · have := opl_pos (n := -a) (by omega) (by omega)
      rw [opl_neg] at this
      omega
theorem Zi.mk {a b : Int} (h1 : -9223372036854775807 ≤ a) (h : a ≤ b) (h2 : b ≤ 9223372036854775807) : mkI (opl a) (opl b) = Zi a b ∧ SpOk (Zi a b) := by
  have A := opl_fin h1 (show a ≤ 9223372036854775807 by omega)
  have B := opl_fin (show -9223372036854775807 ≤ b by omega) h2
  have C := opl_le (by omega) h h2; exact ⟨mkI_some C A.2 B.1, ⟨by omega, C, by omega, A.2, B.1⟩⟩
end Go.Proofs.YtpnmphofengoeaaGreatDoor

namespace Go.Proofs.YtpnmphofengoeaaGreatDoor
open Go.RowKit
set_option linter.unusedVariables false
set_option linter.unusedSimpArgs false
set_option maxRecDepth 100000

theorem Zi.all {a b : Int} (h1 : -9223372036854775807 ≤ a) (h : a ≤ b) (h2 : b ≤ 9223372036854775807) : mkI (opl a) (opl b) = Zi a b := (Zi.mk h1 h h2).1
end Go.Proofs.YtpnmphofengoeaaGreatDoor

namespace Go.Proofs.YtpnmphofengoeaaGreatDoor
open Go.RowKit
set_option linter.unusedVariables false
set_option linter.unusedSimpArgs false
set_option maxRecDepth 100000

set_option maxHeartbeats 1000000 in
theorem kvFew9 {w : World} {e0 : Bool} {D0 M0 E0 G0 P0 Q0 : Int} {s0 g0 r : Bool} (hr : (fewq D0 E0 && fewq G0 Q0) = r) : Calls Tryz.prog 14 #[.agg #[.bool e0, .int .i64 D0, .bool s0, .int .u64 M0, .int .i64 E0, .int .i64 G0, .bool g0, .int .u64 P0, .int .i64 Q0]] w (PB w r) := by
  obtain ⟨p, hp⟩ : ∃ p, fewq D0 E0 = p := ⟨_, rfl⟩; obtain ⟨q, hq⟩ : ∃ q, fewq G0 Q0 = q := ⟨_, rfl⟩; rw [hp, hq] at hr; have HP := Lib.hid hp; have HQ := Lib.hid hq; clear hp hq
  go_enter Tryz.func14, Tryz.ntmps14
  go_upto_region 1 with (fail)
  generalize hW1 : w.alloc _ = w1 at *; obtain ⟨X1, HB⟩ := Bo.en1 hW1; clear hW1; have xX1 := X1.cell
  go_wp2_with fail
  refine (aFew HP.out).mono ?_; rintro ee w2 ⟨rfl, B⟩; clear xX1; replace X1 := X1.below B; replace HB := Hqb HB B; clear B; have xX1 := X1.cell
  go_wp2_with fail
  refine (aFew HQ.out).mono ?_; rintro ee w3 ⟨rfl, B⟩; clear xX1; replace X1 := X1.below B; replace HB := Hqb HB B; clear B
  cases p
  · obtain rfl : false = r := hr
    go_wp2
    go_ret
    exact ⟨rfl, HB.out⟩
  · obtain rfl : q = r := hr
    go_wp2
    go_ret
    exact ⟨rfl, HB.out⟩
theorem rkI_fz {e : Bool} {K M E K' M' E' : Int} {s s' : Bool} (hM : M < 18446744073709551616) (hM' : M' < 18446744073709551616) (h : (fewq K E && fewq K' E') = true) : FzI (rkI e K s M E K' s' M' E') 1600 := by
  rw [Bool.and_eq_true] at h; have f1 := few_fz (s := s) hM h.1; have f2 := few_fz (s := s') hM' h.2
  intro a b hab
  cases e
  · rw [rkI_f] at hab
    split at hab
    · exact FzI.mk f1 f2 a b hab
    · cases hab
  · cases hab
end Go.Proofs.YtpnmphofengoeaaGreatDoor

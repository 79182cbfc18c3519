/-
  Contracts and words that the statement's proof rests on: App.
-/
import Derived.Maps.AppendAt
import Derived.Test.YtpnmphofengoeaaGreatDoorYPad
namespace Go.Proofs.YtpnmphofengoeaaGreatDoor
open Go.RowKit
set_option linter.unusedVariables false
set_option maxRecDepth 10000

def Ar (w : World) (base : Nat) (A : Option Addr) (n c : Nat) (l : List Nat) : Prop := w.ownsRow base 74 1 (.slice A n c) n (l.map u32) ∧ Lim l

section
variable {w w' : World} {base n c : Nat} {A : Option Addr} {l : List Nat}

theorem Ar.nil (w : World) (base : Nat) : Ar w base none 0 0 [] := ⟨World.ownsRow_nil w base _ 1, Lim.nil⟩
theorem Ar.lim (h : Ar w base A n c l) : Lim l := h.2
theorem Ar.len (h : Ar w base A n c l) : l.length = n := by have := h.1.1; simpa using this
theorem Ar.alloc (h : Ar w base A n c l) (o : Obj) : Ar (w.alloc o) base A n c l := ⟨h.1.alloc o, h.2⟩
theorem Ar.below {B : Nat} (h : Ar w base A n c l) (hb : Below B w w') (hB : ∀ g, A = some ⟨g, 0, none⟩ → g < B) : Ar w' base A n c l := by
  refine ⟨⟨h.1.1, ?_⟩, h.2⟩
  rcases h.1.2 with ⟨h1, h2⟩ | ⟨g, cap, cur, hv, hg, hh, r⟩
  · exact Or.inl ⟨h1, h2⟩
  · refine Or.inr ⟨g, cap, cur, hv, hg, ?_, r⟩
    have : A = some ⟨g, 0, none⟩ := by injection hv
    rw [hb.block g (hB g this)]; exact hh
theorem Ar.all (h : Ar w base A n c l) (hb : Below w.heap.size w w') : Ar w' base A n c l := h.below hb fun g hg => by
  rcases h.1.2 with ⟨h1, h2⟩ | ⟨g', cap, cur, hv, _, hh, r⟩
  · injection h1 with h1; rw [h1] at hg; cases hg
  · have : A = some ⟨g', 0, none⟩ := by injection hv
    rw [this] at hg
    injection hg with hg
    injection hg with hg
    subst hg
    rcases Nat.lt_or_ge g' w.heap.size with hlt | hge
    · exact hlt
    · rw [Array.getElem?_eq_none hge] at hh; cases hh
theorem Ar.sl (h : Ar w base A n c l) (hn : n ≤ 1099511627776) : ∃ g, base ≤ g ∧ Sl w g A n c l ∨ n = 0 ∧ Sl w g A n c l := by
  rcases h.1.2 with ⟨h1, h2⟩ | ⟨g, cap, cur, hv, hg, hh, hc, hm, hs, ht⟩
  · have : l = [] := List.eq_nil_of_length_eq_zero (by rw [h.len]; exact h2)
    subst this; subst h2
    injection h1 with e1 e2 e3
    subst e1; subst e3; exact ⟨0, Or.inr ⟨rfl, Sl.nil⟩⟩
  · injection hv with e1 e2 e3
    subst e1; subst e3
    refine ⟨g, Or.inl ⟨hg, h.len, hc, hn, h.2, fun hp => ⟨0, rfl, fun k hk => ?_⟩⟩⟩
    rw [cell_of_row w g (0 + k) _ _ (0, 0) hh, Nat.zero_add]
    have h2 : (cur.toList.take (n * 1))[k]? = (l.map u32)[k]? := by rw [ht]
    rw [List.getElem?_take, if_pos (by omega), List.getElem?_map] at h2; rw [← Array.getElem?_toList, h2, List.getD_eq_getElem?_getD]
    rcases hq : l[k]? with _ | y
    · rw [List.getElem?_eq_none_iff] at hq; have := h.len; omega
    · simp [u32]
theorem Ar.slice (h : Ar w base A n c l) (hn : n ≤ 1099511627776) : ∃ g, Sl w g A n c l := by
  obtain ⟨g, h | h⟩ := h.sl hn
  · exact ⟨g, h.2⟩
  · exact ⟨g, h.2⟩

theorem one_limbs (l : List Nat) : ∀ v ∈ l.map u32, v.oneCell' = true := by
  intro v hv
  obtain ⟨y, _, rfl⟩ := List.mem_map.1 hv
  rfl

theorem own_lt (h : w.ownsRow base 74 1 (.slice A n c) n (l.map u32)) {w' : World} (hg : w.grownBy w' (Value.slice A n c).ownBlock) (hb : base ≤ w.heap.size) : Below base w w' :=
  ⟨hg.os, hg.tape, hg.output, hg.size, fun k hk => hg.block k (by omega) (fun e => by have := (h.lt k e.symm).1; omega)⟩

theorem run_app {t ty : TypeId} (ht : Tryz.prog.underlying t = some (.slice 74)) {b m c' : Nat} {A' : Option Addr} {ys : List Nat} (hd : Ar w base A n c l) (hs : Sl w b A' m c' ys) (hsz : n + m ≤ 1099511627776) (hb : base ≤ w.heap.size) :
    ∃ A2 c2 w', (Builtin.append_ #[t, t] ty #[.slice A n c, .slice A' m c']).run Tryz.prog w = .ok (.slice A2 (n + m) c2) w' ∧ Ar w' base A2 (n + m) c2 (l ++ ys) ∧ Below base w w' := by
  obtain ⟨i, hi, hz, hsi, hby⟩ := info_parts info32
  rcases Nat.eq_zero_or_pos m with e | e
  · subst e
    have : ys = [] := List.eq_nil_of_length_eq_zero hs.len
    subst this
    rcases A' with _ | ad
    · refine ⟨A, c, w, ?_, by rw [List.append_nil]; exact hd, Below.refl _ _⟩
      rcases hd.1.2 with ⟨h1, h2⟩ | ⟨g, cap, cur, hv, hg, hh, hc, hm, hs', ht'⟩
      · injection h1 with e1 e2 e3
        subst e1; subst e3; subst h2
        simp [Builtin.append_, run_underlying ht, sizeOf, typeInfo, hi, Builtin.lenOf, Builtin.firstCells]
      · injection hv with e1 e2 e3
        subst e1; subst e3
        simp [Builtin.append_, run_underlying ht, sizeOf, typeInfo, hi, Builtin.lenOf, Builtin.firstCells, hc, storeCells]
    · obtain ⟨v', w', hr, ho, hg, _, _⟩ := run_append_own_at (P := Tryz.prog) w base t ty 74 i _ 1 4 ht hi hz hsi hby rfl (by decide) _ n (l.map u32) hd.1 ad 0 c' [] (by simp) (by simp) (by simp) (by unfold maxLen; omega) (by omega) hb; have hbl := own_lt hd.1 hg hb
      rcases ho.2 with ⟨h1, h2⟩ | ⟨g, cap, cur, hv, r⟩
      · subst h1; rw [h2] at ho; exact ⟨none, 0, w', by rw [h2]; exact hr, ⟨by rw [h2]; simpa using ho, by simpa using hd.2⟩, hbl⟩
      · subst hv; exact ⟨_, _, w', hr, ⟨by simpa using ho, by simpa using hd.2⟩, hbl⟩
  · obtain ⟨off, rfl, hc⟩ := hs.at e
    obtain ⟨v', w', hr, ho, hg, _, _⟩ := run_append_own_at (P := Tryz.prog) w base t ty 74 i _ 1 4 ht hi hz hsi hby rfl (by decide) _ n (l.map u32) hd.1 ⟨b, off, none⟩ m c' (ys.map u32) (by simp [hs.len]) (by
        intro j u hj
        have hj' : j < m := by
          have := (List.getElem?_eq_some_iff.1 hj).1
          have := hs.len
          simp at *
          omega
        rw [Addr.add_mid, hc j hj']; rw [List.getElem?_map] at hj; rw [List.getD_eq_getElem?_getD]
        rcases hq : ys[j]? with _ | y
        · rw [hq] at hj; simp at hj
        · rw [hq] at hj
          simp at hj ⊢
          exact hj) (one_limbs ys) (by unfold maxLen; omega) (by omega) hb
    have hbl := own_lt hd.1 hg hb
    rcases ho.2 with ⟨h1, h2⟩ | ⟨g, cap, cur, hv, r⟩
    · omega
    · subst hv; exact ⟨_, _, w', hr, ⟨by rw [List.map_append]; exact ho, hd.2.append hs.lim⟩, hbl⟩

theorem wpList_app {ops : Array Oper} {rest : List Oper} {o : Oper} {a : Act} {Q : Exit → Act → World → Prop} (hgd : o.guard = none) (s x : Operand) (t : TypeId)
    (ho : o.op = .call { callee := .builtin .append, args := #[s, x], argTypes := #[t, t] }) (ht : Tryz.prog.underlying t = some (.slice 74)) {b m c' : Nat} {A' : Option Addr} {ys : List Nat}
    (hs : a.eval s = .slice A n c) (hx : a.eval x = .slice A' m c') (hd : Ar w base A n c l) (hy : Sl w b A' m c' ys) (hsz : n + m ≤ 1099511627776) (hb : base ≤ w.heap.size)
    (h : ∀ A2 c2 w', Ar w' base A2 (n + m) c2 (l ++ ys) → Below base w w' → wpList Tryz.prog ops Q rest (a.put o.dst (.slice A2 (n + m) c2)) w') : wpList Tryz.prog ops Q (o :: rest) a w := by
  refine wpList_plain hgd fun K hK => ?_
  obtain ⟨A2, c2, w', hr, h1, h2⟩ := run_app (ty := o.type) ht hd hy hsz hb
  unfold Oper.wp execOp
  simp only [ho, resolve, invoke, builtin, Sem.run_bind, Sem.run_pure, Result.andThen_ok, List.map_toArray, List.map_cons, List.map_nil, hs, hx, hr]; exact hK _ _ (h A2 c2 w' h1 h2)
end
end Go.Proofs.YtpnmphofengoeaaGreatDoor

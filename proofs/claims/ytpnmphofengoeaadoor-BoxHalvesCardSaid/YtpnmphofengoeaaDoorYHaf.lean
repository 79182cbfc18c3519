/-
  Contracts and words that the statement's proof rests on: App.
-/
import Derived.Maps.AppendAt
import Derived.Test.YtpnmphofengoeaaDoorYHad
namespace Go.Proofs.YtpnmphofengoeaaDoor
open Go.RowKit
set_option linter.unusedVariables false
set_option maxRecDepth 10000

def Ar (w : World) (base : Nat) (A : Option Addr) (n c : Nat) (l : List Nat) : Prop := w.ownsRow base 81 1 (.slice A n c) n (l.map u32) ∧ Lim l

section
variable {w w' : World} {base n c : Nat} {A : Option Addr} {l : List Nat}

theorem Ar.nil (w : World) (base : Nat) : Ar w base none 0 0 [] := ⟨World.ownsRow_nil w base _ 1, Lim.nil⟩
theorem Ar.lim (h : Ar w base A n c l) : Lim l := h.2
theorem Ar.len (h : Ar w base A n c l) : l.length = n := by have := h.1.1; simpa using this
theorem Ar.alloc (h : Ar w base A n c l) (o : Obj) : Ar (w.alloc o) base A n c l := ⟨h.1.alloc o, h.2⟩
theorem Ar.below {B : Nat} (h : Ar w base A n c l) (hb : Below B w w') (hB : ∀ g, A = some ⟨g, 0, none⟩ → g < B) : Ar w' base A n c l := by
  refine ⟨⟨h.1.1, ?_⟩, h.2⟩
  rcases h.1.2 with ⟨h1, h2⟩ | ⟨g, cap, cur, hv, hg, hh, r⟩
  · exact Or.inl ⟨h1, h2⟩
  · refine Or.inr ⟨g, cap, cur, hv, hg, ?_, r⟩
    have : A = some ⟨g, 0, none⟩ := by injection hv
    rw [hb.block g (hB g this)]; exact hh
theorem Ar.all (h : Ar w base A n c l) (hb : Below w.heap.size w w') : Ar w' base A n c l := h.below hb fun g hg => by
  rcases h.1.2 with ⟨h1, h2⟩ | ⟨g', cap, cur, hv, _, hh, r⟩
  · injection h1 with h1; rw [h1] at hg; cases hg
  · have : A = some ⟨g', 0, none⟩ := by injection hv
    rw [this] at hg
    injection hg with hg
    injection hg with hg
    subst hg
    rcases Nat.lt_or_ge g' w.heap.size with hlt | hge
    · exact hlt
    · rw [Array.getElem?_eq_none hge] at hh; cases hh
theorem Ar.sl (h : Ar w base A n c l) (hn : n ≤ 1099511627776) : ∃ g, base ≤ g ∧ Sl w g A n c l ∨ n = 0 ∧ Sl w g A n c l := by
  rcases h.1.2 with ⟨h1, h2⟩ | ⟨g, cap, cur, hv, hg, hh, hc, hm, hs, ht⟩
  · have : l = [] := List.eq_nil_of_length_eq_zero (by rw [h.len]; exact h2)
    subst this; subst h2
    injection h1 with e1 e2 e3
    subst e1; subst e3; exact ⟨0, Or.inr ⟨rfl, Sl.nil⟩⟩
  · injection hv with e1 e2 e3
    subst e1; subst e3
    refine ⟨g, Or.inl ⟨hg, h.len, hc, hn, h.2, fun hp => ⟨0, rfl, fun k hk => ?_⟩⟩⟩
    rw [cell_of_row w g (0 + k) _ _ (0, 0) hh, Nat.zero_add]
    have h2 : (cur.toList.take (n * 1))[k]? = (l.map u32)[k]? := by rw [ht]
    rw [List.getElem?_take, if_pos (by omega), List.getElem?_map] at h2; rw [← Array.getElem?_toList, h2, List.getD_eq_getElem?_getD]
    rcases hq : l[k]? with _ | y
    · rw [List.getElem?_eq_none_iff] at hq; have := h.len; omega
    · simp [u32]
theorem Ar.slice (h : Ar w base A n c l) (hn : n ≤ 1099511627776) : ∃ g, Sl w g A n c l := by
  obtain ⟨g, h | h⟩ := h.sl hn
  · exact ⟨g, h.2⟩
  · exact ⟨g, h.2⟩

theorem own_lt (h : w.ownsRow base 81 1 (.slice A n c) n (l.map u32)) {w' : World} (hg : w.grownBy w' (Value.slice A n c).ownBlock) (hb : base ≤ w.heap.size) : Below base w w' :=
  ⟨hg.os, hg.tape, hg.output, hg.size, fun k hk => hg.block k (by omega) (fun e => by have := (h.lt k e.symm).1; omega)⟩

end
end Go.Proofs.YtpnmphofengoeaaDoor

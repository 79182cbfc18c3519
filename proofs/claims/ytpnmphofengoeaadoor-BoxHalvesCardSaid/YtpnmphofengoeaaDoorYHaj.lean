/-
  Contracts and words that the statement's proof rests on: Refc.
-/
import Derived.Test.YtpnmphofengoeaaDoorYHaf
import Derived.Test.YtpnmphofengoeaaDoorYHag
namespace Go.Proofs.YtpnmphofengoeaaDoor
open Go.RowKit
set_option linter.unusedVariables false

theorem Ar.set {w : World} {base n c : Nat} {A : Option Addr} {l : List Nat} (h : Ar w base A n c l) {i : Nat} (hi : i < n) :
    ∃ g, A = some ⟨g, 0, none⟩ ∧ base ≤ g ∧ w.cell? ⟨g, i, none⟩ = some (.int .u32 (l.getD i 0 : Nat)) ∧ w.frozen? ⟨g, i, none⟩ = false ∧
      ∀ x : Nat, x < 4294967296 → Ar (w.setCell ⟨g, i, none⟩ (.int .u32 (x : Int))) base A n c (l.set i x) := by
  have hl := h.len
  rcases h.1.2 with ⟨h1, h2⟩ | ⟨g, cap, cur, hv, hg, hh, hc, hm, hs, ht⟩
  · omega
  · injection hv with e1 e2 e3
    subst e1; subst e3
    refine ⟨g, rfl, hg, ?_, by simp [World.frozen?, hh], fun x hx => ⟨⟨by simp [hl], Or.inr ⟨g, c, cur.setIfInBounds i (.int .u32 (x : Int)), rfl, hg, ?_, hc, hm, by simpa using hs, ?_⟩⟩, h.2.set i hx⟩⟩
    · rw [cell_of_row w g i _ _ (0, 0) hh]
      have h2 : (cur.toList.take (n * 1))[i]? = (l.map u32)[i]? := by rw [ht]
      rw [List.getElem?_take, if_pos (by omega), List.getElem?_map] at h2; rw [← Array.getElem?_toList, h2, List.getD_eq_getElem?_getD]
      rcases hq : l[i]? with _ | y
      · rw [List.getElem?_eq_none_iff] at hq; omega
      · simp [u32]
    · simp [World.setCell, Array.getElem?_modify, hh]
    · rw [Array.toList_setIfInBounds, List.take_set, ht, List.map_set]
      rfl

end Go.Proofs.YtpnmphofengoeaaDoor

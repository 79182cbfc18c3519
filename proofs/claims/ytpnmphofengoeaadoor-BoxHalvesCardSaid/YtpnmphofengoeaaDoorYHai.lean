/-
  Contracts and words that the statement's proof rests on: Wc, Wg.
-/
import Derived.IntWalk
import Derived.Test.YtpnmphofengoeaaDoorYHag
namespace Go.Proofs.YtpnmphofengoeaaDoor
open Go.RowKit
set_option linter.unusedVariables false

theorem cmpI_zero {x y : Int} : cmpI x y = 0 ↔ x = y := by unfold cmpI; split <;> (try split) <;> omega

end Go.Proofs.YtpnmphofengoeaaDoor

namespace Go.Proofs.YtpnmphofengoeaaDoor
open Go.RowKit
set_option linter.unusedVariables false

def Wl (w : World) (A : Option Addr) (n c K : Nat) (zs : List Int) : Prop :=
  zs.length = n ∧ n ≤ c ∧ n ≤ 1099511627776 ∧ (0 < n → ∃ b o, A = some ⟨b, o, none⟩ ∧ ∀ k, k < n → ∃ s B m d, w.cell? ⟨b, o + k * 2, none⟩ = some (.bool s) ∧ w.cell? ⟨b, o + k * 2 + 1, none⟩ = some (.slice B m d) ∧ Wr w s B m d (zs.getD k 0) ∧ m ≤ K)
theorem Wl.below {w w' : World} {A : Option Addr} {n c K : Nat} {zs : List Int} (h : Wl w A n c K zs) (hb : Below w.heap.size w w') : Wl w' A n c K zs := by
  obtain ⟨h1, h2, h3, h4⟩ := h
  refine ⟨h1, h2, h3, fun hn => ?_⟩
  obtain ⟨b, o, e, hc⟩ := h4 hn
  refine ⟨b, o, e, fun k hk => ?_⟩
  obtain ⟨s, B, m, d, c0, c1, hw, hm⟩ := hc k hk; exact ⟨s, B, m, d, (hb.cell (p := ⟨b, _, none⟩) (block_lt_of_cell c0)).trans c0, (hb.cell (p := ⟨b, _, none⟩) (block_lt_of_cell c1)).trans c1, hw.below hb, hm⟩

end Go.Proofs.YtpnmphofengoeaaDoor

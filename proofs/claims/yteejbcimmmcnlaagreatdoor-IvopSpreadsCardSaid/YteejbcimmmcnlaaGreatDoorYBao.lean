/-
  Contracts and words that the statement's proof rests on, several texts in one: Lw.
-/
import Derived.Below
import Derived.BigQuiet
import Derived.Carry
import Derived.Deep.Draws
import Derived.Deep.MidRow
import Derived.Deep.QuietTactic
import Derived.Deep.RegionHeld3
import Derived.Deep.RegionWith
import Derived.IntWalk
import Derived.Laws.CopyOwn
import Derived.Laws.MakeOwn
import Derived.Laws.OwnMore
import Derived.Laws.Rows
import Derived.Lib.BitFns
import Derived.Lib.Hide
import Derived.Test.YteejbcimmmcnlaaGreatDoorRows
import Derived.WalkKit
import Derived.WalkLawsBesides
import Derived.WalkSpells
import Derived.Test.YteejbcimmmcnlaaGreatDoorYBaj
import Derived.Test.YteejbcimmmcnlaaGreatDoorYBak
import Derived.Test.YteejbcimmmcnlaaGreatDoorYBam
/-
  What every statement of layer 2 begins with: the chapter's examples, and the test of lengths.
-/
namespace Go.Proofs.YteejbcimmmcnlaaGreatDoor
open Go.RowKit
set_option linter.unusedVariables false

theorem Wl.lit2 {W : World} {g K : Nat} {s1 s2 : Bool} {A1 A2 : Option Addr} {n1 c1 n2 c2 : Nat} {z1 z2 : Int} (hg : W.heap.size = g)
    (h1 : Wr W s1 A1 n1 c1 z1) (h2 : Wr W s2 A2 n2 c2 z2) (k1 : n1 ≤ K) (k2 : n2 ≤ K) :
    Wl (W.alloc (.cells #[.bool s1, .slice A1 n1 c1, .bool s2, .slice A2 n2 c2] 40)) (some ⟨g, 0, none⟩) 2 2 K [z1, z2] := by
  subst hg; have hh := heap_alloc_new W (.cells #[.bool s1, .slice A1 n1 c1, .bool s2, .slice A2 n2 c2] 40)
  refine ⟨rfl, Nat.le_refl _, by decide, fun _ => ⟨_, 0, rfl, fun k hk => ?_⟩⟩
  rcases (by omega : k = 0 ∨ k = 1) with rfl | rfl
  · exact ⟨s1, A1, n1, c1, by rw [cell_of_row _ _ _ _ _ _ hh]; rfl, by rw [cell_of_row _ _ _ _ _ _ hh]; rfl, h1.below (bel1 _ _), k1⟩
  · exact ⟨s2, A2, n2, c2, by rw [cell_of_row _ _ _ _ _ _ hh]; rfl, by rw [cell_of_row _ _ _ _ _ _ hh]; rfl, h2.below (bel1 _ _), k2⟩

end Go.Proofs.YteejbcimmmcnlaaGreatDoor

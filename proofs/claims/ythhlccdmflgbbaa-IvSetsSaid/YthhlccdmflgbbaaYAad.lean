/-
  Contracts and words that the statement's proof rests on, several texts in one: Cut.
-/
import Derived.BigQuiet
import Derived.Deep.QuietTactic
import Derived.Test.YthhlccdmflgbbaaRows
import Derived.WalkKit
import Derived.WalkLawsBesides
import Derived.WalkSpells
import Derived.Test.YthhlccdmflgbbaaYAac
/-
  What nat.cut and nat.Trim do, for every slice of limbs.
-/
namespace Go.Proofs.Ythhlccdmflgbbaa
open Go.RowKit
set_option linter.unusedVariables false

theorem lit1 (W : World) (x : Nat) (hx : x < 4294967296) : Sl (W.alloc (.cells #[.int .u32 (x : Int)] 68)) W.heap.size (some ⟨W.heap.size, 0, none⟩) 1 1 [x] := (Own.new W [x]).all (Lim.cons hx Lim.nil) (by simp) (Nat.le_refl _)
theorem lit2 (W : World) (x y : Nat) (hx : x < 4294967296) (hy : y < 4294967296) : Sl (W.alloc (.cells #[.int .u32 (x : Int), .int .u32 (y : Int)] 68)) W.heap.size (some ⟨W.heap.size, 0, none⟩) 2 2 [x, y] :=
  (Own.new W [x, y]).all (Lim.cons hx (Lim.cons hy Lim.nil)) (by simp) (Nat.le_refl _)
theorem alloc_below (W : World) (o : Obj) : Below W.heap.size W (W.alloc o) := (Below.refl _ _).alloc (Nat.le_refl _) _

end Go.Proofs.Ythhlccdmflgbbaa

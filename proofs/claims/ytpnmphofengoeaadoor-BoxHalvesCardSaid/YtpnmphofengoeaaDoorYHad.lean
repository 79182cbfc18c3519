/-
  Contracts and words that the statement's proof rests on: Cut.
-/
import Derived.BigQuiet
import Derived.Deep.QuietTactic
import Derived.Test.YtpnmphofengoeaaDoorRows
import Derived.WalkKit
import Derived.WalkLawsBesides
import Derived.WalkSpells
import Derived.Test.YtpnmphofengoeaaDoorYHac
namespace Go.Proofs.YtpnmphofengoeaaDoor
open Go.RowKit
set_option linter.unusedVariables false

theorem lit2 (W : World) (x y : Nat) (hx : x < 4294967296) (hy : y < 4294967296) : Sl (W.alloc (.cells #[.int .u32 (x : Int), .int .u32 (y : Int)] 81)) W.heap.size (some ⟨W.heap.size, 0, none⟩) 2 2 [x, y] :=
  (Own.new W [x, y]).all (Lim.cons hx (Lim.cons hy Lim.nil)) (by simp) (Nat.le_refl _)
theorem alloc_below (W : World) (o : Obj) : Below W.heap.size W (W.alloc o) := (Below.refl _ _).alloc (Nat.le_refl _) _

end Go.Proofs.YtpnmphofengoeaaDoor

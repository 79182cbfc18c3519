/-
  Contracts and words that the statement's proof rests on, several texts in one: Wc, Wd, Wg, Wf.
-/
import Derived.Below
import Derived.BigQuiet
import Derived.Carry
import Derived.Deep.Draws
import Derived.Deep.MidRow
import Derived.Deep.QuietTactic
import Derived.Deep.RegionWith
import Derived.IntWalk
import Derived.Laws.CopyOwn
import Derived.Laws.MakeOwn
import Derived.Laws.OwnMore
import Derived.Laws.Rows
import Derived.Lib.BitFns
import Derived.Lib.Hide
import Derived.Test.YtbhnpmkdmnnclaaDoorRows
import Derived.WalkKit
import Derived.WalkLawsBesides
import Derived.WalkSpells
import Derived.Test.YtbhnpmkdmnnclaaDoorYBag
/-
  What whole.Sign, Cmp, Same and May do.
-/
namespace Go.Proofs.YtbhnpmkdmnnclaaDoor
open Go.RowKit
set_option linter.unusedVariables false

theorem cmpI_zero {x y : Int} : cmpI x y = 0 ↔ x = y := by unfold cmpI; split <;> (try split) <;> omega

end Go.Proofs.YtbhnpmkdmnnclaaDoor

/-
  What whole.From does, for every number of 64 bits.
-/
namespace Go.Proofs.YtbhnpmkdmnnclaaDoor
open Go.RowKit
set_option linter.unusedVariables false

theorem two_rd (W : World) {g k : Nat} {X Y : Int} (hg : W.heap.size = g) (hX : X = ((k % 4294967296 : Nat) : Int)) (hY : Y = ((k / 4294967296 : Nat) : Int)) (hk : k < 18446744073709551616) :
    Rd (W.alloc (.cells #[.int .u32 X, .int .u32 Y] 59)) (some ⟨g, 0, none⟩) 2 2 k := by
  subst hg; subst hX; subst hY
  exact ⟨_, _, lit2 W _ _ (Nat.mod_lt _ (by decide)) (by omega), by simp [val]; omega⟩
end Go.Proofs.YtbhnpmkdmnnclaaDoor

/-
  What whole.Mul does: the product of all numbers of a slice, whose limbs together are not too many.
-/
namespace Go.Proofs.YtbhnpmkdmnnclaaDoor
open Go.RowKit
set_option linter.unusedVariables false

theorem sg_mul (s t : Bool) (a b : Nat) : sg (s != t) (a * b) = sg s a * sg t b := by
  cases s <;> cases t <;> simp [sg, Int.neg_mul, Int.mul_neg]

/-- A slice of whole numbers reads as the integers zs; none has more than K limbs. -/
def Wl (w : World) (A : Option Addr) (n c K : Nat) (zs : List Int) : Prop :=
  zs.length = n ∧ n ≤ c ∧ n ≤ 1099511627776 ∧ (0 < n → ∃ b o, A = some ⟨b, o, none⟩ ∧ ∀ k, k < n → ∃ s B m d, w.cell? ⟨b, o + k * 2, none⟩ = some (.bool s) ∧ w.cell? ⟨b, o + k * 2 + 1, none⟩ = some (.slice B m d) ∧ Wr w s B m d (zs.getD k 0) ∧ m ≤ K)
theorem Wl.below {w w' : World} {A : Option Addr} {n c K : Nat} {zs : List Int} (h : Wl w A n c K zs) (hb : Below w.heap.size w w') : Wl w' A n c K zs := by
  obtain ⟨h1, h2, h3, h4⟩ := h
  refine ⟨h1, h2, h3, fun hn => ?_⟩
  obtain ⟨b, o, e, hc⟩ := h4 hn
  refine ⟨b, o, e, fun k hk => ?_⟩
  obtain ⟨s, B, m, d, c0, c1, hw, hm⟩ := hc k hk
  exact ⟨s, B, m, d, (hb.cell (p := ⟨b, _, none⟩) (block_lt_of_cell c0)).trans c0, (hb.cell (p := ⟨b, _, none⟩) (block_lt_of_cell c1)).trans c1, hw.below hb, hm⟩

end Go.Proofs.YtbhnpmkdmnnclaaDoor

/-
  What whole.word and Int do.
-/
namespace Go.Proofs.YtbhnpmkdmnnclaaDoor
open Go.RowKit
set_option linter.unusedVariables false

theorem val_int {k : IntKind} {a b : Int} (h : a = b) : Value.int k a = .int k b := by rw [h]
end Go.Proofs.YtbhnpmkdmnnclaaDoor

/-
  Contracts and words that the statements' proofs rest on, several texts in one: Open.
-/
import Derived.Test.YthibemmhgdbiiaaDoorRows
import Derived.ProofKit
import Derived.OpenShut
import Derived.ChangeSame
import Derived.Deep.Slices
import Derived.Test.YthibemmhgdbiiaaDoorZag
/-
  What a row's proof is told of whole numbers that come in.
-/
namespace Go.Proofs.YthibemmhgdbiiaaDoor
open Go.ChangeShapes Go.WideShapes Go.ChangeAt Go.RowKit Go.Deep
set_option linter.unusedVariables false
set_option maxRecDepth 100000

section
variable {H : Type} {enc : TypeId × Value → H} {W : World}

theorem row_of {n : Nat} {v : Value} {y : DataW H × List MemPlace} (h : DataW.trod enc Tryd.prog W 0 (fun _ => true) true n 22 [v] = some y) : ∃ a len cap zs, v = .slice a len cap ∧ RowIn W a len cap zs := by
  rcases open_ints Tryd.underlying22 Tryd.underlying53 (by kernel_rfl) h with ⟨hcs, _⟩ | ⟨x, l, c, zs, hcs, _, hl, hm, hz, _, hcell, hwz⟩
  · simp at hcs
    exact ⟨none, 0, 0, [], hcs, .inl ⟨rfl, rfl, rfl, rfl⟩⟩
  · simp at hcs
    exact ⟨some x, l, c, zs, hcs, .inr ⟨_, rfl, hl, hm, by simpa using hz, hcell, hwz⟩⟩

theorem cells_whole : Tryd.prog.cellsOf 24 = 2 := by kernel_rfl
theorem cells_bool : Tryd.prog.cellsOf 4 = 1 := by kernel_rfl
theorem cells_row : Tryd.prog.cellsOf 22 = 1 := by kernel_rfl

theorem whole_of {n : Nat} {cs : List Value} {y : DataW H × List MemPlace} (h : DataW.trod enc Tryd.prog W 0 (fun _ => true) true n 24 cs = some y) :
    ∃ s a len cap zs, cs = [.bool s, .slice a len cap] ∧ RowIn W a len cap zs := by
  obtain ⟨y0, y1, m, _, hl, h0, h1⟩ := trod_struct2 Tryd.underlying24 h
  rw [cells_whole] at hl
  simp only [cells_bool, cells_row] at h0 h1
  match cs, hl with
  | [c0, c1], _ =>
    obtain ⟨s, e, _⟩ := DataW.trod_bool Tryd.underlying4 h0
    obtain ⟨a, len, cap, zs, e1, hr⟩ := row_of (v := c1) h1
    simp at e
    exact ⟨s, a, len, cap, zs, by rw [e, e1], hr⟩

theorem open_whole {r : Reach} {b0 : Nat} {v : Value} {d : DataW H} {p : List MemPlace} (hv : Value.okWide Tryd.prog W r b0 24 v) (h : DataW.Trod enc Tryd.prog W 0 (fun _ => true) true 24 v d p) :
    ∃ s a len cap zs, v = .agg #[.bool s, .slice a len cap] ∧ RowIn W a len cap zs := by
  obtain ⟨cs, rfl, hsz⟩ := okWide_struct Tryd.underlying24 hv
  obtain ⟨fuel, hf⟩ := h
  obtain ⟨s, a, len, cap, zs, e, hr⟩ := whole_of hf
  refine ⟨s, a, len, cap, zs, ?_, hr⟩
  simp [Value.cells] at e
  congr 1
  cases cs
  simp at e
  rw [e]

/-- What a row's proof knows of a slice of whole numbers that came in. -/
def RowsW (w : World) (a : Option Addr) (len cap : Nat) : Prop :=
  (a = none ∧ len = 0 ∧ cap = 0) ∨ ∃ x, a = some x ∧ len ≤ cap ∧ cap ≤ maxLen ∧ ∀ i, i < len → ∃ s b n c zs, w.cell? (x.add (i * 2)) = some (.bool s) ∧ w.cell? (x.add (i * 2 + 1)) = some (.slice b n c) ∧ RowIn w b n c zs

end
end Go.Proofs.YthibemmhgdbiiaaDoor

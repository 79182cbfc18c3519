/-
  Contracts and words that the statement's proof rests on, several texts in one: Open.
-/
import Derived.ChangeSame
import Derived.Deep.Slices
import Derived.OpenShut
import Derived.ProofKit
import Derived.Test.YtpmakljahhhnfaaDoorRows
import Derived.Test.YtpmakljahhhnfaaDoorYBah
/-
  What a row's proof is told of whole numbers that come in.
-/
namespace Go.Proofs.YtpmakljahhhnfaaDoor
open Go.ChangeShapes Go.WideShapes Go.ChangeAt Go.RowKit Go.Deep
set_option linter.unusedVariables false
set_option maxRecDepth 100000

section
variable {H : Type} {enc : TypeId × Value → H} {W : World}

theorem row_of {n : Nat} {v : Value} {y : DataW H × List MemPlace} (h : DataW.trod enc Tryd.prog W 0 (fun _ => true) true n 26 [v] = some y) : ∃ a len cap zs, v = .slice a len cap ∧ RowIn W a len cap zs := by
  rcases open_ints Tryd.underlying26 Tryd.underlying53 (by kernel_rfl) h with ⟨hcs, _⟩ | ⟨x, l, c, zs, hcs, _, hl, hm, hz, _, hcell, hwz⟩
  · simp at hcs
    exact ⟨none, 0, 0, [], hcs, .inl ⟨rfl, rfl, rfl, rfl⟩⟩
  · simp at hcs
    exact ⟨some x, l, c, zs, hcs, .inr ⟨_, rfl, hl, hm, by simpa using hz, hcell, hwz⟩⟩

theorem cells_whole : Tryd.prog.cellsOf 28 = 2 := by kernel_rfl
theorem cells_bool : Tryd.prog.cellsOf 4 = 1 := by kernel_rfl
theorem cells_row : Tryd.prog.cellsOf 26 = 1 := by kernel_rfl

theorem whole_of {n : Nat} {cs : List Value} {y : DataW H × List MemPlace} (h : DataW.trod enc Tryd.prog W 0 (fun _ => true) true n 28 cs = some y) :
    ∃ s a len cap zs, cs = [.bool s, .slice a len cap] ∧ RowIn W a len cap zs := by
  obtain ⟨y0, y1, m, _, hl, h0, h1⟩ := trod_struct2 Tryd.underlying28 h
  rw [cells_whole] at hl
  simp only [cells_bool, cells_row] at h0 h1
  match cs, hl with
  | [c0, c1], _ =>
    obtain ⟨s, e, _⟩ := DataW.trod_bool Tryd.underlying4 h0
    obtain ⟨a, len, cap, zs, e1, hr⟩ := row_of (v := c1) h1
    simp at e
    exact ⟨s, a, len, cap, zs, by rw [e, e1], hr⟩

end
end Go.Proofs.YtpmakljahhhnfaaDoor

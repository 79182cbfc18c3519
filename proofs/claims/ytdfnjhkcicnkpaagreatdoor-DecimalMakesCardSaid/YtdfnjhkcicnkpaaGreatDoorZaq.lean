/-
  Contracts and words that the statements' proofs rest on, several texts in one: Open.
-/
import Derived.Test.YtdfnjhkcicnkpaaGreatDoorRows
import Derived.ProofKit
import Derived.OpenShut
import Derived.ChangeSame
import Derived.Deep.Slices
import Derived.Test.YtdfnjhkcicnkpaaGreatDoorZai
/-
  What a row's proof is told of whole numbers that come in.
-/
namespace Go.Proofs.YtdfnjhkcicnkpaaGreatDoor
open Go.ChangeShapes Go.WideShapes Go.ChangeAt Go.RowKit Go.Deep
set_option linter.unusedVariables false
set_option maxRecDepth 100000

section
variable {H : Type} {enc : TypeId × Value → H} {W : World}

theorem row_of {n : Nat} {v : Value} {y : DataW H × List MemPlace} (h : DataW.trod enc Tryz.prog W 0 (fun _ => true) true n 23 [v] = some y) : ∃ a len cap zs, v = .slice a len cap ∧ RowIn W a len cap zs := by
  rcases open_ints Tryz.underlying23 Tryz.underlying70 (by kernel_rfl) h with ⟨hcs, _⟩ | ⟨x, l, c, zs, hcs, _, hl, hm, hz, _, hcell, hwz⟩
  · simp at hcs
    exact ⟨none, 0, 0, [], hcs, .inl ⟨rfl, rfl, rfl, rfl⟩⟩
  · simp at hcs
    exact ⟨some x, l, c, zs, hcs, .inr ⟨_, rfl, hl, hm, by simpa using hz, hcell, hwz⟩⟩

theorem cells_whole : Tryz.prog.cellsOf 25 = 2 := by kernel_rfl
theorem cells_bool : Tryz.prog.cellsOf 4 = 1 := by kernel_rfl
theorem cells_row : Tryz.prog.cellsOf 23 = 1 := by kernel_rfl

theorem whole_of {n : Nat} {cs : List Value} {y : DataW H × List MemPlace} (h : DataW.trod enc Tryz.prog W 0 (fun _ => true) true n 25 cs = some y) :
    ∃ s a len cap zs, cs = [.bool s, .slice a len cap] ∧ RowIn W a len cap zs := by
  obtain ⟨y0, y1, m, _, hl, h0, h1⟩ := trod_struct2 Tryz.underlying25 h
  rw [cells_whole] at hl
  simp only [cells_bool, cells_row] at h0 h1
  match cs, hl with
  | [c0, c1], _ =>
    obtain ⟨s, e, _⟩ := DataW.trod_bool Tryz.underlying4 h0
    obtain ⟨a, len, cap, zs, e1, hr⟩ := row_of (v := c1) h1
    simp at e
    exact ⟨s, a, len, cap, zs, by rw [e, e1], hr⟩

theorem open_whole {r : Reach} {b0 : Nat} {v : Value} {d : DataW H} {p : List MemPlace} (hv : Value.okWide Tryz.prog W r b0 25 v) (h : DataW.Trod enc Tryz.prog W 0 (fun _ => true) true 25 v d p) :
    ∃ s a len cap zs, v = .agg #[.bool s, .slice a len cap] ∧ RowIn W a len cap zs := by
  obtain ⟨cs, rfl, hsz⟩ := okWide_struct Tryz.underlying25 hv
  obtain ⟨fuel, hf⟩ := h
  obtain ⟨s, a, len, cap, zs, e, hr⟩ := whole_of hf
  refine ⟨s, a, len, cap, zs, ?_, hr⟩
  simp [Value.cells] at e
  congr 1
  cases cs
  simp at e
  rw [e]

/-- What a row's proof knows of a slice of whole numbers that came in. -/
def RowsW (w : World) (a : Option Addr) (len cap : Nat) : Prop :=
  (a = none ∧ len = 0 ∧ cap = 0) ∨ ∃ x, a = some x ∧ len ≤ cap ∧ cap ≤ maxLen ∧ ∀ i, i < len → ∃ s b n c zs, w.cell? (x.add (i * 2)) = some (.bool s) ∧ w.cell? (x.add (i * 2 + 1)) = some (.slice b n c) ∧ RowIn w b n c zs

theorem open_wholes {r : Reach} {b0 : Nat} {v : Value} {d : DataW H} {p : List MemPlace} (hv : Value.okWide Tryz.prog W r b0 136 v) (h : DataW.Trod enc Tryz.prog W 0 (fun _ => true) true 136 v d p) :
    ∃ a len cap, v = .slice a len cap ∧ RowsW W a len cap := by
  obtain ⟨a, len, cap, rfl⟩ := okWide_slice Tryz.underlying136 hv
  refine ⟨a, len, cap, rfl, ?_⟩
  obtain ⟨fuel, hf⟩ := h
  rcases open_slice Tryz.underlying136 hf with ⟨hcs, _⟩ | ⟨x, l, c, m, n, D, Pl, hcs, _, hl, hm, hmm, _, hi⟩
  · simp [Value.cells] at hcs
    obtain ⟨rfl, rfl, rfl⟩ := hcs
    exact .inl ⟨rfl, rfl, rfl⟩
  · simp [Value.cells] at hcs
    obtain ⟨rfl, rfl, rfl⟩ := hcs
    simp at hmm
    subst hmm
    refine .inr ⟨x, rfl, hl, hm, fun i hil => ?_⟩
    obtain ⟨cs', hc, ht⟩ := hi i (by omega)
    rw [cells_whole] at hc
    obtain ⟨_, hcl, hat⟩ := World.cells?_some hc
    obtain ⟨s, b, n', c', zs, rfl, hr⟩ := whole_of ht
    have h0 := hat 0 (by omega)
    have h1 := hat 1 (by omega)
    rw [Go.Deep.add_add] at h0 h1
    exact ⟨s, b, n', c', zs, by simpa using h0, by simpa using h1, hr⟩
end
end Go.Proofs.YtdfnjhkcicnkpaaGreatDoor

/-
  Contracts and words that the statements' proofs rest on, several texts in one: Opd.
-/
import Derived.Lib.LaidTab
import Derived.Lay
import Derived.LaidHandle
import Derived.MakeChecks
import Derived.Test.YthibemmhgdbiiaaDoorZao
import Derived.Test.YthibemmhgdbiiaaDoorZap
/-
  What a row's proof is told of numbers times powers of two that come in, and of a listed table.
-/
namespace Go.Proofs.YthibemmhgdbiiaaDoor
open Go.ChangeShapes Go.WideShapes Go.ChangeAt Go.RowKit Go.Deep
set_option linter.unusedVariables false
set_option maxRecDepth 100000

section
variable {H : Type} {enc : TypeId × Value → H} {W : World}

theorem cells_dy : Tryd.prog.cellsOf 26 = 3 := by kernel_rfl
theorem cells_int : Tryd.prog.cellsOf 3 = 1 := by kernel_rfl

theorem dy_of {n : Nat} {cs : List Value} {y : DataW H × List MemPlace} (h : DataW.trod enc Tryd.prog W 0 (fun _ => true) true n 26 cs = some y) :
    ∃ s a len cap zs e, cs = [.bool s, .slice a len cap, .int .i64 e] ∧ RowIn W a len cap zs := by
  obtain ⟨y0, y1, m, _, hl, h0, h1⟩ := trod_struct2 Tryd.underlying26 h
  rw [cells_dy] at hl
  simp only [cells_whole, cells_int] at h0 h1
  match cs, hl with
  | [c0, c1, c2], _ =>
    obtain ⟨s, a, len, cap, zs, e, hr⟩ := whole_of h0
    obtain ⟨k, e2, _, _⟩ := DataW.trod_int Tryd.underlying3 h1
    simp at e e2
    exact ⟨s, a, len, cap, zs, k, by rw [e.1, e.2, e2], hr⟩

theorem open_dy {r : Reach} {b0 : Nat} {v : Value} {d : DataW H} {p : List MemPlace} (hv : Value.okWide Tryd.prog W r b0 26 v) (h : DataW.Trod enc Tryd.prog W 0 (fun _ => true) true 26 v d p) :
    ∃ s a len cap zs e, v = .agg #[.bool s, .slice a len cap, .int .i64 e] ∧ RowIn W a len cap zs := by
  obtain ⟨cs, rfl, hsz⟩ := okWide_struct Tryd.underlying26 hv
  obtain ⟨fuel, hf⟩ := h
  obtain ⟨s, a, len, cap, zs, k, e, hr⟩ := dy_of hf
  refine ⟨s, a, len, cap, zs, k, ?_, hr⟩
  simp [Value.cells] at e
  congr 1
  cases cs
  simp at e
  rw [e]

/-- What a row's proof knows of a slice of numbers that came in. -/
def RowsD (w : World) (a : Option Addr) (len cap : Nat) : Prop :=
  (a = none ∧ len = 0 ∧ cap = 0) ∨ ∃ x, a = some x ∧ len ≤ cap ∧ cap ≤ maxLen ∧ ∀ i, i < len → ∃ s b n c zs e, w.cell? (x.add (i * 3)) = some (.bool s) ∧ w.cell? (x.add (i * 3 + 1)) = some (.slice b n c) ∧ w.cell? (x.add (i * 3 + 2)) = some (.int .i64 e) ∧ RowIn w b n c zs

theorem RowsD.len {w : World} {a : Option Addr} {len cap : Nat} (h : RowsD w a len cap) : len ≤ 9223372036854775807 := by
  rcases h with ⟨_, rfl, _⟩ | ⟨x, _, h1, h2, _⟩
  · omega
  · unfold maxLen at h2; omega

theorem gTab : Tryd.prog.globalNamed "math/bits.deBruijn32tab" = some 0 := by kernel_rfl
theorem tTab : (Tryd.prog.globals[0]?).map (·.type) = some 90 := by kernel_rfl
theorem cells_u8 : Tryd.prog.cellsOf 5 = 1 := by kernel_rfl
theorem cells_tab : Tryd.prog.cellsOf 90 = 32 := by kernel_rfl
theorem tab_of {rest : List (String × DataW Unit)} (h : laidMet Tryd.prog (("math/bits.deBruijn32tab", Lib.tabData .u8 tzs) :: rest) W) : Tab W := by
  have hT := Lib.tabIs_of_head gTab tTab Tryd.underlying90 Tryd.underlying5 cells_u8 cells_tab h
  exact fun i hi => hT.cell gTab i hi
end
end Go.Proofs.YthibemmhgdbiiaaDoor

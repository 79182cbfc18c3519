/-
  Contracts and words that the statement's proof rests on, several texts in one: Opc.
-/
import Derived.Lib.LaidU8
import Derived.Test.YtpmakljahhhnfaaDoorYBav
import Derived.Test.YtpmakljahhhnfaaDoorYBaw
/-
  What a row's proof is told of numbers times powers of ten that come in, and of the listed powers of ten.
-/
namespace Go.Proofs.YtpmakljahhhnfaaDoor
open Go.ChangeShapes Go.WideShapes Go.ChangeAt Go.RowKit Go.Deep
set_option linter.unusedVariables false
set_option maxRecDepth 100000

section
variable {H : Type} {enc : TypeId × Value → H} {W : World}

theorem i64_in {x : Int} (h : (Lit.int .i64 x).wf = true) : -9223372036854775808 ≤ x ∧ x ≤ 9223372036854775807 := by simpa [Lit.wf, IntKind.min, IntKind.max, IntKind.signed, IntKind.bits] using h

theorem cells_dec : Tryd.prog.cellsOf 43 = 3 := by kernel_rfl

theorem dec_of {n : Nat} {cs : List Value} {y : DataW H × List MemPlace} (h : DataW.trod enc Tryd.prog W 0 (fun _ => true) true n 43 cs = some y) :
    ∃ s a len cap zs e, cs = [.bool s, .slice a len cap, .int .i64 e] ∧ RowIn W a len cap zs ∧ (Lit.int .i64 e).wf = true := by
  obtain ⟨y0, y1, m, _, hl, h0, h1⟩ := trod_struct2 Tryd.underlying43 h
  rw [cells_dec] at hl
  simp only [cells_whole, cells_int] at h0 h1
  match cs, hl with
  | [c0, c1, c2], _ =>
    obtain ⟨s, a, len, cap, zs, e, hr⟩ := whole_of h0
    obtain ⟨k, e2, _, hw⟩ := DataW.trod_int Tryd.underlying3 h1
    simp at e e2
    exact ⟨s, a, len, cap, zs, k, by rw [e.1, e.2, e2], hr, hw⟩

theorem open_dec {r : Reach} {b0 : Nat} {v : Value} {d : DataW H} {p : List MemPlace} (hv : Value.okWide Tryd.prog W r b0 43 v) (h : DataW.Trod enc Tryd.prog W 0 (fun _ => true) true 43 v d p) :
    ∃ s a len cap zs e, v = .agg #[.bool s, .slice a len cap, .int .i64 e] ∧ RowIn W a len cap zs ∧ (Lit.int .i64 e).wf = true := by
  obtain ⟨cs, rfl, hsz⟩ := okWide_struct Tryd.underlying43 hv
  obtain ⟨fuel, hf⟩ := h
  obtain ⟨s, a, len, cap, zs, k, e, hr⟩ := dec_of hf
  refine ⟨s, a, len, cap, zs, k, ?_, hr⟩
  simp [Value.cells] at e
  congr 1
  cases cs
  simp at e
  rw [e]

end
end Go.Proofs.YtpmakljahhhnfaaDoor

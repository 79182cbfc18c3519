/-
  Contracts and words that the statement's proof rests on: Opn.
-/
import Derived.Lib.SmallJoins
import Derived.Test.YtpnmphofengoeaaGreatDoorYPap
import Derived.Test.YtpnmphofengoeaaGreatDoorYPay
namespace Go.Proofs.YtpnmphofengoeaaGreatDoor
open Go.ChangeShapes Go.WideShapes Go.ChangeAt Go.RowKit Go.Deep
set_option linter.unusedVariables false
set_option maxRecDepth 100000

section
variable {H : Type} {enc : TypeId × Value → H} {W : World}

theorem cells_num : Tryz.prog.cellsOf 32 = 4 := by kernel_rfl
theorem cells_u64 : Tryz.prog.cellsOf 30 = 1 := by kernel_rfl
theorem cells_bool' : Tryz.prog.cellsOf 4 = 1 := by kernel_rfl
theorem wf_u64 {n : Int} (h : (Lit.int .u64 n).wf = true) : 0 ≤ n ∧ n < 18446744073709551616 := by
  simp [Lit.wf, IntKind.min, IntKind.max, IntKind.signed, IntKind.bits] at h
  omega
theorem num_of {n : Nat} {cs : List Value} {y : DataW H × List MemPlace} (h : DataW.trod enc Tryz.prog W 0 (fun _ => true) true n 32 cs = some y) :
    ∃ D s M E, cs = [.int .i64 D, .bool s, .int .u64 M, .int .i64 E] ∧ 0 ≤ M ∧ M < 18446744073709551616 := by
  obtain ⟨y0, y1, y2, y3, m, _, hl, h0, h1, h2, h3⟩ := Go.Joins.trod_struct4 Tryz.underlying32 h; rw [cells_num] at hl; simp only [cells_int, cells_bool', cells_u64] at h0 h1 h2 h3
  match cs, hl with
  | [c0, c1, c2, c3], _ =>
    obtain ⟨D, e0, _, _⟩ := DataW.trod_int Tryz.underlying3 h0; obtain ⟨s, e1, _⟩ := DataW.trod_bool Tryz.underlying4 h1; obtain ⟨M, e2, _, hw⟩ := DataW.trod_int Tryz.underlying30 h2; obtain ⟨E, e3, _, _⟩ := DataW.trod_int Tryz.underlying3 h3
    simp at e0 e1 e2 e3
    obtain ⟨w1, w2⟩ := wf_u64 hw; exact ⟨D, s, M, E, by rw [e0, e1, e2, e3], w1, w2⟩

end
end Go.Proofs.YtpnmphofengoeaaGreatDoor

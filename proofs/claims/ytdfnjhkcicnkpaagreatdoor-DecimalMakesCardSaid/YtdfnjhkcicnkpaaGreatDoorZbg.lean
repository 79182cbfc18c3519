/-
  Contracts and words that the statements' proofs rest on, several texts in one: Opc.
-/
import Derived.Lib.LaidU8
import Derived.Test.YtdfnjhkcicnkpaaGreatDoorZas
import Derived.Test.YtdfnjhkcicnkpaaGreatDoorZat
/-
  What a row's proof is told of numbers times powers of ten that come in, and of the listed powers of ten.
-/
namespace Go.Proofs.YtdfnjhkcicnkpaaGreatDoor
open Go.ChangeShapes Go.WideShapes Go.ChangeAt Go.RowKit Go.Deep
set_option linter.unusedVariables false
set_option maxRecDepth 100000

section
variable {H : Type} {enc : TypeId × Value → H} {W : World}

theorem i64_in {x : Int} (h : (Lit.int .i64 x).wf = true) : -9223372036854775808 ≤ x ∧ x ≤ 9223372036854775807 := by simpa [Lit.wf, IntKind.min, IntKind.max, IntKind.signed, IntKind.bits] using h

theorem cells_dec : Tryz.prog.cellsOf 27 = 3 := by kernel_rfl

theorem dec_of {n : Nat} {cs : List Value} {y : DataW H × List MemPlace} (h : DataW.trod enc Tryz.prog W 0 (fun _ => true) true n 27 cs = some y) :
    ∃ s a len cap zs e, cs = [.bool s, .slice a len cap, .int .i64 e] ∧ RowIn W a len cap zs ∧ (Lit.int .i64 e).wf = true := by
  obtain ⟨y0, y1, m, _, hl, h0, h1⟩ := trod_struct2 Tryz.underlying27 h
  rw [cells_dec] at hl
  simp only [cells_whole, cells_int] at h0 h1
  match cs, hl with
  | [c0, c1, c2], _ =>
    obtain ⟨s, a, len, cap, zs, e, hr⟩ := whole_of h0
    obtain ⟨k, e2, _, hw⟩ := DataW.trod_int Tryz.underlying3 h1
    simp at e e2
    exact ⟨s, a, len, cap, zs, k, by rw [e.1, e.2, e2], hr, hw⟩

theorem open_dec {r : Reach} {b0 : Nat} {v : Value} {d : DataW H} {p : List MemPlace} (hv : Value.okWide Tryz.prog W r b0 27 v) (h : DataW.Trod enc Tryz.prog W 0 (fun _ => true) true 27 v d p) :
    ∃ s a len cap zs e, v = .agg #[.bool s, .slice a len cap, .int .i64 e] ∧ RowIn W a len cap zs ∧ (Lit.int .i64 e).wf = true := by
  obtain ⟨cs, rfl, hsz⟩ := okWide_struct Tryz.underlying27 hv
  obtain ⟨fuel, hf⟩ := h
  obtain ⟨s, a, len, cap, zs, k, e, hr⟩ := dec_of hf
  refine ⟨s, a, len, cap, zs, k, ?_, hr⟩
  simp [Value.cells] at e
  congr 1
  cases cs
  simp at e
  rw [e]

theorem gPow : Tryz.prog.globalNamed "internal/strconv.uint64pow10" = some 3 := by kernel_rfl
theorem tPow : (Tryz.prog.globals[3]?).map (·.type) = some 171 := by kernel_rfl
theorem cells_u64 : Tryz.prog.cellsOf 86 = 1 := by kernel_rfl
theorem cells_pow : Tryz.prog.cellsOf 171 = 20 := by kernel_rfl
theorem pt_of {l : List (String × DataW Unit)} (h : laidMet Tryz.prog l W) (hm : ("internal/strconv.uint64pow10", Lib.tabData .u64 Lib.pow10Tab) ∈ l) : Pt W := by
  obtain ⟨g, t, cs, fuel, p, h1, h2, h3, h4⟩ := Lib.laidMet.reads h hm
  obtain rfl := Option.some.inj (gPow.symm.trans h1)
  obtain rfl := Option.some.inj (tPow.symm.trans h2)
  have hc := Lib.cells_of_tab Tryz.underlying171 Tryz.underlying86 cells_u64 cells_pow h4
  unfold World.var? at h3
  rw [gPow] at h3
  simp only [Option.bind_some] at h3
  cases hb : W.heap[3]? with
  | none => rw [hb] at h3; simp at h3
  | some b =>
    rw [hb] at h3
    cases b with
    | cells c T fz =>
      simp only [Option.some.injEq] at h3
      subst h3
      refine ⟨T, fz, ?_⟩
      rw [hb, ← hc]
    | _ => simp at h3
end
end Go.Proofs.YtdfnjhkcicnkpaaGreatDoor

/-
  Contracts and words that the statement's proof rests on, several texts in one: Tf.
-/
import Derived.Laws.AppendOwn
import Derived.Test.YtpmakljahhhnfaaDoorYBax
/-
  What decimal.powers makes: a slice of powers of ten.
-/
namespace Go.Proofs.YtpmakljahhhnfaaDoor
open Go.RowKit
set_option linter.unusedVariables false
set_option maxRecDepth 100000

/-- 10 to the power 9 * 2^k. -/
def pk (k : Nat) : Nat := 10 ^ (9 * 2 ^ k)
/-- A slice of the first n powers. -/
def Pw (w : World) (A : Option Addr) (n c : Nat) : Prop := n ≤ c ∧ c ≤ 9223372036854775807 ∧ (0 < n → ∃ g cs, A = some ⟨g, 0, none⟩ ∧ w.heap[g]? = some (.cells cs 26 (0, 0)) ∧ ∀ i, i < n → ∃ B m d, cs[i]? = some (.slice B m d) ∧ Nt w B m d (pk i))
section
variable {w w' : World} {A : Option Addr} {n c : Nat}
theorem Pw.keep (h : Pw w A n c) (hk : ∀ (b : Nat) (cs : Array Value), w.heap[b]? = some (Obj.cells cs 26 (0, 0)) → w'.heap[b]? = w.heap[b]?) (hk2 : ∀ (b : Nat) (cs : Array Value), w.heap[b]? = some (Obj.cells cs 53 (0, 0)) → w'.heap[b]? = w.heap[b]?) : Pw w' A n c := by
  obtain ⟨h1, h2, h3⟩ := h
  refine ⟨h1, h2, fun hn => ?_⟩
  obtain ⟨g, cs, rfl, hg, hc⟩ := h3 hn
  refine ⟨g, cs, rfl, (hk g cs hg).trans hg, fun i hi => ?_⟩
  obtain ⟨B, m, d, e, hN⟩ := hc i hi
  exact ⟨B, m, d, e, hN.keep hk2⟩
theorem Pw.below (h : Pw w A n c) (hb : Below w.heap.size w w') : Pw w' A n c :=
  h.keep (fun b cs e => hb.block b (Array.getElem?_eq_some_iff.1 e).1) (fun b cs e => hb.block b (Array.getElem?_eq_some_iff.1 e).1)
end
end Go.Proofs.YtpmakljahhhnfaaDoor

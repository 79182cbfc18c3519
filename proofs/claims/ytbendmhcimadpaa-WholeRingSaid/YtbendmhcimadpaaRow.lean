/-
  What a row's proof knows of a slice of limbs that came in, and that it reads as a number.
-/
import Derived.Test.YtbendmhcimadpaaVals
namespace Go.Proofs.Ytbendmhcimadpaa
open Go.RowKit
set_option linter.unusedVariables false

/-- What the row's proof knows of a slice that came in. -/
def RowIn (w : World) (a : Option Addr) (len cap : Nat) (zs : List Int) : Prop :=
  (a = none ∧ len = 0 ∧ cap = 0 ∧ zs = []) ∨
  ∃ x, a = some x ∧ len ≤ cap ∧ cap ≤ maxLen ∧ zs.length = cap ∧ (∀ i, i < zs.length → w.cell? (x.add i) = some (.int .u32 (zs.getD i 0))) ∧ ∀ n ∈ zs, (Lit.int .u32 n).wf = true

theorem RowIn.len {w : World} {a : Option Addr} {len cap : Nat} {zs : List Int} (h : RowIn w a len cap zs) : len ≤ 9223372036854775807 := by
  rcases h with ⟨_, rfl, _, _⟩ | ⟨x, _, h1, h2, _⟩
  · omega
  · unfold maxLen at h2; omega

theorem wf_u32 {n : Int} (h : (Lit.int .u32 n).wf = true) : 0 ≤ n ∧ n < 4294967296 := by
  simp [Lit.wf, IntKind.min, IntKind.max, IntKind.signed, IntKind.bits] at h
  omega

/-- A slice that came in, not too long, reads as a number. -/
theorem RowIn.rd {w : World} {a : Option Addr} {len cap : Nat} {zs : List Int} (h : RowIn w a len cap zs) (hl : len ≤ 1099511627776) : ∃ v, Rd w a len cap v := by
  rcases h with ⟨rfl, rfl, rfl, rfl⟩ | ⟨x, rfl, h1, h2, h3, h4, h5⟩
  · exact ⟨0, Nm.zero.rd⟩
  · rcases Nat.eq_zero_or_pos len with e | e
    · subst e
      exact ⟨0, 0, [], Sl.none (Nat.zero_le _) rfl, rfl⟩
    · obtain ⟨bk, off, spot⟩ := x
      have hs : spot = none := by
        have := h4 0 (by omega)
        unfold World.cell? at this
        rcases spot with _ | s
        · rfl
        · simp [Addr.add] at this
          split at this <;> simp at this
      subst hs
      refine ⟨_, bk, (zs.take len).map Int.toNat, ⟨by simp; omega, h1, hl, ?_, fun _ => ⟨off, rfl, fun k hk => ?_⟩⟩, rfl⟩
      · intro y hy
        obtain ⟨z, hz, rfl⟩ := List.mem_map.1 hy
        have := wf_u32 (h5 z (List.mem_of_mem_take hz))
        omega
      · have hc := h4 k (by omega)
        rw [Addr.add_mid] at hc
        rw [hc]
        have hz : zs[k]? = some zs[k] := List.getElem?_eq_getElem (by omega)
        have hw := wf_u32 (h5 zs[k] (List.getElem_mem _))
        rw [List.getD_eq_getElem?_getD, List.getD_eq_getElem?_getD, List.getElem?_map, List.getElem?_take, if_pos hk, hz]
        simp
        omega

end Go.Proofs.Ytbendmhcimadpaa

/-
  Contracts and words that the statement's proof rests on: Opn.
-/
import Derived.Lib.SmallJoins
import Derived.Test.YtpnmphofengoeaaDoorYAao
import Derived.Test.YtpnmphofengoeaaDoorYAax
namespace Go.Proofs.YtpnmphofengoeaaDoor
open Go.ChangeShapes Go.WideShapes Go.ChangeAt Go.RowKit Go.Deep
set_option linter.unusedVariables false
set_option maxRecDepth 100000

section
variable {H : Type} {enc : TypeId × Value → H} {W : World}

theorem cells_num : Tryd.prog.cellsOf 38 = 4 := by kernel_rfl
theorem cells_u64 : Tryd.prog.cellsOf 36 = 1 := by kernel_rfl
theorem cells_bool' : Tryd.prog.cellsOf 4 = 1 := by kernel_rfl
theorem wf_u64 {n : Int} (h : (Lit.int .u64 n).wf = true) : 0 ≤ n ∧ n < 18446744073709551616 := by
  simp [Lit.wf, IntKind.min, IntKind.max, IntKind.signed, IntKind.bits] at h
  omega
theorem num_of {n : Nat} {cs : List Value} {y : DataW H × List MemPlace} (h : DataW.trod enc Tryd.prog W 0 (fun _ => true) true n 38 cs = some y) :
    ∃ D s M E, cs = [.int .i64 D, .bool s, .int .u64 M, .int .i64 E] ∧ 0 ≤ M ∧ M < 18446744073709551616 := by
  obtain ⟨y0, y1, y2, y3, m, _, hl, h0, h1, h2, h3⟩ := Go.Joins.trod_struct4 Tryd.underlying38 h; rw [cells_num] at hl; simp only [cells_int, cells_bool', cells_u64] at h0 h1 h2 h3
  match cs, hl with
  | [c0, c1, c2, c3], _ =>
    obtain ⟨D, e0, _, _⟩ := DataW.trod_int Tryd.underlying3 h0; obtain ⟨s, e1, _⟩ := DataW.trod_bool Tryd.underlying4 h1; obtain ⟨M, e2, _, hw⟩ := DataW.trod_int Tryd.underlying36 h2; obtain ⟨E, e3, _, _⟩ := DataW.trod_int Tryd.underlying3 h3
    simp at e0 e1 e2 e3
    obtain ⟨w1, w2⟩ := wf_u64 hw; exact ⟨D, s, M, E, by rw [e0, e1, e2, e3], w1, w2⟩

def RowsN (w : World) (a : Option Addr) (len cap : Nat) : Prop :=
  (a = none ∧ len = 0 ∧ cap = 0) ∨ ∃ x, a = some x ∧ len ≤ cap ∧ cap ≤ maxLen ∧ ∀ i, i < len → ∃ D s M E, w.cell? (x.add (i * 4)) = some (.int .i64 D) ∧ w.cell? (x.add (i * 4 + 1)) = some (.bool s) ∧ w.cell? (x.add (i * 4 + 2)) = some (.int .u64 M) ∧ w.cell? (x.add (i * 4 + 3)) = some (.int .i64 E) ∧ M < 18446744073709551616

theorem open_nums {r : Reach} {b0 : Nat} {v : Value} {d : DataW H} {p : List MemPlace} (hv : Value.okWide Tryd.prog W r b0 23 v) (h : DataW.Trod enc Tryd.prog W 0 (fun _ => true) true 23 v d p) :
    ∃ a len cap, v = .slice a len cap ∧ RowsN W a len cap := by
  obtain ⟨a, len, cap, rfl⟩ := okWide_slice Tryd.underlying23 hv; refine ⟨a, len, cap, rfl, ?_⟩; obtain ⟨fuel, hf⟩ := h
  rcases open_slice Tryd.underlying23 hf with ⟨hcs, _⟩ | ⟨x, l, c, m, n, D, Pl, hcs, _, hl, hm, hmm, _, hi⟩
  · simp [Value.cells] at hcs
    obtain ⟨rfl, rfl, rfl⟩ := hcs; exact .inl ⟨rfl, rfl, rfl⟩
  · simp [Value.cells] at hcs
    obtain ⟨rfl, rfl, rfl⟩ := hcs
    simp at hmm
    subst hmm
    refine .inr ⟨x, rfl, hl, hm, fun i hil => ?_⟩
    obtain ⟨cs', hc, ht⟩ := hi i (by omega); rw [cells_num] at hc; obtain ⟨_, hcl, hat⟩ := World.cells?_some hc; obtain ⟨D, s, M, E, rfl, hr⟩ := num_of ht; have h0 := hat 0 (by omega); have h1 := hat 1 (by omega); have h2 := hat 2 (by omega); have h3 := hat 3 (by omega); rw [Go.Deep.add_add] at h0 h1 h2 h3; exact ⟨D, s, M, E, by simpa using h0, by simpa using h1, by simpa using h2, by simpa using h3, hr.2⟩
theorem RowsN.len {w : World} {a : Option Addr} {len cap : Nat} (h : RowsN w a len cap) : len ≤ 9223372036854775807 := by
  rcases h with ⟨_, rfl, _⟩ | ⟨x, _, h1, h2, _⟩
  · omega
  · unfold maxLen at h2; omega
theorem RowsN.nl {w : World} {a : Option Addr} {len cap : Nat} (h : RowsN w a len cap) (hl : len ≤ 1099511627776) : ∃ l, Nl w a len cap l := by
  rcases h with ⟨rfl, rfl, rfl⟩ | ⟨x, rfl, h1, h2, h3⟩
  · exact ⟨[], rfl, Nat.le_refl _, by decide, fun h => absurd h (by decide)⟩
  · by_cases hn : 0 < len
    · obtain ⟨bk, off, spot⟩ := x
      have hs : spot = none := by
        obtain ⟨D, s, M, E, e0, _⟩ := h3 0 hn
        unfold World.cell? at e0
        rcases spot with _ | s
        · rfl
        · simp [Addr.add] at e0
          split at e0 <;> simp at e0
      subst hs
      have hf : ∀ k : Fin len, ∃ r : Int, ∃ D s M E, w.cell? ⟨bk, off + k.val * 4, none⟩ = some (.int .i64 D) ∧ w.cell? ⟨bk, off + k.val * 4 + 1, none⟩ = some (.bool s) ∧ w.cell? ⟨bk, off + k.val * 4 + 2, none⟩ = some (.int .u64 M) ∧ w.cell? ⟨bk, off + k.val * 4 + 3, none⟩ = some (.int .i64 E) ∧ M < 18446744073709551616 ∧ rk D s M E = r := by
        intro k
        obtain ⟨D, s, M, E, e0, e1, e2, e3, hM⟩ := h3 k.val k.isLt; rw [Addr.add_mid] at e0 e1 e2 e3; exact ⟨_, D, s, M, E, e0, by rw [Nat.add_assoc]; exact e1, by rw [Nat.add_assoc]; exact e2, by rw [Nat.add_assoc]; exact e3, hM, rfl⟩
      refine ⟨List.ofFn fun k => Classical.choose (hf k), by simp, h1, hl, fun _ => ⟨bk, off, rfl, fun k hk => ?_⟩⟩
      obtain ⟨D, s, M, E, e0, e1, e2, e3, hM, hr⟩ := Classical.choose_spec (hf ⟨k, hk⟩); refine ⟨D, s, M, E, e0, e1, e2, e3, hM, ?_⟩; rw [hr]
      simp [List.getD_eq_getElem?_getD, hk]
    · obtain rfl : len = 0 := by omega
      exact ⟨[], rfl, h1, hl, fun h => absurd h (by decide)⟩
end
end Go.Proofs.YtpnmphofengoeaaDoor

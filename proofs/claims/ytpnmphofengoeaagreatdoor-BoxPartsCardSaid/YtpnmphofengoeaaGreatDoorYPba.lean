/-
  Contracts and words that the statement's proof rests on: Opi.
-/
import Derived.Deep.Strs
import Derived.Test.YtpnmphofengoeaaGreatDoorYPat
import Derived.Test.YtpnmphofengoeaaGreatDoorYPaz
namespace Go.Proofs.YtpnmphofengoeaaGreatDoor
open Go.ChangeShapes Go.WideShapes Go.ChangeAt Go.RowKit Go.Deep
set_option linter.unusedVariables false
set_option maxRecDepth 100000

section
variable {H : Type} {enc : TypeId × Value → H} {W : World}

theorem cells_iv : Tryz.prog.cellsOf 34 = 9 := by kernel_rfl
theorem iv_of {n : Nat} {cs : List Value} {y : DataW H × List MemPlace} (h : DataW.trod enc Tryz.prog W 0 (fun _ => true) true n 34 cs = some y) :
    ∃ e D s M E G g P Q, cs = [.bool e, .int .i64 D, .bool s, .int .u64 M, .int .i64 E, .int .i64 G, .bool g, .int .u64 P, .int .i64 Q] ∧ M < 18446744073709551616 ∧ P < 18446744073709551616 := by
  obtain ⟨y0, y1, y2, m, _, hl, h0, h1, h2⟩ := trod_struct3 Tryz.underlying34 h; rw [cells_iv] at hl; simp only [cells_bool', cells_num] at h0 h1 h2
  match cs, hl with
  | [c0, c1, c2, c3, c4, c5, c6, c7, c8], _ =>
    obtain ⟨e, e0, _⟩ := DataW.trod_bool Tryz.underlying4 h0; obtain ⟨D, s, M, E, e1, _, w1⟩ := num_of h1; obtain ⟨G, g, P, Q, e2, _, w2⟩ := num_of h2
    simp at e0 e1 e2
    obtain ⟨f1, f2, f3, f4⟩ := e1; obtain ⟨g1, g2, g3, g4⟩ := e2; exact ⟨e, D, s, M, E, G, g, P, Q, by rw [e0, f1, f2, f3, f4, g1, g2, g3, g4], w1, w2⟩
def RowsI (w : World) (a : Option Addr) (len cap : Nat) : Prop :=
  (a = none ∧ len = 0 ∧ cap = 0) ∨ ∃ x, a = some x ∧ len ≤ cap ∧ cap ≤ maxLen ∧ ∀ i, i < len → ∃ e D s M E G g P Q, w.cell? (x.add (i * 9)) = some (.bool e) ∧ w.cell? (x.add (i * 9 + 1)) = some (.int .i64 D) ∧ w.cell? (x.add (i * 9 + 2)) = some (.bool s) ∧ w.cell? (x.add (i * 9 + 3)) = some (.int .u64 M) ∧ w.cell? (x.add (i * 9 + 4)) = some (.int .i64 E) ∧ w.cell? (x.add (i * 9 + 5)) = some (.int .i64 G) ∧ w.cell? (x.add (i * 9 + 6)) = some (.bool g) ∧ w.cell? (x.add (i * 9 + 7)) = some (.int .u64 P) ∧ w.cell? (x.add (i * 9 + 8)) = some (.int .i64 Q) ∧ M < 18446744073709551616 ∧ P < 18446744073709551616
theorem open_ivs {r : Reach} {b0 : Nat} {v : Value} {d : DataW H} {p : List MemPlace} (hv : Value.okWide Tryz.prog W r b0 22 v) (h : DataW.Trod enc Tryz.prog W 0 (fun _ => true) true 22 v d p) :
    ∃ a len cap, v = .slice a len cap ∧ RowsI W a len cap := by
  obtain ⟨a, len, cap, rfl⟩ := okWide_slice Tryz.underlying22 hv; refine ⟨a, len, cap, rfl, ?_⟩; obtain ⟨fuel, hf⟩ := h
  rcases open_slice Tryz.underlying22 hf with ⟨hcs, _⟩ | ⟨x, l, c, m, n, D, Pl, hcs, _, hl, hm, hmm, _, hi⟩
  · simp [Value.cells] at hcs
    obtain ⟨rfl, rfl, rfl⟩ := hcs; exact .inl ⟨rfl, rfl, rfl⟩
  · simp [Value.cells] at hcs
    obtain ⟨rfl, rfl, rfl⟩ := hcs
    simp at hmm
    subst hmm
    refine .inr ⟨x, rfl, hl, hm, fun i hil => ?_⟩
    obtain ⟨cs', hc, ht⟩ := hi i (by omega); rw [cells_iv] at hc; obtain ⟨_, hcl, hat⟩ := World.cells?_some hc; obtain ⟨e, D, s, M, E, G, g, P, Q, rfl, hr⟩ := iv_of ht; have h0 := hat 0 (by omega); have h1 := hat 1 (by omega); have h2 := hat 2 (by omega); have h3 := hat 3 (by omega); have h4 := hat 4 (by omega); have h5 := hat 5 (by omega); have h6 := hat 6 (by omega); have h7 := hat 7 (by omega); have h8 := hat 8 (by omega)
    rw [Go.Deep.add_add] at h0 h1 h2 h3 h4 h5 h6 h7 h8; exact ⟨e, D, s, M, E, G, g, P, Q, by simpa using h0, by simpa using h1, by simpa using h2, by simpa using h3, by simpa using h4, by simpa using h5, by simpa using h6, by simpa using h7, by simpa using h8, hr⟩
theorem RowsI.il {w : World} {a : Option Addr} {len cap : Nat} (h : RowsI w a len cap) (hl : len ≤ 1099511627776) : ∃ l, Il8 w a len cap l := by
  rcases h with ⟨rfl, rfl, rfl⟩ | ⟨x, rfl, h1, h2, h3⟩
  · exact ⟨[], rfl, Nat.le_refl _, by decide, fun h => absurd h (by decide)⟩
  · by_cases hn : 0 < len
    · obtain ⟨bk, off, spot⟩ := x
      have hs : spot = none := by
        obtain ⟨e, D, s, M, E, G, g, P, Q, e0, _⟩ := h3 0 hn
        unfold World.cell? at e0
        rcases spot with _ | s
        · rfl
        · simp [Addr.add] at e0
          split at e0 <;> simp at e0
      subst hs
      have hf : ∀ k : Fin len, ∃ r : Sp, ∃ e K s M E K' s' M' E', w.cell? ⟨bk, off + k.val * 9, none⟩ = some (.bool e) ∧ w.cell? ⟨bk, off + k.val * 9 + 1, none⟩ = some (.int .i64 K) ∧ w.cell? ⟨bk, off + k.val * 9 + 2, none⟩ = some (.bool s) ∧ w.cell? ⟨bk, off + k.val * 9 + 3, none⟩ = some (.int .u64 M) ∧ w.cell? ⟨bk, off + k.val * 9 + 4, none⟩ = some (.int .i64 E) ∧ w.cell? ⟨bk, off + k.val * 9 + 5, none⟩ = some (.int .i64 K') ∧ w.cell? ⟨bk, off + k.val * 9 + 6, none⟩ = some (.bool s') ∧ w.cell? ⟨bk, off + k.val * 9 + 7, none⟩ = some (.int .u64 M') ∧ w.cell? ⟨bk, off + k.val * 9 + 8, none⟩ = some (.int .i64 E') ∧ M < 18446744073709551616 ∧ M' < 18446744073709551616 ∧ rkI e K s M E K' s' M' E' = r := by
        intro k
        obtain ⟨e, D, s, M, E, G, g, P, Q, e0, e1, e2, e3, e4, e5, e6, e7, e8, hM, hP⟩ := h3 k.val k.isLt; rw [Addr.add_mid] at e0 e1 e2 e3 e4 e5 e6 e7 e8; exact ⟨_, e, D, s, M, E, G, g, P, Q, e0, by rw [Nat.add_assoc]; exact e1, by rw [Nat.add_assoc]; exact e2, by rw [Nat.add_assoc]; exact e3, by rw [Nat.add_assoc]; exact e4, by rw [Nat.add_assoc]; exact e5, by rw [Nat.add_assoc]; exact e6, by rw [Nat.add_assoc]; exact e7, by rw [Nat.add_assoc]; exact e8, hM, hP, rfl⟩
      refine ⟨List.ofFn fun k => Classical.choose (hf k), by simp, h1, hl, fun _ => ⟨bk, off, rfl, fun k hk => ?_⟩⟩
      obtain ⟨e, K, s, M, E, K', s', M', E', e0, e1, e2, e3, e4, e5, e6, e7, e8, hM, hM', hr⟩ := Classical.choose_spec (hf ⟨k, hk⟩); refine ⟨e, K, s, M, E, K', s', M', E', e0, e1, e2, e3, e4, e5, e6, e7, e8, hM, hM', ?_⟩; rw [hr]
      simp [List.getD_eq_getElem?_getD, hk]
    · obtain rfl : len = 0 := by omega
      exact ⟨[], rfl, h1, hl, fun h => absurd h (by decide)⟩
end
end Go.Proofs.YtpnmphofengoeaaGreatDoor

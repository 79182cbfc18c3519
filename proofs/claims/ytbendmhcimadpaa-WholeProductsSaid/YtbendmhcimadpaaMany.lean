/-
  A slice of whole numbers that came in: its numbers, where none has too many limbs.
-/
import Derived.Test.YtbendmhcimadpaaOpen
import Derived.Test.YtbendmhcimadpaaWg
namespace Go.Proofs.Ytbendmhcimadpaa
open Go.RowKit
set_option linter.unusedVariables false

/-- A slice of n whole numbers; one of at most 10 limbs reads as a number. -/
def Wq (w : World) (A : Option Addr) (n c : Nat) : Prop :=
  n ≤ c ∧ n ≤ 1099511627776 ∧ (0 < n → ∃ b o, A = some ⟨b, o, none⟩ ∧ ∀ k, k < n → ∃ s B m d, w.cell? ⟨b, o + k * 2, none⟩ = some (.bool s) ∧ w.cell? ⟨b, o + k * 2 + 1, none⟩ = some (.slice B m d) ∧ m ≤ 9223372036854775807 ∧ (m ≤ 10 → ∃ v, Rd w B m d v))
theorem Wq.below {w w' : World} {A : Option Addr} {n c : Nat} (h : Wq w A n c) (hb : Below w.heap.size w w') : Wq w' A n c := by
  obtain ⟨h2, h3, h4⟩ := h
  refine ⟨h2, h3, fun hn => ?_⟩
  obtain ⟨b, o, e, hc⟩ := h4 hn
  refine ⟨b, o, e, fun k hk => ?_⟩
  obtain ⟨s, B, m, d, c0, c1, hm, hw⟩ := hc k hk
  refine ⟨s, B, m, d, (hb.cell (p := ⟨b, _, none⟩) (block_lt_of_cell c0)).trans c0, (hb.cell (p := ⟨b, _, none⟩) (block_lt_of_cell c1)).trans c1, hm, fun h10 => ?_⟩
  obtain ⟨v, hv⟩ := hw h10
  exact ⟨v, hv.below hb⟩
theorem RowsW.len {w : World} {a : Option Addr} {len cap : Nat} (h : RowsW w a len cap) : len ≤ 9223372036854775807 := by
  rcases h with ⟨_, rfl, _⟩ | ⟨x, _, h1, h2, _⟩
  · omega
  · unfold maxLen at h2; omega
theorem RowsW.wq {w : World} {a : Option Addr} {len cap : Nat} (h : RowsW w a len cap) (hl : len ≤ 1099511627776) : Wq w a len cap := by
  rcases h with ⟨rfl, rfl, rfl⟩ | ⟨x, rfl, h1, h2, h3⟩
  · exact ⟨Nat.le_refl _, by decide, fun h => absurd h (by decide)⟩
  · refine ⟨h1, hl, fun hn => ?_⟩
    obtain ⟨bk, off, spot⟩ := x
    have hs : spot = none := by
      obtain ⟨s, b, n, c, zs, e, _⟩ := h3 0 hn
      unfold World.cell? at e
      rcases spot with _ | s
      · rfl
      · simp [Addr.add] at e
        split at e <;> simp at e
    subst hs
    refine ⟨bk, off, rfl, fun k hk => ?_⟩
    obtain ⟨s, b, n, c, zs, e0, e1, hr⟩ := h3 k hk
    rw [Addr.add_mid] at e0 e1
    exact ⟨s, b, n, c, e0, by rw [Nat.add_assoc]; exact e1, hr.len, fun h10 => hr.rd (by omega)⟩

/-- Of the first k none has more than 10 limbs. -/
def Upto (w : World) (b o k : Nat) : Prop := ∀ j, j < k → ∀ B m d, w.cell? ⟨b, o + j * 2 + 1, none⟩ = some (.slice B m d) → m ≤ 10
theorem Upto.zero (w : World) (b o : Nat) : Upto w b o 0 := fun j hj => absurd hj (Nat.not_lt_zero _)
theorem Upto.succ {w : World} {b o k : Nat} (h : Upto w b o k) {B : Option Addr} {m d : Nat} (hc : w.cell? ⟨b, o + k * 2 + 1, none⟩ = some (.slice B m d)) (hm : m ≤ 10) : Upto w b o (k + 1) := by
  intro j hj B' m' d' hc'
  rcases Nat.lt_or_ge j k with q | q
  · exact h j q B' m' d' hc'
  · obtain rfl : j = k := by omega
    rw [hc] at hc'
    cases hc'
    exact hm
theorem Wq.wl {w : World} {A : Option Addr} {n c b o : Nat} (h : Wq w A n c) (e : 0 < n → A = some ⟨b, o, none⟩) (hu : 0 < n → Upto w b o n) : ∃ zs, Wl w A n c 10 zs := by
  obtain ⟨h2, h3, h4⟩ := h
  rcases Nat.eq_zero_or_pos n with rfl | hn
  · exact ⟨[], rfl, h2, h3, fun h => absurd h (by decide)⟩
  · obtain ⟨b', o', e', hc⟩ := h4 hn
    have e2 := e hn
    rw [e'] at e2
    cases e2
    have hu := hu hn
    have hex : ∀ k, ∃ z : Int, k < n → ∃ s B m d, w.cell? ⟨b, o + k * 2, none⟩ = some (.bool s) ∧ w.cell? ⟨b, o + k * 2 + 1, none⟩ = some (.slice B m d) ∧ Wr w s B m d z ∧ m ≤ 10 := by
      intro k
      by_cases hk : k < n
      · obtain ⟨s, B, m, d, c0, c1, _, hv⟩ := hc k hk
        have hm := hu k hk B m d c1
        obtain ⟨v, hv⟩ := hv hm
        exact ⟨sg s v, fun _ => ⟨s, B, m, d, c0, c1, hv.wr s, hm⟩⟩
      · exact ⟨0, fun h => absurd h hk⟩
    obtain ⟨f, hf⟩ := Classical.axiomOfChoice hex
    refine ⟨(List.range n).map f, by simp, h2, h3, fun _ => ⟨b, o, e', fun k hk => ?_⟩⟩
    obtain ⟨s, B, m, d, c0, c1, hw, hm⟩ := hf k hk
    refine ⟨s, B, m, d, c0, c1, ?_, hm⟩
    rw [List.getD_eq_getElem?_getD]
    simpa [hk] using hw
end Go.Proofs.Ytbendmhcimadpaa

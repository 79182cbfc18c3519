/-
  Contracts and words that the statement's proof rests on: BoxSetsW, BoxOrderW.
-/
import Derived.Test.YtpnmphofengoeaaDoorYHax
import Derived.Test.YtpnmphofengoeaaDoorYHba
namespace Go.Proofs.YtpnmphofengoeaaDoor
open Go.RowKit
set_option linter.unusedVariables false
set_option linter.unusedSimpArgs false
set_option maxRecDepth 100000

theorem iq_ok {w : World} {A : Option Addr} {n c : Nat} {r : List V9} (h : Iq w A n c r) : ∀ y ∈ r.map rkV, SpOk y := by
  intro x hx
  obtain ⟨v, hv, rfl⟩ := List.mem_map.1 hx; exact topV_ok (h.2.2.2.1 v hv)
theorem big_no {n : Nat} (h : n ≤ 20) : decide ((20 : Int) < (n : Int)) = false := decide_eq_false (by omega)
theorem big_yes {n : Nat} (h : ¬ n ≤ 20) : decide ((20 : Int) < (n : Int)) = true := decide_eq_true (by omega)
end Go.Proofs.YtpnmphofengoeaaDoor

namespace Go.Proofs.YtpnmphofengoeaaDoor
open Go.RowKit
set_option linter.unusedVariables false
set_option linter.unusedSimpArgs false
set_option maxRecDepth 100000

def PLn2 (w : World) (n : Nat) (l1 l2 : List Sp) (e : Ending) (w' : World) : Prop := ∃ A1 c1 A2 c2, e = .returned (.tuple #[.slice A1 n c1, .slice A2 n c2]) ∧ Ia w' w.heap.size A1 n c1 l1 ∧ Ia w' w.heap.size A2 n c2 l2 ∧ Below w.heap.size w w'
theorem kxSplit_n {w : World} {A : Option Addr} {n c k : Nat} {r : List V9} {i : Nat} {l1 l2 : List Sp} (hT : Tb w) (h : Iq w A n c r) (hn : n ≤ 1000000) (hi : i < n) (h1 : bxLo (r.map rkV) i = l1) (h2 : bxHi (r.map rkV) i = l2) (e1 : l1.length = k) (e2 : l2.length = k) : Calls Tryd.prog 21 #[.slice A n c, .int .i64 ((i : Nat) : Int)] w (PLn2 w k l1 l2) := by
  refine (kxSplit hT h hn hi h1 h2).mono ?_; rintro ee w' ⟨A1, c1, A2, c2, rfl, i1, i2, B⟩; rw [e1] at i1; rw [e2] at i2; exact ⟨A1, c1, A2, c2, by rw [e1, e2], i1, i2, B⟩
end Go.Proofs.YtpnmphofengoeaaDoor

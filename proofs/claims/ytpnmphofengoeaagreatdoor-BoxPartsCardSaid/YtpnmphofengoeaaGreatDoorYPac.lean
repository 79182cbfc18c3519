/-
  Contracts and words that the statement's proof rests on: Mem.
-/
import Derived.Below
import Derived.Carry
import Derived.Deep.Draws
import Derived.Deep.MidRow
import Derived.Laws.CopyOwn
import Derived.Laws.MakeOwn
import Derived.Laws.OwnMore
import Derived.Laws.Rows
import Derived.Lib.Hide
import Derived.Test.YtpnmphofengoeaaGreatDoorYPaa
namespace Go.Proofs.YtpnmphofengoeaaGreatDoor
open Go.RowKit
set_option linter.unusedVariables false

def u32 (x : Nat) : Value := .int .u32 (x : Int)

def arr (l : List Nat) : Array Value := (l.map u32).toArray

def Sl (w : World) (b : Nat) (A : Option Addr) (n c : Nat) (xs : List Nat) : Prop :=
  xs.length = n ∧ n ≤ c ∧ n ≤ 1099511627776 ∧ Lim xs ∧ (0 < n → ∃ o, A = some ⟨b, o, none⟩ ∧ ∀ k, k < n → w.cell? ⟨b, o + k, none⟩ = some (.int .u32 (xs.getD k 0 : Nat)))

def Own (w : World) (g : Nat) (l : List Nat) : Prop := w.heap[g]? = some (.cells (arr l) 74 (0, 0))

section
variable {w w' : World} {b g n c : Nat} {A : Option Addr} {xs l : List Nat}

theorem Sl.len (h : Sl w b A n c xs) : xs.length = n := h.1
theorem Sl.cap (h : Sl w b A n c xs) : n ≤ c := h.2.1
theorem Sl.big (h : Sl w b A n c xs) : n ≤ 1099511627776 := h.2.2.1
theorem Sl.lim (h : Sl w b A n c xs) : Lim xs := h.2.2.2.1
theorem Sl.at (h : Sl w b A n c xs) (hn : 0 < n) : ∃ o, A = some ⟨b, o, none⟩ ∧ ∀ k, k < n → w.cell? ⟨b, o + k, none⟩ = some (.int .u32 (xs.getD k 0 : Nat)) := h.2.2.2.2 hn
theorem Sl.lt (h : Sl w b A n c xs) (hn : 0 < n) : b < w.heap.size := by
  obtain ⟨o, _, hc⟩ := h.at hn; exact block_lt_of_cell (hc 0 hn)
theorem Sl.keep (h : Sl w b A n c xs) (hk : 0 < n → w'.heap[b]? = w.heap[b]?) : Sl w' b A n c xs :=
  ⟨h.1, h.2.1, h.2.2.1, h.2.2.2.1, fun hn => by
    obtain ⟨o, e, hc⟩ := h.at hn
    exact ⟨o, e, fun k hk' => (World.cell?_of_block (w := w) (hk hn)).trans (hc k hk')⟩⟩
theorem Sl.below (h : Sl w b A n c xs) (hb : Below w.heap.size w w') : Sl w' b A n c xs := h.keep fun hn => hb.block b (h.lt hn)
theorem Sl.nil : Sl w b none 0 0 [] := ⟨rfl, Nat.le_refl _, by decide, Lim.nil, fun h => absurd h (by decide)⟩
theorem Sl.take (h : Sl w b A n c xs) {k : Nat} (hk : k ≤ n) : Sl w b A k c (xs.take k) :=
  ⟨by rw [List.length_take, h.len, Nat.min_eq_left hk], Nat.le_trans hk h.cap, Nat.le_trans hk h.big, h.lim.take k, fun hn => by
    obtain ⟨o, e, hc⟩ := h.at (by omega)
    refine ⟨o, e, fun j hj => ?_⟩
    rw [hc j (by omega), getD_take hj]⟩

theorem Own.lt (h : Own w g l) : g < w.heap.size := by
  rcases Nat.lt_or_ge g w.heap.size with hlt | hge
  · exact hlt
  · unfold Own at h; rw [Array.getElem?_eq_none hge] at h; cases h
theorem Own.keep (h : Own w g l) (hk : w'.heap[g]? = w.heap[g]?) : Own w' g l := hk.trans h
theorem Own.cell (h : Own w g l) {i : Nat} (hi : i < l.length) : w.cell? ⟨g, i, none⟩ = some (.int .u32 (l.getD i 0 : Nat)) := by
  rw [cell_of_row w g i _ _ (0, 0) h]
  simp [arr, u32, hi]
theorem Own.alloc (h : Own w g l) (o : Obj) : Own (w.alloc o) g l := (Below.heap_alloc w o g h.lt).trans h
theorem Own.new (w : World) (l : List Nat) : Own (w.alloc (.cells (arr l) 74)) w.heap.size l := heap_alloc_new w _
theorem Own.sl (h : Own w g l) (hl : Lim l) {o n c : Nat} (hn : o + n ≤ l.length) (hc : n ≤ c) (hb : l.length ≤ 1099511627776) : Sl w g (some ⟨g, o, none⟩) n c ((l.drop o).take n) :=
  ⟨by simp; omega, hc, by omega, (hl.drop o).take n, fun _ => ⟨o, rfl, fun k hk => by rw [h.cell (by omega), getD_take hk, getD_drop]⟩⟩
theorem Own.all (h : Own w g l) (hl : Lim l) (hb : l.length ≤ 1099511627776) {c : Nat} (hc : l.length ≤ c) : Sl w g (some ⟨g, 0, none⟩) l.length c l := by
  have := h.sl hl (o := 0) (n := l.length) (c := c) (by omega) hc hb
  simpa using this

theorem made_eq (n : Nat) : madeCells (Value.int .u32 0).cells n = arr (List.replicate n 0) := by
  apply Array.ext
  · simp [madeCells, arr]
  · intro i h1 h2
    simp [madeCells, arr, u32, Value.cells, Nat.mod_one]

theorem below_drewN {B : Nat} {a w : World} (h : Below B a w) (n : Nat) : Below B a (w.drewN n) := ⟨h.os, h.tape, h.output, h.size, h.block⟩
theorem grown_trans {a b c : World} {row : Option Nat} (h : a.grownBy b row) (k : b.grownBy c row) : a.grownBy c row :=
  ⟨k.os.trans h.os, k.tape.trans h.tape, k.output.trans h.output, Nat.le_trans h.size k.size, fun i hi hn => (k.block i (Nat.lt_of_lt_of_le hi h.size) hn).trans (h.block i hi hn)⟩
end
end Go.Proofs.YtpnmphofengoeaaGreatDoor

/-
  Contracts and words that the statements' proofs rest on, several texts in one: Tm.
-/
import Derived.Lib.OthersKept
import Derived.Test.YtdfnjhkcicnkpaaGreatDoorZau
import Derived.Test.YtdfnjhkcicnkpaaGreatDoorZav
/-
  What decimal.limbs answers: the number of digits.
-/
namespace Go.Proofs.YtdfnjhkcicnkpaaGreatDoor
open Go.RowKit
set_option linter.unusedVariables false
set_option linter.unusedSimpArgs false
set_option maxRecDepth 100000

theorem lit_rd (w : World) {g x : Nat} {z : Int} (hg : w.heap.size = g) (hz : z = x) (h : x < 4294967296) : Rd (w.alloc (.cells #[.int .u32 z] 70)) (some ⟨g, 0, none⟩) 1 1 x := by
  subst hz; subst hg
  have hh := heap_alloc_new w (.cells #[.int .u32 (x : Int)] 70)
  refine ⟨w.heap.size, [x], ⟨rfl, Nat.le_refl _, by decide, fun y hy => ?_, fun _ => ⟨0, rfl, fun k hk => ?_⟩⟩, by simp [val]⟩
  · simp at hy; subst hy; exact h
  · obtain rfl : k = 0 := by omega
    rw [cell_of_row _ _ _ _ _ _ hh]
    rfl
theorem vAddN {w : World} {A1 A2 : Option Addr} {n m c1 c2 a b : Nat} (h1 : Rd w A1 n c1 a) (h2 : Rd w A2 m c2 b) (hn : n ≤ 1073741824) (hm : m ≤ 1073741824) : Calls Tryz.prog 66 #[.slice A1 n c1, .slice A2 m c2] w (P1N w (n + m + 1) (a + b)) := by
  have hl := limbs_add_len h1.bound h2.bound
  obtain ⟨b1, xs, h1, rfl⟩ := h1
  obtain ⟨b2, ys, h2, rfl⟩ := h2
  refine (add_any w b1 b2 A1 A2 n m c1 c2 xs ys h1 h2 (by omega) (by omega)).mono ?_
  rintro e w' ⟨g, A, c, rfl, hm, hb⟩
  exact ⟨A, _, c, rfl, hm.nt, hl, hb⟩
theorem next_at (wr : World) (g : Nat) (l : List UInt8) (k : Nat) (hit : wr.heap[g]? = some (.stringIter (st l) k)) (h : k < l.length) (hd : isDig l[k] = true) (ty : TypeId) :
    (Instr.next (.pointer (some ⟨g, 0, none⟩)) true ty).run Tryz.prog wr = .ok (.tuple #[.bool true, .int .i64 k, .int .i32 ((l[k]).toNat : Nat)]) (wr.iterAt g (st l) (k + 1)) := by
  have hs : k < (st l).size := by rw [st_size]; exact h
  have e := st_get l k hs h
  have hc := isDig_of hd
  have := Lib.run_next_ascii_at (P := Tryz.prog) wr g (st l) k ty hit hs (by rw [e]; omega)
  rw [e] at this
  exact this
theorem next_at_end (wr : World) (g : Nat) (l : List UInt8) (k : Nat) (hit : wr.heap[g]? = some (.stringIter (st l) k)) (h : ¬ k < l.length) (ty : TypeId) :
    (Instr.next (.pointer (some ⟨g, 0, none⟩)) true ty).run Tryz.prog wr = .ok (.tuple #[.bool false]) wr :=
  Lib.run_next_end_at (P := Tryz.prog) wr g (st l) k ty hit (by rw [st_size]; exact h)
theorem Nt.iter {w : World} {A : Option Addr} {n c v g : Nat} {s : ByteArray} {k : Nat} (h : Nt w A n c v) (hit : w.heap[g]? = some (.stringIter s k)) (p : Nat) : Nt (w.iterAt g s p) A n c v := h.keep fun b cs e => by
  refine Lib.iterAt_other w g b s p (fun hb => ?_)
  subst hb
  rw [hit] at e
  cases e
theorem Nt.zero {w : World} : Nt w none 0 0 0 := ⟨0, by rw [limbs_zero]; exact Sl.nil, fun h => absurd h (by decide)⟩
def LimbsInv (w : World) (l : List UInt8) (k : Nat) (u : Value) (wr : World) : Prop :=
  ∃ A n c, u = .slice A n c ∧ Nt wr A n c (dval (l.take k)) ∧ wr.heap[w.heap.size]? = some (.stringIter (st l) k) ∧ Below w.heap.size w wr

set_option maxHeartbeats 4000000 in
theorem dLimbs (l : List UInt8) (w : World) (hl : l.length ≤ 100) (hd : ∀ c ∈ l, isDig c = true) : Calls Tryz.prog 27 #[.string (st l)] w (P1N w 100 (dval l)) := by
  have hdk : ∀ k (h : k < l.length), isDig l[k] = true := fun k h => hd _ (List.getElem_mem h)
  have hlt : ∀ k, dval (l.take k) < 4294967296 ^ (l.take k).length := fun k => by
    have h1 := dval_lt (l.take k) (fun c hc => hd c (List.mem_of_mem_take hc))
    have h2 : 10 ^ (l.take k).length ≤ 4294967296 ^ (l.take k).length := Nat.pow_le_pow_left (by decide) _
    omega
  have HK := Lib.hid hdk
  have HLT := Lib.hid hlt
  clear hd hdk hlt
  go_enter Tryz.func27, Tryz.ntmps27
  go_wp2
  go_loopw [3] (fun u wr => ∃ k : Nat, k ≤ l.length ∧ LimbsInv w l k u wr) (fun _ wr => l.length - wr.iterPos w.heap.size)
  case atStart =>
    refine ⟨0, Nat.zero_le _, none, 0, 0, rfl, ?_, World.iter_heap w (st l) 0, bel1 _ _⟩
    rw [List.take_zero, dval_nil]
    exact Nt.zero
  case round =>
    obtain ⟨k, hk, A, n, c, rfl, hN, hit, hB⟩ := hrel
    have hpos : wr.iterPos w.heap.size = k := by simp [World.iterPos, hit]
    have hn : n ≤ 100 := by
      have h1 := hN.nm.few (HLT.out k)
      have h2 : (l.take k).length ≤ l.length := by simp; omega
      omega
    by_cases hlt : k < l.length
    · have hd := HK.out k hlt
      have hc := isDig_of hd
      have hnx := next_at wr w.heap.size l k hit hlt hd
      have hT := dval_take l k hlt
      have hN1 := hN.iter hit (k + 1)
      have hit1 := Lib.iterAt_heap wr w.heap.size (st l) k (k + 1) hit
      have hB1 := Lib.below_iterAt hB (k := w.heap.size) (Nat.le_refl _) (st l) (k + 1)
      clear hd hN hit hB
      obtain ⟨x, hx⟩ : ∃ x, (l[k]'hlt).toNat = x := ⟨_, rfl⟩
      rw [hx] at hnx hc hT
      clear hx
      obtain ⟨W, hW⟩ : ∃ W, wr.iterAt w.heap.size (st l) (k + 1) = W := ⟨_, rfl⟩
      rw [hW] at hN1 hit1 hB1
      simp only [hW] at hnx
      clear hW
      go_wp2_with fail
      refine (vTen _).mono ?_
      rintro e w1 ⟨A1, n1, c1, rfl, h1, k1, B1⟩
      go_wp2_with fail
      refine (vMulN (hN1.nm.rd.below B1) h1.nm.rd (by omega) (by omega)).mono ?_
      rintro e w2 ⟨A2, n2, c2, rfl, h2, k2, B2⟩
      go_wp2_with fail
      refine (vAddN (h2.nm.rd.below (bel1 _ _)) (lit_rd w2 (x := x - 48) rfl (by omega) (by omega)) (by omega) (by omega)).mono ?_
      rintro e w3 ⟨A3, n3, c3, rfl, h3, k3, B3⟩
      have BB := bt B1 (bt B2 (bt (bel1 _ _) B3))
      have hit3 := (BB.block _ (Array.getElem?_eq_some_iff.1 hit1).1).trans hit1
      have hI : LimbsInv w l (k + 1) (.slice A3 n3 c3) w3 := by
        refine ⟨A3, n3, c3, rfl, ?_, hit3, bt hB1 BB⟩
        rw [hT, Nat.mul_comm]
        exact h3
      have HI := Lib.hid hI
      have hpos3 : w3.iterPos w.heap.size = k + 1 := by simp [World.iterPos, hit3]
      clear hI hit3 BB B1 B2 B3 h3 h2 h1 hN1 hT
      go_wp2
      go_roundw
      case rel => exact ⟨k + 1, by omega, HI.out⟩
      case measure => rw [hpos3, hpos]; omega
    · have hnx := next_at_end wr w.heap.size l k hit hlt
      obtain rfl : k = l.length := by omega
      rw [List.take_of_length_le (Nat.le_refl _)] at hN
      go_wp2
      go_ret
      exact ⟨A, n, c, rfl, hN, hn, hB⟩
end Go.Proofs.YtdfnjhkcicnkpaaGreatDoor

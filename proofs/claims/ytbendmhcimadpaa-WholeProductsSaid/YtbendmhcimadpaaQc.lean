/-
  What pelorusref02.Two and Mul do.
-/
import Derived.Test.YtbendmhcimadpaaQb
import Derived.Test.YtbendmhcimadpaaWg
import Derived.StillTailTactics
namespace Go.Proofs.Ytbendmhcimadpaa
open Go.RowKit
set_option linter.unusedVariables false

set_option maxHeartbeats 2000000 in
theorem qTwo {w : World} {A B : Option Addr} {n c m d : Nat} {s t : Bool} {x y r : Int} (h : Wr w s A n c x) (k : Wr w t B m d y) (hn : n ≤ 268435456) (hm : m ≤ 268435456) (hr : x * y = r) :
    Calls Try.prog 48 #[.agg #[.bool s, .slice A n c], .agg #[.bool t, .slice B m d]] w (W1 w (n + m) r) := by
  obtain ⟨a, h, e1⟩ := h
  obtain ⟨b, k, e2⟩ := k
  have HR : Hid (sg (s != t) (a * b) = r) := Lib.hid (by rw [← hr, ← e1, ← e2]; exact sg_mul s t a b)
  clear hr e1 e2
  go_enter Try.func48, Try.ntmps48
  go_wp2
  obtain ⟨X1, X2, X3, B0⟩ := box3 w s t A B n c m d rfl
  replace h := h.below B0
  replace k := k.below B0
  have HB := Lib.hid B0
  clear B0
  have x10 := X1.cell0
  have x11 := X1.cell1
  have x20 := X2.cell0
  have x21 := X2.cell1
  go_region_held3 (fun w' => w'.cell? ⟨w.heap.size, 0, none⟩ = some (.bool s) ∧ w'.cell? ⟨w.heap.size, 1, none⟩ = some (.slice A n c) ∧ w'.cell? ⟨w.heap.size + 1, 0, none⟩ = some (.bool t) ∧ w'.cell? ⟨w.heap.size + 1, 1, none⟩ = some (.slice B m d))
    (first | with_reducible exact ⟨x10, x11, x20, x21⟩ | with_reducible exact ⟨X1.cell0, X1.cell1, X2.cell0, X2.cell1⟩ | with_reducible exact ⟨X1.drew.cell0, X1.drew.cell1, X2.drew.cell0, X2.drew.cell1⟩ | with_reducible exact ⟨(X1.far (Nat.ne_of_lt (Nat.lt_succ_of_lt (Nat.lt_succ_self _))) _ _).cell0, (X1.far (Nat.ne_of_lt (Nat.lt_succ_of_lt (Nat.lt_succ_self _))) _ _).cell1, (X2.far (Nat.ne_of_lt (Nat.lt_succ_self _)) _ _).cell0, (X2.far (Nat.ne_of_lt (Nat.lt_succ_self _)) _ _).cell1⟩)
    (first
      | (go_at_call 66; ((with_reducible refine (rMul h.drew k.drew hn hm rfl).mono ?_); rintro e w1 ⟨A1, n1, c1, rfl, h1, k1, B1⟩; clear x10 x11 x20 x21; replace X1 := X1.drew.below B1; replace X2 := X2.drew.below B1; replace X3 := X3.drew.below B1; replace HB := Lib.hid (bt HB.out.drew B1); clear B1))
      | (go_at_call 31; ((with_reducible refine (qMake (!(s == t)) h1.rd).mono ?_); rintro e w2 ⟨s2, A2, n2, c2, rfl, h2, k2, B2⟩; replace X1 := X1.below B2; replace X2 := X2.below B2; replace X3 := X3.below B2; replace HB := Lib.hid (bt HB.out B2); clear B2; have y30 := X3.cell0; have y31 := X3.cell1; have f30 := X3.frozen 0; have f31 := X3.frozen 1)))
  go_wp2
  exact bodyPost_ret (v := .agg #[.bool s2, .slice A2 n2 c2]) (by simp [results, Try.results48, go_sem, X3.cell0, X3.cell1]) rfl ⟨s2, A2, n2, c2, rfl, HR.out ▸ h2.st X3 _ _, by omega, st2 HB.out (by omega) _ _⟩

def QMulInv (w w0 : World) (K : Nat) (zs : List Int) (k : Nat) (wr : World) : Prop :=
  ∃ s A n c, Bx wr w.heap.size false none 0 0 ∧ Bx wr w0.heap.size s A n c ∧ Wn wr s A n c (prd (zs.take k)) ∧ n ≤ 2 + k * K ∧ w.heap.size < w0.heap.size ∧ Below w.heap.size w wr
set_option maxHeartbeats 2000000 in
theorem qMul {w : World} {A : Option Addr} {n c K : Nat} {zs : List Int} {r : Int} (h : Wl w A n c K zs) (hK : 2 + n * K ≤ 268435456) (hK2 : K ≤ 268435456) (hr : prd zs = r) : Calls Try.prog 26 #[.slice A n c] w (W1 w (2 + n * K) r) := by
  have hcap := h.2.1
  have hbig := h.2.2.1
  go_enter Try.func26, Try.ntmps26
  go_wp2_with (first
    | (go_at_call 32; ((with_reducible refine (qFrom 1 _ (by omega) (by omega)).mono ?_); rintro e w1 ⟨s1, A1, n1, c1, rfl, h1, k1, B1⟩)))

  go_loopw [4] (fun i wr => ∃ k : Nat, k ≤ n ∧ i = .int .i64 k ∧ QMulInv w w1 K zs k wr) (fun i _ => n - (intOf i).toNat)
  case atStart => exact ⟨0, Nat.zero_le _, rfl, s1, A1, n1, c1, ((Bx.new w false none 0 0).below B1).below (bel1 _ _), Bx.new _ _ _ _ _, h1.below (bel1 _ _), by omega, by have := B1.size; simp at this; omega, bt (bel1 _ _) (bt B1 (bel1 _ _))⟩
  case round =>
    obtain ⟨k, hk, rfl, hI⟩ := hrel
    obtain ⟨s, B, p, d, X0, X1, hw, hp, hgw, hB⟩ := hI
    have HB := Lib.hid hB
    clear hB
    by_cases hlt : k < n
    · have hl := h.below HB.out
      obtain ⟨b, o, rfl, hcell⟩ := hl.2.2.2 (by omega)
      obtain ⟨t, D, q, e, c0, c1, hw2, hq⟩ := hcell k hlt
      clear hcell hl
      have hnk : n * K = (n - k - 1) * K + (k * K + K) := by
        rw [← Nat.succ_mul, ← Nat.add_mul]; congr 1; omega
      have hp2 : p ≤ 268435456 := by omega
      have hq2 : q ≤ 268435456 := by omega
      have HP : Hid (2 + k * K + K = 2 + (k + 1) * K) := Lib.hid (by rw [Nat.succ_mul]; omega)
      clear hnk
      have x10 := X1.cell0
      have x11 := X1.cell1
      have i1 : (k : Int) < n := by omega
      have i2 : (0 : Int) ≤ k := by omega
      go_wp2
      go_still_tail 5, (by kernel_rfl)
      change wpList _ _ _ _ _ wr.drew
      go_wp2_with (first
        | (go_at_call 48; ((with_reducible refine (qTwo hw.wr.drew hw2.drew hp2 hq2 rfl).mono ?_); rintro e w3 ⟨s3, A3, n3, c3, rfl, h3, k3, B3⟩; clear x10 x11 c0 c1; replace X0 := X0.drew.below B3; replace X1 := X1.drew.below B3; replace HB := Lib.hid (bt HB.out.drew B3); clear B3; have y0 := X1.cell0; have y1 := X1.cell1; have f0 := X1.frozen 0; have f1 := X1.frozen 1)))
      go_roundw
      case rel =>
        refine ⟨k + 1, by omega, by go_num, s3, A3, n3, c3, X0.far (by omega) _ _, X1.set _ _ _ _, ?_, by have := HP.out; omega, hgw, st2 HB.out (by omega) _ _⟩
        rw [prd_take (by rw [h.1]; exact hlt)]
        exact h3.st X1 _ _
      case measure => simp [intOf]; omega
    · obtain rfl : k = n := by omega
      have HR : Hid (prd (zs.take k) = r) := Lib.hid (by rw [← hr, List.take_of_length_le (by rw [h.1]; omega)])
      have x10 := X1.cell0
      have x11 := X1.cell1
      have y0 := X0.cell0
      have y1 := X0.cell1
      have f0 := X0.frozen 0
      have f1 := X0.frozen 1
      clear hr
      go_wp2
      exact bodyPost_ret (v := .agg #[.bool s, .slice B p d]) (by simp [results, Try.results26, go_sem, X0.cell0, X0.cell1]) rfl ⟨s, B, p, d, rfl, HR.out ▸ hw.st X0 _ _, by omega, st2 HB.out (Nat.le_refl _) _ _⟩
end Go.Proofs.Ytbendmhcimadpaa

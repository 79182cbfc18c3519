/-
  What whole.signed, Make and Neg do.
-/
import Derived.Test.YtbendmhcimadpaaWn
namespace Go.Proofs.Ytbendmhcimadpaa
open Go.RowKit
set_option linter.unusedVariables false

set_option maxHeartbeats 400000 in
theorem wSigned {w : World} {A : Option Addr} {n c a : Nat} (s : Bool) (h : Nm w A n c a) : Calls Try.prog 43 #[.bool s, .slice A n c] w (W1 w n (sg s a)) := by
  have HW := Lib.hid (h.wn s)
  have hbig := h.rd.big
  clear h
  cases s
  · go_enter Try.func43, Try.ntmps43
    go_wp2
    exact bodyPost_ret (v := .agg #[.bool false, .slice A n c]) (by simp [results, Try.results43, go_sem]) rfl ⟨false, A, n, c, rfl, HW.out.below (bel1 _ _), Nat.le_refl _, bel1 _ _⟩
  · by_cases h0 : 0 < n
    · have e : decide (0 < n) = true := by simpa using h0
      go_enter Try.func43, Try.ntmps43
      go_wp2
      exact bodyPost_ret (v := .agg #[.bool true, .slice A n c]) (by simp [results, Try.results43, go_sem]) rfl ⟨true, A, n, c, rfl, by have := HW.out; rw [e] at this; exact this.below (bel1 _ _), Nat.le_refl _, bel1 _ _⟩
    · obtain rfl : n = 0 := by omega
      go_enter Try.func43, Try.ntmps43
      go_wp2
      exact bodyPost_ret (v := .agg #[.bool false, .slice A 0 c]) (by simp [results, Try.results43, go_sem]) rfl ⟨false, A, 0, c, rfl, HW.out.below (bel1 _ _), Nat.le_refl _, bel1 _ _⟩

set_option maxHeartbeats 400000 in
theorem wMake {w : World} {A : Option Addr} {n c a : Nat} (s : Bool) (h : Rd w A n c a) : Calls Try.prog 27 #[.bool s, .slice A n c] w (W1 w n (sg s a)) := by
  go_enter Try.func27, Try.ntmps27
  go_wp2_with (first
    | (go_at_call 49; ((with_reducible refine (vTrim (h.below (bel1 _ _))).mono ?_); rintro e w1 ⟨A1, n1, c1, rfl, h1, k1, B1⟩))
    | (go_at_call 43; ((with_reducible refine (wSigned s h1).mono ?_); rintro e w2 ⟨s2, A2, n2, c2, rfl, h2, k2, B2⟩; obtain ⟨hc, hf⟩ := bcell (bt B1 B2))))
  have X := (Bx.new w false none 0 0).below (bt B1 B2)
  exact bodyPost_ret (v := .agg #[.bool s2, .slice A2 n2 c2]) (by simp [results, Try.results27, go_sem, X.cell0, X.cell1]) rfl ⟨s2, A2, n2, c2, rfl, h2.st X _ _, by omega, st2 (bt (bel1 _ _) (bt B1 B2)) (Nat.le_refl _) _ _⟩

set_option maxHeartbeats 400000 in
theorem wNeg {w : World} {A : Option Addr} {n c : Nat} {s : Bool} {z r : Int} (h : Wr w s A n c z) (hr : -z = r) : Calls Try.prog 16 #[.agg #[.bool s, .slice A n c]] w (W1 w n r) := by
  obtain ⟨a, h, e⟩ := h
  have HE : Hid (sg (!s) a = r) := Lib.hid (by rw [← hr, ← e]; cases s <;> simp [sg])
  clear hr e
  go_enter Try.func16, Try.ntmps16
  go_wp2_with (first
    | (go_at_call 27; ((with_reducible refine (wMake _ (h.below (bel2 _ _ _))).mono ?_); rintro e w2 ⟨s2, A2, n2, c2, rfl, h2, k2, B2⟩; obtain ⟨hc, hf⟩ := bcell B2)))
  have X : Bx w2 (w.heap.size + 1) false none 0 0 := (Bx.newAt _ (by simp) false none 0 0).below B2
  exact bodyPost_ret (v := .agg #[.bool s2, .slice A2 n2 c2]) (by simp [results, Try.results16, go_sem, X.cell0, X.cell1]) rfl ⟨s2, A2, n2, c2, rfl, HE.out ▸ h2.st X _ _, by omega, st2 (bt (bel2 _ _ _) B2) (by simp) _ _⟩
end Go.Proofs.Ytbendmhcimadpaa

/-
  What pelorusref02.Make, Neg, Sign, Alike, May and From do.
-/
import Derived.Test.YtbendmhcimadpaaWn
import Derived.Test.YtbendmhcimadpaaWc
import Derived.Test.YtbendmhcimadpaaWd
import Derived.Test.YtbendmhcimadpaaWe
import Derived.Test.YtbendmhcimadpaaRefa
import Derived.Test.YtbendmhcimadpaaRefs
namespace Go.Proofs.Ytbendmhcimadpaa
open Go.RowKit
set_option linter.unusedVariables false

set_option maxHeartbeats 400000 in
theorem qMake {w : World} {A : Option Addr} {n c a : Nat} (s : Bool) (h : Rd w A n c a) : Calls Try.prog 31 #[.bool s, .slice A n c] w (W1 w n (sg s a)) := by
  cases s
  · go_enter Try.func31, Try.ntmps31
    go_wp2_with (first
      | (go_at_call 51; ((with_reducible refine (rTrim (h.below (bel1 _ _))).mono ?_); rintro e w1 ⟨A1, n1, c1, rfl, h1, k1, B1⟩; obtain ⟨hc, hf⟩ := bcell B1)))
    have X : Bx w1 w.heap.size false none 0 0 := (Bx.new w false none 0 0).below B1
    exact bodyPost_ret (v := .agg #[.bool false, .slice A1 n1 c1]) (by simp [results, Try.results31, go_sem, X.cell0, X.cell1]) rfl ⟨false, A1, n1, c1, rfl, (h1.wn false).st X _ _, by omega, st2 (bt (bel1 _ _) B1) (Nat.le_refl _) _ _⟩
  · rcases Nat.eq_zero_or_pos a with e | e
    · subst e
      go_enter Try.func31, Try.ntmps31
      go_wp2_with (first
        | (go_at_call 51; ((with_reducible refine (rTrim (h.below (bel1 _ _))).mono ?_); rintro e w1 ⟨A1, n1, c1, rfl, h1, k1, B1⟩; obtain ⟨hc, hf⟩ := bcell B1; obtain rfl : n1 = 0 := by { have := h1.pos; omega })))
      have X : Bx w1 w.heap.size false none 0 0 := (Bx.new w false none 0 0).below B1
      exact bodyPost_ret (v := .agg #[.bool false, .slice A1 0 c1]) (by simp [results, Try.results31, go_sem, X.cell0, X.cell1]) rfl ⟨false, A1, 0, c1, rfl, (h1.wn true).st X _ _, by omega, st2 (bt (bel1 _ _) B1) (Nat.le_refl _) _ _⟩
    · go_enter Try.func31, Try.ntmps31
      go_wp2_with (first
        | (go_at_call 51; ((with_reducible refine (rTrim (h.below (bel1 _ _))).mono ?_); rintro e w1 ⟨A1, n1, c1, rfl, h1, k1, B1⟩; obtain ⟨hc, hf⟩ := bcell B1; have hpos : 0 < n1 := by { have := h1.pos; omega }; have hbig := h1.rd.big)))
      have X : Bx w1 w.heap.size false none 0 0 := (Bx.new w false none 0 0).below B1
      have hd : decide (0 < n1) = true := by simpa using hpos
      have hw := h1.wn true
      rw [hd] at hw
      exact bodyPost_ret (v := .agg #[.bool true, .slice A1 n1 c1]) (by simp [results, Try.results31, go_sem, X.cell0, X.cell1]) rfl ⟨true, A1, n1, c1, rfl, hw.st X _ _, by omega, st2 (bt (bel1 _ _) B1) (Nat.le_refl _) _ _⟩

set_option maxHeartbeats 400000 in
theorem qNeg {w : World} {A : Option Addr} {n c : Nat} {s : Bool} {z r : Int} (h : Wr w s A n c z) (hr : -z = r) : Calls Try.prog 17 #[.agg #[.bool s, .slice A n c]] w (W1 w n r) := by
  obtain ⟨a, h, e⟩ := h
  have HE : Hid (sg (!s) a = r) := Lib.hid (by rw [← hr, ← e]; cases s <;> simp [sg])
  clear hr e
  go_enter Try.func17, Try.ntmps17
  go_wp2_with (first
    | (go_at_call 31; ((with_reducible refine (qMake _ (h.below (bel2 _ _ _))).mono ?_); rintro e w2 ⟨s2, A2, n2, c2, rfl, h2, k2, B2⟩; obtain ⟨hc, hf⟩ := bcell B2)))
  have X : Bx w2 (w.heap.size + 1) false none 0 0 := (Bx.newAt _ (by simp) false none 0 0).below B2
  exact bodyPost_ret (v := .agg #[.bool s2, .slice A2 n2 c2]) (by simp [results, Try.results17, go_sem, X.cell0, X.cell1]) rfl ⟨s2, A2, n2, c2, rfl, HE.out ▸ h2.st X _ _, by omega, st2 (bt (bel2 _ _ _) B2) (by simp) _ _⟩

set_option maxHeartbeats 400000 in
theorem qSign {w : World} {A : Option Addr} {n c : Nat} {s : Bool} {x r : Int} (h : Wr w s A n c x) (hr : cmpI x 0 = r) : Calls Try.prog 22 #[.agg #[.bool s, .slice A n c]] w (PI w r) := by
  obtain ⟨a, h, e1⟩ := h
  subst e1
  rcases sg_cases s a with ⟨rfl, e⟩ | ⟨ha, rfl, e⟩ | ⟨ha, rfl, e⟩
  · rw [e] at hr
    subst hr
    clear e
    go_enter Try.func22, Try.ntmps22
    go_wp2_with (first
      | (go_at_call 31; ((with_reducible refine (qMake _ (h.below (bel1 _ _))).mono ?_); rintro e w2 ⟨s2, A2, n2, c2, rfl, h2, k2, B2⟩; obtain rfl : n2 = 0 := by { have := h2.1.pos; rw [sg_natAbs] at this; omega })))
    go_ret
    exact ⟨rfl, bt (bel1 _ _) (bt B2 (bel1 _ _))⟩
  · rw [e] at hr
    subst hr
    clear e
    go_enter Try.func22, Try.ntmps22
    go_wp2_with (first
      | (go_at_call 31; ((with_reducible refine (qMake _ (h.below (bel1 _ _))).mono ?_); rintro e w2 ⟨s2, A2, n2, c2, rfl, h2, k2, B2⟩; have hpos : 0 < n2 := by { have := h2.1.pos; rw [sg_natAbs] at this; omega }; have hbig := h2.1.rd.big; obtain rfl : s2 = true := by { rw [h2.2]; simp [sg]; omega })))
    go_ret
    exact ⟨rfl, bt (bel1 _ _) (bt B2 (bel1 _ _))⟩
  · rw [e] at hr
    subst hr
    clear e
    go_enter Try.func22, Try.ntmps22
    go_wp2_with (first
      | (go_at_call 31; ((with_reducible refine (qMake _ (h.below (bel1 _ _))).mono ?_); rintro e w2 ⟨s2, A2, n2, c2, rfl, h2, k2, B2⟩; have hpos : 0 < n2 := by { have := h2.1.pos; rw [sg_natAbs] at this; omega }; have hbig := h2.1.rd.big; obtain rfl : s2 = false := by { rw [h2.2]; simp [sg] })))
    go_ret
    exact ⟨rfl, bt (bel1 _ _) (bt B2 (bel1 _ _))⟩

set_option maxHeartbeats 400000 in
theorem qAlike {w : World} {A B : Option Addr} {n c m d : Nat} {s t : Bool} {z : Int} (h : Wn w s A n c z) (k : Wn w t B m d z) : Calls Try.prog 11 #[.agg #[.bool s, .slice A n c], .agg #[.bool t, .slice B m d]] w (PB w true) := by
  obtain ⟨h, e1⟩ := h
  obtain ⟨k, e2⟩ := k
  obtain rfl : s = t := e1.trans e2.symm
  clear e1 e2
  have hs : (s == s) = true := by simp
  go_enter Try.func11, Try.ntmps11
  go_wp2_with (first
    | (go_at_call 35; ((with_reducible refine (rSame (h.below (bel2 _ _ _)) (k.below (bel2 _ _ _))).mono ?_); rintro e w2 ⟨rfl, B2⟩; obtain ⟨hc, hf⟩ := bcell B2)))
  go_ret
  exact ⟨rfl, bt (bel2 _ _ _) B2⟩

set_option maxHeartbeats 400000 in
theorem qMay {w : World} {A : Option Addr} {n c a : Nat} {s : Bool} {r : Bool} (h : Rd w A n c a) (hr : mayB s n a = r) : Calls Try.prog 34 #[.agg #[.bool s, .slice A n c]] w (PB w r) := by
  rcases Nat.eq_zero_or_pos n with e | hn
  · subst e
    rw [mayB_zero s h.bound] at hr
    subst hr
    go_enter Try.func34, Try.ntmps34
    go_wp2
    go_ret
    exact ⟨rfl, bel1 _ _⟩
  · obtain ⟨b, xs, h, rfl⟩ := h
    rw [mayB_pos s h.lim h.len hn] at hr
    have hbig := h.big
    have hcap := h.cap
    have hlt := h.lt hn
    obtain ⟨o, rfl, hcell⟩ := h.at hn
    have hck := hcell (n - 1) (by omega)
    clear hcell h
    have hi : ((n : Int) - 1).toNat = n - 1 := by omega
    revert hr hck
    generalize xs.getD (n - 1) 0 = x
    intro hr hck
    have hq : ((n : Int) == 0) = false := by have : (n : Int) ≠ 0 := by omega
                                             simpa using this
    have hne : b ≠ w.heap.size := by omega
    by_cases hx : x = 0
    · subst hx
      subst hr
      go_enter Try.func34, Try.ntmps34
      go_wp2
      go_ret
      exact ⟨rfl, bel1 _ _⟩
    · have hx' : ((x : Int) != 0) = true := by have : (x : Int) ≠ 0 := by omega
                                               simpa using this
      obtain rfl : r = true := hr.symm.trans hx'
      clear hr
      go_enter Try.func34, Try.ntmps34
      go_wp2
      go_ret
      exact ⟨rfl, bel1 _ _⟩

set_option maxHeartbeats 400000 in
theorem qfrom_pos (k : Nat) (w : World) (h : k < 9223372036854775808) : Calls Try.prog 32 #[.int .i64 (k : Int)] w (W1 w 2 (k : Int)) := by
  have hd : decide ((k : Int) < 0) = false := by simp
  go_enter Try.func32, Try.ntmps32
  go_wp2_with (first
    | (go_at_call 31; ((with_reducible refine (qMake false (two_rd _ (by simp) (k := k) (by omega) (by omega) (by omega))).mono ?_); rintro e w2 ⟨s2, A2, n2, c2, rfl, h2, k2, B2⟩; obtain ⟨hc, hf⟩ := bcell B2)))
  have X : Bx w2 w.heap.size false none 0 0 := ((Bx.new w false none 0 0).below (bel1 _ _)).below B2
  exact bodyPost_ret (v := .agg #[.bool s2, .slice A2 n2 c2]) (by simp [results, Try.results32, go_sem, X.cell0, X.cell1]) rfl ⟨s2, A2, n2, c2, rfl, h2.st X _ _, by omega, st2 (bt (bel2 _ _ _) B2) (Nat.le_refl _) _ _⟩
set_option maxHeartbeats 400000 in
theorem qfrom_neg (z : Int) (w : World) (h : -9223372036854775808 ≤ z) (h0 : z < 0) : Calls Try.prog 32 #[.int .i64 z] w (W1 w 2 z) := by
  have HE : Hid (sg true z.natAbs = z) := Lib.hid (by simp [sg]; omega)
  have HK : Hid (((z.natAbs : Nat) : Int) = -z) := Lib.hid (by omega)
  go_enter Try.func32, Try.ntmps32
  go_wp2_with (first
    | (go_at_call 31; ((with_reducible refine (qMake true (two_rd _ (by simp) (k := z.natAbs) (by omega) (by omega) (by omega))).mono ?_); rintro e w2 ⟨s2, A2, n2, c2, rfl, h2, k2, B2⟩; obtain ⟨hc, hf⟩ := bcell B2)))
  have X : Bx w2 w.heap.size false none 0 0 := ((Bx.new w false none 0 0).below (bel1 _ _)).below B2
  exact bodyPost_ret (v := .agg #[.bool s2, .slice A2 n2 c2]) (by simp [results, Try.results32, go_sem, X.cell0, X.cell1]) rfl ⟨s2, A2, n2, c2, rfl, HE.out ▸ h2.st X _ _, by omega, st2 (bt (bel2 _ _ _) B2) (Nat.le_refl _) _ _⟩
theorem qFrom (z : Int) (w : World) (h1 : -9223372036854775808 ≤ z) (h2 : z ≤ 9223372036854775807) : Calls Try.prog 32 #[.int .i64 z] w (W1 w 2 z) := by
  rcases Int.lt_or_le z 0 with h | h
  · exact qfrom_neg z w h1 h
  · have := qfrom_pos z.natAbs w (by omega)
    rwa [show ((z.natAbs : Nat) : Int) = z by omega] at this
end Go.Proofs.Ytbendmhcimadpaa

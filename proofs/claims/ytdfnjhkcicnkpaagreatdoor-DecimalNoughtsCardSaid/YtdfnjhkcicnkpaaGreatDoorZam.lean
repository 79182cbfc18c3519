/-
  Contracts and words that the statements' proofs rest on, several texts in one: Qa, Da.
-/
import Derived.Deep.RegionWith
import Derived.Test.YtdfnjhkcicnkpaaGreatDoorZaa
import Derived.Test.YtdfnjhkcicnkpaaGreatDoorZai
import Derived.Test.YtdfnjhkcicnkpaaGreatDoorZak
import Derived.Test.YtdfnjhkcicnkpaaGreatDoorZal
/-
  What pelorusref02.Make, Neg, Sign, Alike, May and From do.
-/
namespace Go.Proofs.YtdfnjhkcicnkpaaGreatDoor
open Go.RowKit
set_option linter.unusedVariables false

set_option maxHeartbeats 400000 in
theorem qMake {w : World} {A : Option Addr} {n c a : Nat} (s : Bool) (h : Rd w A n c a) : Calls Tryz.prog 30 #[.bool s, .slice A n c] w (W1 w n (sg s a)) := by
  cases s
  · go_enter Tryz.func30, Tryz.ntmps30
    go_wp2_with (first
      | (go_at_call 44; ((with_reducible refine (rTrim (h.below (bel1 _ _))).mono ?_); rintro e w1 ⟨A1, n1, c1, rfl, h1, k1, B1⟩; obtain ⟨hc, hf⟩ := bcell B1)))
    have X : Bx w1 w.heap.size false none 0 0 := (Bx.new w false none 0 0).below B1
    exact bodyPost_ret (v := .agg #[.bool false, .slice A1 n1 c1]) (by simp [results, Tryz.results30, go_sem, X.cell0, X.cell1]) rfl ⟨false, A1, n1, c1, rfl, (h1.wn false).st X _ _, by omega, st2 (bt (bel1 _ _) B1) (Nat.le_refl _) _ _⟩
  · rcases Nat.eq_zero_or_pos a with e | e
    · subst e
      go_enter Tryz.func30, Tryz.ntmps30
      go_wp2_with (first
        | (go_at_call 44; ((with_reducible refine (rTrim (h.below (bel1 _ _))).mono ?_); rintro e w1 ⟨A1, n1, c1, rfl, h1, k1, B1⟩; obtain ⟨hc, hf⟩ := bcell B1; obtain rfl : n1 = 0 := by { have := h1.pos; omega })))
      have X : Bx w1 w.heap.size false none 0 0 := (Bx.new w false none 0 0).below B1
      exact bodyPost_ret (v := .agg #[.bool false, .slice A1 0 c1]) (by simp [results, Tryz.results30, go_sem, X.cell0, X.cell1]) rfl ⟨false, A1, 0, c1, rfl, (h1.wn true).st X _ _, by omega, st2 (bt (bel1 _ _) B1) (Nat.le_refl _) _ _⟩
    · go_enter Tryz.func30, Tryz.ntmps30
      go_wp2_with (first
        | (go_at_call 44; ((with_reducible refine (rTrim (h.below (bel1 _ _))).mono ?_); rintro e w1 ⟨A1, n1, c1, rfl, h1, k1, B1⟩; obtain ⟨hc, hf⟩ := bcell B1; have hpos : 0 < n1 := by { have := h1.pos; omega }; have hbig := h1.rd.big)))
      have X : Bx w1 w.heap.size false none 0 0 := (Bx.new w false none 0 0).below B1
      have hd : decide (0 < n1) = true := by simpa using hpos
      have hw := h1.wn true
      rw [hd] at hw
      exact bodyPost_ret (v := .agg #[.bool true, .slice A1 n1 c1]) (by simp [results, Tryz.results30, go_sem, X.cell0, X.cell1]) rfl ⟨true, A1, n1, c1, rfl, hw.st X _ _, by omega, st2 (bt (bel1 _ _) B1) (Nat.le_refl _) _ _⟩

set_option maxHeartbeats 400000 in
theorem qNeg {w : World} {A : Option Addr} {n c : Nat} {s : Bool} {z r : Int} (h : Wr w s A n c z) (hr : -z = r) : Calls Tryz.prog 112 #[.agg #[.bool s, .slice A n c]] w (W1 w n r) := by
  obtain ⟨a, h, e⟩ := h
  have HE : Hid (sg (!s) a = r) := Lib.hid (by rw [← hr, ← e]; cases s <;> simp [sg])
  clear hr e
  go_enter Tryz.func112, Tryz.ntmps112
  go_wp2_with (first
    | (go_at_call 30; ((with_reducible refine (qMake _ (h.below (bel2 _ _ _))).mono ?_); rintro e w2 ⟨s2, A2, n2, c2, rfl, h2, k2, B2⟩; obtain ⟨hc, hf⟩ := bcell B2)))
  have X : Bx w2 (w.heap.size + 1) false none 0 0 := (Bx.newAt _ (by simp) false none 0 0).below B2
  exact bodyPost_ret (v := .agg #[.bool s2, .slice A2 n2 c2]) (by simp [results, Tryz.results112, go_sem, X.cell0, X.cell1]) rfl ⟨s2, A2, n2, c2, rfl, HE.out ▸ h2.st X _ _, by omega, st2 (bt (bel2 _ _ _) B2) (by simp) _ _⟩

set_option maxHeartbeats 400000 in
theorem qSign {w : World} {A : Option Addr} {n c : Nat} {s : Bool} {x r : Int} (h : Wr w s A n c x) (hr : cmpI x 0 = r) : Calls Tryz.prog 89 #[.agg #[.bool s, .slice A n c]] w (PI w r) := by
  obtain ⟨a, h, e1⟩ := h
  subst e1
  rcases sg_cases s a with ⟨rfl, e⟩ | ⟨ha, rfl, e⟩ | ⟨ha, rfl, e⟩
  · rw [e] at hr
    subst hr
    clear e
    go_enter Tryz.func89, Tryz.ntmps89
    go_wp2_with (first
      | (go_at_call 30; ((with_reducible refine (qMake _ (h.below (bel1 _ _))).mono ?_); rintro e w2 ⟨s2, A2, n2, c2, rfl, h2, k2, B2⟩; obtain rfl : n2 = 0 := by { have := h2.1.pos; rw [sg_natAbs] at this; omega })))
    go_ret
    exact ⟨rfl, bt (bel1 _ _) (bt B2 (bel1 _ _))⟩
  · rw [e] at hr
    subst hr
    clear e
    go_enter Tryz.func89, Tryz.ntmps89
    go_wp2_with (first
      | (go_at_call 30; ((with_reducible refine (qMake _ (h.below (bel1 _ _))).mono ?_); rintro e w2 ⟨s2, A2, n2, c2, rfl, h2, k2, B2⟩; have hpos : 0 < n2 := by { have := h2.1.pos; rw [sg_natAbs] at this; omega }; have hbig := h2.1.rd.big; obtain rfl : s2 = true := by { rw [h2.2]; simp [sg]; omega })))
    go_ret
    exact ⟨rfl, bt (bel1 _ _) (bt B2 (bel1 _ _))⟩
  · rw [e] at hr
    subst hr
    clear e
    go_enter Tryz.func89, Tryz.ntmps89
    go_wp2_with (first
      | (go_at_call 30; ((with_reducible refine (qMake _ (h.below (bel1 _ _))).mono ?_); rintro e w2 ⟨s2, A2, n2, c2, rfl, h2, k2, B2⟩; have hpos : 0 < n2 := by { have := h2.1.pos; rw [sg_natAbs] at this; omega }; have hbig := h2.1.rd.big; obtain rfl : s2 = false := by { rw [h2.2]; simp [sg] })))
    go_ret
    exact ⟨rfl, bt (bel1 _ _) (bt B2 (bel1 _ _))⟩

set_option maxHeartbeats 400000 in
theorem qAlike {w : World} {A B : Option Addr} {n c m d : Nat} {s t : Bool} {z : Int} (h : Wn w s A n c z) (k : Wn w t B m d z) : Calls Tryz.prog 32 #[.agg #[.bool s, .slice A n c], .agg #[.bool t, .slice B m d]] w (PB w true) := by
  obtain ⟨h, e1⟩ := h
  obtain ⟨k, e2⟩ := k
  obtain rfl : s = t := e1.trans e2.symm
  clear e1 e2
  have hs : (s == s) = true := by simp
  go_enter Tryz.func32, Tryz.ntmps32
  go_wp2_with (first
    | (go_at_call 72; ((with_reducible refine (rSame (h.below (bel2 _ _ _)) (k.below (bel2 _ _ _))).mono ?_); rintro e w2 ⟨rfl, B2⟩; obtain ⟨hc, hf⟩ := bcell B2)))
  go_ret
  exact ⟨rfl, bt (bel2 _ _ _) B2⟩

set_option maxHeartbeats 400000 in
theorem qMay {w : World} {A : Option Addr} {n c a : Nat} {s : Bool} {r : Bool} (h : Rd w A n c a) (hr : mayB s n a = r) : Calls Tryz.prog 50 #[.agg #[.bool s, .slice A n c]] w (PB w r) := by
  rcases Nat.eq_zero_or_pos n with e | hn
  · subst e
    rw [mayB_zero s h.bound] at hr
    subst hr
    go_enter Tryz.func50, Tryz.ntmps50
    go_wp2
    go_ret
    exact ⟨rfl, bel1 _ _⟩
  · obtain ⟨b, xs, h, rfl⟩ := h
    rw [mayB_pos s h.lim h.len hn] at hr
    have hbig := h.big
    have hcap := h.cap
    have hlt := h.lt hn
    obtain ⟨o, rfl, hcell⟩ := h.at hn
    have hck := hcell (n - 1) (by omega)
    clear hcell h
    have hi : ((n : Int) - 1).toNat = n - 1 := by omega
    revert hr hck
    generalize xs.getD (n - 1) 0 = x
    intro hr hck
    have hq : ((n : Int) == 0) = false := by have : (n : Int) ≠ 0 := by omega
                                             simpa using this
    have hne : b ≠ w.heap.size := by omega
    by_cases hx : x = 0
    · subst hx
      subst hr
      go_enter Tryz.func50, Tryz.ntmps50
      go_wp2
      go_ret
      exact ⟨rfl, bel1 _ _⟩
    · have hx' : ((x : Int) != 0) = true := by have : (x : Int) ≠ 0 := by omega
                                               simpa using this
      obtain rfl : r = true := hr.symm.trans hx'
      clear hr
      go_enter Tryz.func50, Tryz.ntmps50
      go_wp2
      go_ret
      exact ⟨rfl, bel1 _ _⟩

set_option maxHeartbeats 400000 in
theorem qfrom_pos (k : Nat) (w : World) (h : k < 9223372036854775808) : Calls Tryz.prog 92 #[.int .i64 (k : Int)] w (W1 w 2 (k : Int)) := by
  have hd : decide ((k : Int) < 0) = false := by simp
  go_enter Tryz.func92, Tryz.ntmps92
  go_wp2_with (first
    | (go_at_call 30; ((with_reducible refine (qMake false (two_rd _ (by simp) (k := k) (by omega) (by omega) (by omega))).mono ?_); rintro e w2 ⟨s2, A2, n2, c2, rfl, h2, k2, B2⟩; obtain ⟨hc, hf⟩ := bcell B2)))
  have X : Bx w2 w.heap.size false none 0 0 := ((Bx.new w false none 0 0).below (bel1 _ _)).below B2
  exact bodyPost_ret (v := .agg #[.bool s2, .slice A2 n2 c2]) (by simp [results, Tryz.results92, go_sem, X.cell0, X.cell1]) rfl ⟨s2, A2, n2, c2, rfl, h2.st X _ _, by omega, st2 (bt (bel2 _ _ _) B2) (Nat.le_refl _) _ _⟩
set_option maxHeartbeats 400000 in
theorem qfrom_neg (z : Int) (w : World) (h : -9223372036854775808 ≤ z) (h0 : z < 0) : Calls Tryz.prog 92 #[.int .i64 z] w (W1 w 2 z) := by
  have HE : Hid (sg true z.natAbs = z) := Lib.hid (by simp [sg]; omega)
  have HK : Hid (((z.natAbs : Nat) : Int) = -z) := Lib.hid (by omega)
  go_enter Tryz.func92, Tryz.ntmps92
  go_wp2_with (first
    | (go_at_call 30; ((with_reducible refine (qMake true (two_rd _ (by simp) (k := z.natAbs) (by omega) (by omega) (by omega))).mono ?_); rintro e w2 ⟨s2, A2, n2, c2, rfl, h2, k2, B2⟩; obtain ⟨hc, hf⟩ := bcell B2)))
  have X : Bx w2 w.heap.size false none 0 0 := ((Bx.new w false none 0 0).below (bel1 _ _)).below B2
  exact bodyPost_ret (v := .agg #[.bool s2, .slice A2 n2 c2]) (by simp [results, Tryz.results92, go_sem, X.cell0, X.cell1]) rfl ⟨s2, A2, n2, c2, rfl, HE.out ▸ h2.st X _ _, by omega, st2 (bt (bel2 _ _ _) B2) (Nat.le_refl _) _ _⟩
theorem qFrom (z : Int) (w : World) (h1 : -9223372036854775808 ≤ z) (h2 : z ≤ 9223372036854775807) : Calls Tryz.prog 92 #[.int .i64 z] w (W1 w 2 z) := by
  rcases Int.lt_or_le z 0 with h | h
  · exact qfrom_neg z w h1 h
  · have := qfrom_pos z.natAbs w (by omega)
    rwa [show ((z.natAbs : Nat) : Int) = z by omega] at this
end Go.Proofs.YtdfnjhkcicnkpaaGreatDoor

/-
  Words for numbers times powers of two; and what pelorusref03.even and Make do.
-/
namespace Go.Proofs.YtdfnjhkcicnkpaaGreatDoor
open Go.RowKit
set_option linter.unusedVariables false

theorem val_int0 {k : IntKind} {a b : Int} (h : a = b) : Value.int k a = .int k b := by rw [h]
/-- The call answers the number N times 2 to the power E. -/
def D1 (w : World) (K : Nat) (N E : Int) (e : Ending) (w' : World) : Prop := ∃ s A n c, e = .returned (.agg #[.bool s, .slice A n c, .int .i64 E]) ∧ Wn w' s A n c N ∧ n ≤ K ∧ Below w.heap.size w w'
/-- Three cells stored into a box: what is read elsewhere stays. -/
theorem Wn.st3 {w : World} {g : Nat} {cs : Array Value} {T : TypeId} {t : Bool} {B : Option Addr} {m d : Nat} {z : Int} (h : Wn w t B m d z) (X : Bo w g cs T) (s : Bool) (A : Option Addr) (n c : Nat) (e : Int) (hn : cs.all no32 = true) :
    Wn (((w.setCell ⟨g, 0, none⟩ (.bool s)).setCell ⟨g, 1, none⟩ (.slice A n c)).setCell ⟨g, 2, none⟩ (.int .i64 e)) t B m d z := by
  have step : ∀ (cs : Array Value) (i : Nat) (v : Value), cs.all no32 = true → no32 v = true → (cs.setIfInBounds i v).all no32 = true := by
    intro cs i v h1 h2
    rw [Array.all_eq_true] at h1 ⊢
    intro j hj
    rw [Array.getElem_setIfInBounds]
    split
    · exact h2
    · exact h1 j (by simpa using hj)
  exact ((h.store X hn 0 _).store (X.set 0 _) (step _ _ _ hn rfl) 1 _).store ((X.set 0 _).set 1 _) (step _ _ _ (step _ _ _ hn rfl) rfl) 2 _
theorem st3 {B : Nat} {a w : World} (h : Below B a w) {b : Nat} (hp : B ≤ b) (u v t : Value) : Below B a (((w.setCell ⟨b, 0, none⟩ u).setCell ⟨b, 1, none⟩ v).setCell ⟨b, 2, none⟩ t) := below_store (below_store (below_store h hp 0 u) hp 1 v) hp 2 t

end Go.Proofs.YtdfnjhkcicnkpaaGreatDoor

/-
 Contracts that the proof rests on.
-/
import Derived.Deep.RegionHeld3
import Derived.Test.YtnbliijpjcmbjaaGreatDoorYPan
namespace Go.Proofs.YtnbliijpjcmbjaaGreatDoor
open Go.RowKit
set_option linter.unusedVariables false
set_option maxHeartbeats 1000000 in
theorem q3make_out {w : World} {s : Bool} {A : Option Addr} {n c : Nat} {z e : Int} (h : Wr w s A n c z) (hc : z = 0 ∨ e < -4194304 ∨ 4194304 < e) :
   Calls Tryz.prog 117 #[.agg #[.bool s, .slice A n c], .int .i64 e] w (D1 w n 0 0) := by
 by_cases h0 : z = 0
 · subst h0; clear hc
   go_enter Tryz.func117, Tryz.ntmps117
   go_wp2_with fail
   refine (qMake s (h.rd.below (bel2 _ _ _))).mono ?_; rintro ee w1 ⟨s1, A1, n1, c1, rfl, p1, k1, B1⟩; rw [h.eq] at p1
   obtain rfl : n1 = 0 := by have := p1.1.pos; omega
   have XR : Bo (w1.alloc (.cells #[.bool s1, .slice A1 0 c1] 75)) (w.heap.size + 1) #[.bool false, .slice none 0 0, .int .i64 0] 77 := ((Bo.newAt _ (by simp) _ _).below B1).below (bel1 _ _)
   have HB := Lib.hid (bt (bt (bel2 _ _ _) B1) (bel1 w1 (.cells #[.bool s1, .slice A1 0 c1] 75))); have x51 := (Bx.new w1 s1 A1 0 c1).cell1
   have r0 : (w1.alloc (.cells #[.bool s1, .slice A1 0 c1] 75)).cell? ⟨w.heap.size + 1, 0, none⟩ = some (.bool false) := XR.cell 0
   have r1 : (w1.alloc (.cells #[.bool s1, .slice A1 0 c1] 75)).cell? ⟨w.heap.size + 1, 1, none⟩ = some (.slice none 0 0) := XR.cell 1
   have r2 : (w1.alloc (.cells #[.bool s1, .slice A1 0 c1] 75)).cell? ⟨w.heap.size + 1, 2, none⟩ = some (.int .i64 0) := XR.cell 2
   have q0 := XR.frozen 0; have q1 := XR.frozen 1; have q2 := XR.frozen 2; clear B1; go_wp2
   exact bodyPost_ret (v := .agg #[.bool false, .slice none 0 0, .int .i64 0]) (by simp [results, Tryz.results117, go_sem, r0, r1, r2]) rfl
     ⟨false, none, 0, 0, rfl, Wn.zero.st3 XR _ _ _ _ _ (by simp [no32]), Nat.zero_le _, st3 HB.out (by omega) _ _ _⟩
 · have hc2 : e < -4194304 ∨ (¬ e < -4194304 ∧ 4194304 < e) := by omega
   clear hc
   rcases hc2 with ht | ⟨ht, ht2⟩
   all_goals
     go_enter Tryz.func117, Tryz.ntmps117
     go_wp2_with fail
     refine (qMake s (h.rd.below (bel2 _ _ _))).mono ?_; rintro ee w1 ⟨s1, A1, n1, c1, rfl, p1, k1, B1⟩; rw [h.eq] at p1
     have hpos : 0 < n1 := by have := p1.1.pos; omega
     have hq : ((n1 : Int) == 0) = false := by have : (n1 : Int) ≠ 0 := by omega
                                               simpa using this
     have hbig1 := p1.1.rd.big
     have XR : Bo (w1.alloc (.cells #[.bool s1, .slice A1 n1 c1] 75)) (w.heap.size + 1) #[.bool false, .slice none 0 0, .int .i64 0] 77 := ((Bo.newAt _ (by simp) _ _).below B1).below (bel1 _ _)
     have HB := Lib.hid (bt (bt (bel2 _ _ _) B1) (bel1 w1 (.cells #[.bool s1, .slice A1 n1 c1] 75))); have x51 := (Bx.new w1 s1 A1 n1 c1).cell1
     have r0 : (w1.alloc (.cells #[.bool s1, .slice A1 n1 c1] 75)).cell? ⟨w.heap.size + 1, 0, none⟩ = some (.bool false) := XR.cell 0
     have r1 : (w1.alloc (.cells #[.bool s1, .slice A1 n1 c1] 75)).cell? ⟨w.heap.size + 1, 1, none⟩ = some (.slice none 0 0) := XR.cell 1
     have r2 : (w1.alloc (.cells #[.bool s1, .slice A1 n1 c1] 75)).cell? ⟨w.heap.size + 1, 2, none⟩ = some (.int .i64 0) := XR.cell 2
     have q0 := XR.frozen 0; have q1 := XR.frozen 1; have q2 := XR.frozen 2; clear B1 h0; go_wp2
     exact bodyPost_ret (v := .agg #[.bool false, .slice none 0 0, .int .i64 0]) (by simp [results, Tryz.results117, go_sem, r0, r1, r2]) rfl
       ⟨false, none, 0, 0, rfl, Wn.zero.st3 XR _ _ _ _ _ (by simp [no32]), Nat.zero_le _, st3 HB.out (by omega) _ _ _⟩
theorem q3Make {w : World} {s : Bool} {A : Option Addr} {n c : Nat} {z e N E : Int} (h : Wr w s A n c z) (hn : n ≤ 100000) (hN : (mk z e).1 = N) (hE : (mk z e).2 = E) :
   Calls Tryz.prog 117 #[.agg #[.bool s, .slice A n c], .int .i64 e] w (D1 w n N E) := by
 by_cases hc : z = 0 ∨ e < -4194304 ∨ 4194304 < e
 · have hm : mk z e = (0, 0) := by
     rcases hc with rfl | hc | hc
     · exact mk_zero e
     · exact mk_low hc
     · exact mk_high hc
   rw [hm] at hN hE; subst hN; subst hE; exact q3make_out h hc
 · exact q3make_in h hn (by omega) (by omega) (by omega) (Lib.hid hN) (Lib.hid hE)
abbrev Bd (w : World) (g : Nat) (s : Bool) (A : Option Addr) (n c : Nat) (e : Int) : Prop := Bo w g #[.bool s, .slice A n c, .int .i64 e] 77
theorem box3 (w : World) (s t : Bool) (A B : Option Addr) (n c m d : Nat) {W : World} (hW : W = ((w.alloc (.cells #[.bool s, .slice A n c] 75)).alloc (.cells #[.bool t, .slice B m d] 75)).alloc (.cells #[.bool false, .slice none 0 0] 75)) :
   Bx W w.heap.size s A n c ∧ Bx W (w.heap.size + 1) t B m d ∧ Bx W (w.heap.size + 1 + 1) false none 0 0 ∧ Below w.heap.size w W := by
 subst hW; exact ⟨((Bx.new w s A n c).below (bel1 _ _)).below (bel1 _ _), (Bx.newAt _ (by simp) t B m d).below (bel1 _ _), Bx.newAt _ (by simp) false none 0 0, bel3 _ _ _ _⟩
end Go.Proofs.YtnbliijpjcmbjaaGreatDoor

/-
  Contracts and words that the statement's proof rests on: Db, Qb.
-/
import Derived.Deep.RegionHeld3
import Derived.Test.YtpnmphofengoeaaGreatDoorYPak
namespace Go.Proofs.YtpnmphofengoeaaGreatDoor
open Go.RowKit
set_option linter.unusedVariables false

set_option maxHeartbeats 1000000 in
theorem q3make_out {w : World} {s : Bool} {A : Option Addr} {n c : Nat} {z e : Int} (h : Wr w s A n c z) (hc : z = 0 ∨ e < -4194304 ∨ 4194304 < e) :
    Calls Tryz.prog 89 #[.agg #[.bool s, .slice A n c], .int .i64 e] w (D1 w n 0 0) := by
  by_cases h0 : z = 0
  · subst h0; clear hc
    go_enter Tryz.func89, Tryz.ntmps89
    go_wp2_with fail
    refine (qMake s (h.rd.below  (bel2 _ _ _))).mono ?_; rintro ee w1 ⟨s1, A1, n1, c1, rfl, p1, k1, B1⟩; rw [h.eq] at p1
    obtain rfl : n1 = 0 := by have := p1.1.pos; omega
    have XR : Bo (w1.alloc (.cells #[.bool s1, .slice A1 0 c1] 81)) (w.heap.size + 1) #[.bool false, .slice none 0 0, .int .i64 0] 83 := ((Bo.newAt _ (by simp) _ _).below  B1).below  (bel1 _ _)
    have HB := Lib.hid (bt (bt (bel2 _ _ _) B1) (bel1 w1 (.cells #[.bool s1, .slice A1 0 c1] 81))); have x51 := (Bx.new w1 s1 A1 0 c1).cell1
    have r0 : (w1.alloc (.cells #[.bool s1, .slice A1 0 c1] 81)).cell? ⟨w.heap.size + 1, 0, none⟩ = some (.bool false) := XR.cell 0
    have r1 : (w1.alloc (.cells #[.bool s1, .slice A1 0 c1] 81)).cell? ⟨w.heap.size + 1, 1, none⟩ = some (.slice none 0 0) := XR.cell 1
    have r2 : (w1.alloc (.cells #[.bool s1, .slice A1 0 c1] 81)).cell? ⟨w.heap.size + 1, 2, none⟩ = some (.int .i64 0) := XR.cell 2
    have q0 := XR.frozen 0; have q1 := XR.frozen 1; have q2 := XR.frozen 2; clear B1; go_wp2
    exact bodyPost_ret (v := .agg #[.bool false, .slice none 0 0, .int .i64 0]) (by simp [results, Tryz.results89, go_sem, r0, r1, r2]) rfl
      ⟨false, none, 0, 0, rfl, Wn.zero.st3 XR _ _ _ _ _ (by simp [no32]), Nat.zero_le _, st3 HB.out (by omega) _ _ _⟩
  · have hc2 : e < -4194304 ∨ (¬ e < -4194304 ∧ 4194304 < e) := by omega
    clear hc
    rcases hc2 with ht | ⟨ht, ht2⟩
    all_goals
      go_enter Tryz.func89, Tryz.ntmps89
      go_wp2_with fail
      refine (qMake s (h.rd.below  (bel2 _ _ _))).mono ?_; rintro ee w1 ⟨s1, A1, n1, c1, rfl, p1, k1, B1⟩; rw [h.eq] at p1
      have hpos : 0 < n1 := by have := p1.1.pos; omega
      have hq : ((n1 : Int) == 0) = false := by have : (n1 : Int) ≠ 0 := by omega
                                                simpa using this
      have hbig1 := p1.1.rd.big
      have XR : Bo (w1.alloc (.cells #[.bool s1, .slice A1 n1 c1] 81)) (w.heap.size + 1) #[.bool false, .slice none 0 0, .int .i64 0] 83 := ((Bo.newAt _ (by simp) _ _).below  B1).below  (bel1 _ _)
      have HB := Lib.hid (bt (bt (bel2 _ _ _) B1) (bel1 w1 (.cells #[.bool s1, .slice A1 n1 c1] 81))); have x51 := (Bx.new w1 s1 A1 n1 c1).cell1
      have r0 : (w1.alloc (.cells #[.bool s1, .slice A1 n1 c1] 81)).cell? ⟨w.heap.size + 1, 0, none⟩ = some (.bool false) := XR.cell 0
      have r1 : (w1.alloc (.cells #[.bool s1, .slice A1 n1 c1] 81)).cell? ⟨w.heap.size + 1, 1, none⟩ = some (.slice none 0 0) := XR.cell 1
      have r2 : (w1.alloc (.cells #[.bool s1, .slice A1 n1 c1] 81)).cell? ⟨w.heap.size + 1, 2, none⟩ = some (.int .i64 0) := XR.cell 2
      have q0 := XR.frozen 0; have q1 := XR.frozen 1; have q2 := XR.frozen 2; clear B1 h0; go_wp2
      exact bodyPost_ret (v := .agg #[.bool false, .slice none 0 0, .int .i64 0]) (by simp [results, Tryz.results89, go_sem, r0, r1, r2]) rfl
        ⟨false, none, 0, 0, rfl, Wn.zero.st3 XR _ _ _ _ _ (by simp [no32]), Nat.zero_le _, st3 HB.out (by omega) _ _ _⟩

theorem q3Make {w : World} {s : Bool} {A : Option Addr} {n c : Nat} {z e N E : Int} (h : Wr w s A n c z) (hn : n ≤ 100000) (hN : (mk z e).1 = N) (hE : (mk z e).2 = E) :
    Calls Tryz.prog 89 #[.agg #[.bool s, .slice A n c], .int .i64 e] w (D1 w n N E) := by
  by_cases hc : z = 0 ∨ e < -4194304 ∨ 4194304 < e
  · have hm : mk z e = (0, 0) := by
      rcases hc with rfl | hc | hc
      · exact mk_zero e
      · exact mk_low hc
      · exact mk_high hc
    rw [hm] at hN hE; subst hN; subst hE; exact q3make_out h hc
  · exact q3make_in h hn (by omega) (by omega) (by omega) (Lib.hid hN) (Lib.hid hE)

abbrev Bd (w : World) (g : Nat) (s : Bool) (A : Option Addr) (n c : Nat) (e : Int) : Prop := Bo w g #[.bool s, .slice A n c, .int .i64 e] 83

end Go.Proofs.YtpnmphofengoeaaGreatDoor

namespace Go.Proofs.YtpnmphofengoeaaGreatDoor
open Go.RowKit
set_option linter.unusedVariables false

theorem box3 (w : World) (s t : Bool) (A B : Option Addr) (n c m d : Nat) {W : World} (hW : W = ((w.alloc (.cells #[.bool s, .slice A n c] 81)).alloc (.cells #[.bool t, .slice B m d] 81)).alloc (.cells #[.bool false, .slice none 0 0] 81)) :
    Bx W w.heap.size s A n c ∧ Bx W (w.heap.size + 1) t B m d ∧ Bx W (w.heap.size + 1 + 1) false none 0 0 ∧ Below w.heap.size w W := by
  subst hW; exact ⟨((Bx.new w s A n c).below (bel1 _ _)).below (bel1 _ _), (Bx.newAt _ (by simp) t B m d).below (bel1 _ _), Bx.newAt _ (by simp) false none 0 0, bel3 _ _ _ _⟩

set_option maxHeartbeats 2000000 in
theorem qAdd {w : World} {A B : Option Addr} {n c m d : Nat} {s t : Bool} {x y r : Int} (h : Wr w s A n c x) (k : Wr w t B m d y) (hn : n ≤ 1073741824) (hm : m ≤ 1073741824) (hr : x + y = r) :
    Calls Tryz.prog 98 #[.agg #[.bool s, .slice A n c], .agg #[.bool t, .slice B m d]] w (W1 w (n + m + 1) r) := by
  obtain ⟨a, h, e1⟩ := h; obtain ⟨b, k, e2⟩ := k; subst e1; subst e2
  by_cases hs : s = t
  · subst hs
    have HR : Hid (sg s (a + b) = r) := Lib.hid (by rw [← hr]; cases s <;> simp [sg] <;> omega)
    have hq : (s == s) = true := by simp
    clear hr
    go_enter Tryz.func98, Tryz.ntmps98
    go_wp2; obtain ⟨X1, X2, X3, B0⟩ := box3 w s s A B n c m d rfl; replace h := h.below B0; replace k := k.below B0; have HB := Lib.hid B0; clear B0; have x10 := X1.cell0; have x11 := X1.cell1; have x21 := X2.cell1
    go_region_held3 (fun w' => w'.cell? ⟨w.heap.size, 0, none⟩ = some (.bool s) ∧ w'.cell? ⟨w.heap.size, 1, none⟩ = some (.slice A n c) ∧ w'.cell? ⟨w.heap.size + 1, 1, none⟩ = some (.slice B m d))
      (first | with_reducible exact ⟨x10, x11, x21⟩ | with_reducible exact ⟨X1.cell0, X1.cell1, X2.cell1⟩ | with_reducible exact ⟨X1.drew.cell0, X1.drew.cell1, X2.drew.cell1⟩ | with_reducible exact ⟨(X1.far (Nat.ne_of_lt (Nat.lt_succ_of_lt (Nat.lt_succ_self _))) _ _).cell0, (X1.far (Nat.ne_of_lt (Nat.lt_succ_of_lt (Nat.lt_succ_self _))) _ _).cell1, (X2.far (Nat.ne_of_lt (Nat.lt_succ_self _)) _ _).cell1⟩)
      (first
        | (go_at_call 97; ((with_reducible refine (rAdd h.drew k.drew hn hm).mono ?_); rintro e w1 ⟨A1, n1, c1, rfl, h1, k1, B1⟩; clear x10 x11 x21; replace X1 := X1.drew.below B1; replace X2 := X2.drew.below B1; replace X3 := X3.drew.below B1; replace HB := Lib.hid (bt HB.out.drew B1); clear B1))
        | (go_at_call 90; ((with_reducible refine (qMake _ h1.rd).mono ?_); rintro e w2 ⟨s2, A2, n2, c2, rfl, h2, k2, B2⟩; replace X1 := X1.below B2; replace X2 := X2.below B2; replace X3 := X3.below B2; replace HB := Lib.hid (bt HB.out B2); clear B2; have y30 := X3.cell0; have y31 := X3.cell1; have f30 := X3.frozen 0; have f31 := X3.frozen 1)))
    go_wp2; exact bodyPost_ret (v := .agg #[.bool s2, .slice A2 n2 c2]) (by simp [results, Tryz.results98, go_sem, X3.cell0, X3.cell1]) rfl ⟨s2, A2, n2, c2, rfl, HR.out ▸ h2.st X3 _ _, by omega, st2 HB.out (by omega) _ _⟩
  · have hq : (s == t) = false := by simpa using hs
    have hs' : t = !s := by cases s <;> cases t <;> simp_all
    by_cases hab : b ≤ a
    · have HR : Hid (sg s (a - b) = r) := Lib.hid (by rw [← hr, hs']; cases s <;> simp [sg] <;> omega)
      have HS := Lib.hid hs; clear hr hs' hs
      go_enter Tryz.func98, Tryz.ntmps98
      go_wp2_with (first
        | (go_at_call 111; ((with_reducible refine (rSub (h.below (bel3 _ _ _ _)) (k.below (bel3 _ _ _ _)) hab rfl).mono ?_); rintro e w1 ⟨A1, n1, c1, rfl, h1, k1, B1⟩; obtain ⟨hc, hf⟩ := bcell B1))
        | (go_at_call 90; ((with_reducible refine (qMake _ h1.rd).mono ?_); rintro e w2 ⟨s2, A2, n2, c2, rfl, h2, k2, B2⟩; clear hc hf; obtain ⟨hc, hf⟩ := bcell (bt B1 B2))))
      have X : Bx w2 (w.heap.size + 1 + 1) false none 0 0 := (Bx.newAt _ (by simp) false none 0 0).below (bt B1 B2)
      exact bodyPost_ret (v := .agg #[.bool s2, .slice A2 n2 c2]) (by simp [results, Tryz.results98, go_sem, X.cell0, X.cell1]) rfl ⟨s2, A2, n2, c2, rfl, HR.out ▸ h2.st X _ _, by omega, st2 (bt (bel3 _ _ _ _) (bt B1 B2)) (by omega) _ _⟩
    · have HR : Hid (sg t (b - a) = r) := Lib.hid (by rw [← hr, hs']; cases s <;> simp [sg] <;> omega)
      have HS := Lib.hid hs
      have hlt : a < b := by omega
      have hle : a ≤ b := by omega
      clear hr hs' hs hab
      go_enter Tryz.func98, Tryz.ntmps98
      go_wp2_with (first
        | (go_at_call 111; ((with_reducible refine (rSub_lt (h.below (bel3 _ _ _ _)) (k.below (bel3 _ _ _ _)) hlt).mono ?_); rintro e w0 ⟨rfl, B0⟩; obtain ⟨hc, hf⟩ := bcell B0))
        | (go_at_call 111; ((with_reducible refine (rSub (k.below (bt (bel3 _ _ _ _) B0)) (h.below (bt (bel3 _ _ _ _) B0)) hle rfl).mono ?_); rintro e w1 ⟨A1, n1, c1, rfl, h1, k1, B1⟩; clear hc hf; obtain ⟨hc, hf⟩ := bcell (bt B0 B1)))
        | (go_at_call 90; ((with_reducible refine (qMake _ h1.rd).mono ?_); rintro e w2 ⟨s2, A2, n2, c2, rfl, h2, k2, B2⟩; clear hc hf; obtain ⟨hc, hf⟩ := bcell (bt B0 (bt B1 B2)))))
      have X : Bx w2 (w.heap.size + 1 + 1) false none 0 0 := (Bx.newAt _ (by simp) false none 0 0).below (bt B0 (bt B1 B2))
      exact bodyPost_ret (v := .agg #[.bool s2, .slice A2 n2 c2]) (by simp [results, Tryz.results98, go_sem, X.cell0, X.cell1]) rfl ⟨s2, A2, n2, c2, rfl, HR.out ▸ h2.st X _ _, by omega, st2 (bt (bel3 _ _ _ _) (bt B0 (bt B1 B2))) (by omega) _ _⟩

end Go.Proofs.YtpnmphofengoeaaGreatDoor

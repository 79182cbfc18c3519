/-
  Contracts and words that the statement's proof rests on, several texts in one: Ud.
-/
import Derived.Test.YtpmakljahhhnfaaGreatDoorYAal
import Derived.Test.YtpmakljahhhnfaaGreatDoorYAbg
import Derived.Test.YtpmakljahhhnfaaGreatDoorYAbh
/-
  What pelorusref04.fits and Make answer.
-/
namespace Go.Proofs.YtpmakljahhhnfaaGreatDoor
open Go.RowKit
set_option linter.unusedVariables false
set_option linter.unusedSimpArgs false
set_option maxRecDepth 100000

def Jo.Fact.qr (q r K : Nat) : Jo.Fact := ⟨fun v w => ∃ A n c B m d, v = .tuple #[.slice A n c, .slice B m d, .bool true] ∧ Nm w A n c q ∧ Nm w B m d r ∧ n ≤ K, fun v w w' h b => by
  obtain ⟨A, n, c, B, m, d, e, h, k, l⟩ := h
  exact ⟨A, n, c, B, m, d, e, h.below b, k.below b, l⟩⟩
/-- Does it fit? -/
def fitC (n a : Nat) (t : Int) : Bool := decide (n ≤ 5) && (decide (Lib.nDigits a ≤ 40) && (decide (-400 ≤ t) && decide (t ≤ 400)))

set_option maxHeartbeats 2000000 in
theorem uFits_n {w : World} {A : Option Addr} {n c a d : Nat} {s : Bool} {t : Int} (h : Rd w A n c a) (hN : Lib.nDigits a = d) (hn : 5 < n) : Calls Tryz.prog 106 #[.agg #[.bool s, .slice A n c], .int .i64 t] w (PB w false) := by
  have t1 : decide ((n : Int) ≤ 5) = false := by simp; omega
  go_enter Tryz.func106, Tryz.ntmps106
  go_upto_region 1 with (fail)
  have X1 := (Bo.newAt w (g := w.heap.size) (by simp) #[.bool s, .slice A n c] 34)
  have HB := Lib.hid (bel1 w (.cells #[.bool s, .slice A n c] 34))
  replace h := h.below HB.out
  generalize hW1 : (w.alloc (.cells #[.bool s, .slice A n c] 34)) = w1 at *
  clear hW1
  have xX10 := X1.a 0 (.bool s) rfl
  have xX11 := X1.a 1 (.slice A n c) rfl
  go_wp2
  go_ret
  exact ⟨rfl, HB.out⟩

set_option maxHeartbeats 2000000 in
theorem uFits_d {w : World} {A : Option Addr} {n c a d : Nat} {s : Bool} {t : Int} (h : Rd w A n c a) (hN : Lib.nDigits a = d) (hn : n ≤ 5) (hd : 40 < d) : Calls Tryz.prog 106 #[.agg #[.bool s, .slice A n c], .int .i64 t] w (PB w false) := by
  have t1 : decide ((n : Int) ≤ 5) = true := by simp; omega
  have hds : (st (Lib.decDigits a)).size = d := by rw [st_size, Lib.decDigits_length, hN]
  have t2 : decide ((d : Int) ≤ 40) = false := by simp; omega
  have HC := Lib.hid (fun w (h : Rd w A n c a) => uDigits h (by omega))
  obtain ⟨D, hD⟩ : ∃ D, Lib.decDigits a = D := ⟨_, rfl⟩
  rw [hD] at hds HC
  clear hD hN
  go_enter Tryz.func106, Tryz.ntmps106
  go_upto_region 1 with (fail)
  have X1 := (Bo.newAt w (g := w.heap.size) (by simp) #[.bool s, .slice A n c] 34)
  have HB := Lib.hid (bel1 w (.cells #[.bool s, .slice A n c] 34))
  replace h := h.below HB.out
  generalize hW1 : (w.alloc (.cells #[.bool s, .slice A n c] 34)) = w1 at *
  clear hW1
  have xX10 := X1.a 0 (.bool s) rfl
  have xX11 := X1.a 1 (.slice A n c) rfl
  go_wp2_with fail
  refine (HC.out _ h).mono ?_
  rintro ee w2 ⟨rfl, B⟩
  clear xX10 xX11
  replace X1 := X1.below B
  replace h := h.below B
  replace HB := Lib.hid (bt HB.out B)
  clear B
  have xX10 := X1.a 0 (.bool s) rfl
  have xX11 := X1.a 1 (.slice A n c) rfl
  go_wp2
  go_ret
  exact ⟨rfl, HB.out⟩

set_option maxHeartbeats 2000000 in
theorem uFits_l {w : World} {A : Option Addr} {n c a d : Nat} {s : Bool} {t : Int} (h : Rd w A n c a) (hN : Lib.nDigits a = d) (hn : n ≤ 5) (hd : d ≤ 40) (ht : t < -400) : Calls Tryz.prog 106 #[.agg #[.bool s, .slice A n c], .int .i64 t] w (PB w false) := by
  have t1 : decide ((n : Int) ≤ 5) = true := by simp; omega
  have hds : (st (Lib.decDigits a)).size = d := by rw [st_size, Lib.decDigits_length, hN]
  have t2 : decide ((d : Int) ≤ 40) = true := by simp; omega
  have HC := Lib.hid (fun w (h : Rd w A n c a) => uDigits h (by omega))
  obtain ⟨D, hD⟩ : ∃ D, Lib.decDigits a = D := ⟨_, rfl⟩
  rw [hD] at hds HC
  clear hD hN
  have t3 : decide ((-400 : Int) ≤ t) = false := by simp; omega
  go_enter Tryz.func106, Tryz.ntmps106
  go_upto_region 1 with (fail)
  have X1 := (Bo.newAt w (g := w.heap.size) (by simp) #[.bool s, .slice A n c] 34)
  have HB := Lib.hid (bel1 w (.cells #[.bool s, .slice A n c] 34))
  replace h := h.below HB.out
  generalize hW1 : (w.alloc (.cells #[.bool s, .slice A n c] 34)) = w1 at *
  clear hW1
  have xX10 := X1.a 0 (.bool s) rfl
  have xX11 := X1.a 1 (.slice A n c) rfl
  go_wp2_with fail
  refine (HC.out _ h).mono ?_
  rintro ee w2 ⟨rfl, B⟩
  clear xX10 xX11
  replace X1 := X1.below B
  replace h := h.below B
  replace HB := Lib.hid (bt HB.out B)
  clear B
  have xX10 := X1.a 0 (.bool s) rfl
  have xX11 := X1.a 1 (.slice A n c) rfl
  go_wp2
  go_ret
  exact ⟨rfl, HB.out⟩

set_option maxHeartbeats 2000000 in
theorem uFits_g {w : World} {A : Option Addr} {n c a d : Nat} {s : Bool} {t : Int} (h : Rd w A n c a) (hN : Lib.nDigits a = d) (hn : n ≤ 5) (hd : d ≤ 40) (ht : -400 ≤ t) (hu : 400 < t) : Calls Tryz.prog 106 #[.agg #[.bool s, .slice A n c], .int .i64 t] w (PB w false) := by
  have t1 : decide ((n : Int) ≤ 5) = true := by simp; omega
  have hds : (st (Lib.decDigits a)).size = d := by rw [st_size, Lib.decDigits_length, hN]
  have t2 : decide ((d : Int) ≤ 40) = true := by simp; omega
  have HC := Lib.hid (fun w (h : Rd w A n c a) => uDigits h (by omega))
  obtain ⟨D, hD⟩ : ∃ D, Lib.decDigits a = D := ⟨_, rfl⟩
  rw [hD] at hds HC
  clear hD hN
  have t3 : decide ((-400 : Int) ≤ t) = true := by simp; omega
  have t4 : decide (t ≤ (400 : Int)) = false := by simp; omega
  go_enter Tryz.func106, Tryz.ntmps106
  go_upto_region 1 with (fail)
  have X1 := (Bo.newAt w (g := w.heap.size) (by simp) #[.bool s, .slice A n c] 34)
  have HB := Lib.hid (bel1 w (.cells #[.bool s, .slice A n c] 34))
  replace h := h.below HB.out
  generalize hW1 : (w.alloc (.cells #[.bool s, .slice A n c] 34)) = w1 at *
  clear hW1
  have xX10 := X1.a 0 (.bool s) rfl
  have xX11 := X1.a 1 (.slice A n c) rfl
  go_wp2_with fail
  refine (HC.out _ h).mono ?_
  rintro ee w2 ⟨rfl, B⟩
  clear xX10 xX11
  replace X1 := X1.below B
  replace h := h.below B
  replace HB := Lib.hid (bt HB.out B)
  clear B
  have xX10 := X1.a 0 (.bool s) rfl
  have xX11 := X1.a 1 (.slice A n c) rfl
  go_wp2
  go_ret
  exact ⟨rfl, HB.out⟩

set_option maxHeartbeats 2000000 in
theorem uFits_y {w : World} {A : Option Addr} {n c a d : Nat} {s : Bool} {t : Int} (h : Rd w A n c a) (hN : Lib.nDigits a = d) (hn : n ≤ 5) (hd : d ≤ 40) (ht : -400 ≤ t) (hu : t ≤ 400) : Calls Tryz.prog 106 #[.agg #[.bool s, .slice A n c], .int .i64 t] w (PB w true) := by
  have t1 : decide ((n : Int) ≤ 5) = true := by simp; omega
  have hds : (st (Lib.decDigits a)).size = d := by rw [st_size, Lib.decDigits_length, hN]
  have t2 : decide ((d : Int) ≤ 40) = true := by simp; omega
  have HC := Lib.hid (fun w (h : Rd w A n c a) => uDigits h (by omega))
  obtain ⟨D, hD⟩ : ∃ D, Lib.decDigits a = D := ⟨_, rfl⟩
  rw [hD] at hds HC
  clear hD hN
  have t3 : decide ((-400 : Int) ≤ t) = true := by simp; omega
  have t4 : decide (t ≤ (400 : Int)) = true := by simp; omega
  go_enter Tryz.func106, Tryz.ntmps106
  go_upto_region 1 with (fail)
  have X1 := (Bo.newAt w (g := w.heap.size) (by simp) #[.bool s, .slice A n c] 34)
  have HB := Lib.hid (bel1 w (.cells #[.bool s, .slice A n c] 34))
  replace h := h.below HB.out
  generalize hW1 : (w.alloc (.cells #[.bool s, .slice A n c] 34)) = w1 at *
  clear hW1
  have xX10 := X1.a 0 (.bool s) rfl
  have xX11 := X1.a 1 (.slice A n c) rfl
  go_wp2_with fail
  refine (HC.out _ h).mono ?_
  rintro ee w2 ⟨rfl, B⟩
  clear xX10 xX11
  replace X1 := X1.below B
  replace h := h.below B
  replace HB := Lib.hid (bt HB.out B)
  clear B
  have xX10 := X1.a 0 (.bool s) rfl
  have xX11 := X1.a 1 (.slice A n c) rfl
  go_wp2
  go_ret
  exact ⟨rfl, HB.out⟩

theorem uFits {w : World} {A : Option Addr} {n c a : Nat} {s : Bool} {t : Int} {p : Bool} (h : Rd w A n c a) (hp : fitC n a t = p) : Calls Tryz.prog 106 #[.agg #[.bool s, .slice A n c], .int .i64 t] w (PB w p) := by
  unfold fitC at hp
  by_cases h1 : n ≤ 5
  · by_cases h2 : Lib.nDigits a ≤ 40
    · by_cases h3 : -400 ≤ t
      · by_cases h4 : t ≤ 400
        · obtain rfl : p = true := by rw [← hp]; simp [h1, h2, h3, h4]
          exact uFits_y (t := t) h rfl h1 h2 h3 h4
        · obtain rfl : p = false := by rw [← hp]; simp [h4]
          exact uFits_g (t := t) h rfl h1 h2 h3 (by omega)
      · obtain rfl : p = false := by rw [← hp]; simp [h3]
        exact uFits_l (t := t) h rfl h1 h2 (by omega)
    · obtain rfl : p = false := by rw [← hp]; simp [h2]
      exact uFits_d (t := t) h rfl h1 (by omega)
  · obtain rfl : p = false := by rw [← hp]; simp [h1]
    exact uFits_n (t := t) h rfl (by omega)
theorem fit_iff {q n : Nat} {t : Int} (hn : (limbs q).length = n) : fitC n q t = (decide (q < 10 ^ 40) && (decide (-400 ≤ t) && decide (t ≤ 400))) := by
  unfold fitC
  have h1 : (n ≤ 5 ∧ Lib.nDigits q ≤ 40) ↔ q < 10 ^ 40 := by
    constructor
    · rintro ⟨_, h⟩
      have h2 := Lib.lt_pow_nDigits q
      have h3 := Nat.pow_le_pow_right (by decide : 0 < 10) h
      omega
    · intro h
      refine ⟨?_, nDig_le (k := 39) h⟩
      rw [← hn]
      exact limbs_length_le (Nat.lt_trans h ten40)
  rw [Bool.eq_iff_iff]
  simp only [Bool.and_eq_true, decide_eq_true_eq]
  rw [← h1]
  constructor
  · rintro ⟨a, b, c, d⟩; exact ⟨⟨a, b⟩, c, d⟩
  · rintro ⟨⟨a, b⟩, c, d⟩; exact ⟨a, b, c, d⟩

set_option maxHeartbeats 2000000 in
theorem uMake_zero {w : World} {A : Option Addr} {n c : Nat} {s : Bool} {t : Int} (h : Rd w A n c 0) : Calls Tryz.prog 80 #[.agg #[.bool s, .slice A n c], .int .i64 t] w (PD w ((0, 0), 0)) := by
  go_enter Tryz.func80, Tryz.ntmps80
  go_upto_region 1 with (fail)
  have X1 := (Bo.newAt w (g := w.heap.size) (by simp) #[.bool s, .slice A n c] 34).below (bel1 _ (.cells #[.bool false, .slice none 0 0, .int .i64 0] 36))
  have XR := (Bo.newAt (w.alloc (.cells #[.bool s, .slice A n c] 34)) (g := w.heap.size + 1) (by simp) #[.bool false, .slice none 0 0, .int .i64 0] 36)
  have HB := Lib.hid (bel2 w (.cells #[.bool s, .slice A n c] 34) (.cells #[.bool false, .slice none 0 0, .int .i64 0] 36))
  replace h := h.below HB.out
  generalize hW1 : ((w.alloc (.cells #[.bool s, .slice A n c] 34)).alloc (.cells #[.bool false, .slice none 0 0, .int .i64 0] 36)) = w1 at *
  clear hW1
  have xX10 := X1.a 0 (.bool s) rfl
  have xX11 := X1.a 1 (.slice A n c) rfl
  go_wp2_with fail
  refine (qMake s h).mono ?_
  rintro ee w2 ⟨s3, A3, n3, c3, rfl, h3, k3, B⟩
  clear xX10 xX11
  replace X1 := X1.below B
  replace XR := XR.below B
  replace h := h.below B
  replace HB := Lib.hid (bt HB.out B)
  clear B
  have g6 := XR.lt
  go_upto_region 2 with (fail)
  replace X1 := X1.below (bel1 _ (.cells #[.bool s3, .slice A3 n3 c3] 34))
  replace XR := XR.below (bel1 _ (.cells #[.bool s3, .slice A3 n3 c3] 34))
  replace h3 := h3.below (bel1 _ (.cells #[.bool s3, .slice A3 n3 c3] 34))
  replace HB := Lib.hid (bt HB.out (bel1 _ (.cells #[.bool s3, .slice A3 n3 c3] 34)))
  have X6 := Bo.new w2 #[.bool s3, .slice A3 n3 c3] 34
  generalize hWn : w2.alloc (.cells #[.bool s3, .slice A3 n3 c3] 34) = w3 at *
  clear hWn
  obtain rfl : n3 = 0 := by have := h3.1.pos; rw [sg_natAbs] at this; omega
  have xX60 := X6.a 0 (.bool s3) rfl
  have xX61 := X6.a 1 (.slice A3 0 c3) rfl
  have xXR0 := XR.a 0 (.bool false) rfl
  have zXR0 := XR.frozen 0
  have xXR1 := XR.a 1 (.slice none 0 0) rfl
  have zXR1 := XR.frozen 1
  have xXR2 := XR.a 2 (.int .i64 0) rfl
  have zXR2 := XR.frozen 2
  go_wp2
  clear xX60 xX61 xXR0 zXR0 xXR1 zXR1 xXR2 zXR2
  have SX := StN.mk3 XR (.bool false) (.slice none 0 0) (.int .i64 0)
  replace X1 := X1.stn SX (by omega)
  replace X6 := X6.stn SX (by omega)
  replace h3 := h3.stn SX (by simp [no32])
  replace HB := Lib.hid (SX.below HB.out (by omega))
  replace XR := SX.box
  clear SX
  generalize (World.setCell (World.setCell (World.setCell w3 ⟨w.heap.size + 1, 0, none⟩ (.bool false)) ⟨w.heap.size + 1, 1, none⟩ (.slice none 0 0)) ⟨w.heap.size + 1, 2, none⟩ (.int .i64 0)) = w4 at *
  go_wp2
  have r0 := XR.cell 0
  have r1 := XR.cell 1
  have r2 := XR.cell 2
  exact bodyPost_ret (v := .tuple #[.agg #[.bool false, .slice none 0 0, .int .i64 0], .int .i64 0]) (by simp [results, Tryz.results80, go_sem, r0, r1, r2]) rfl ⟨false, none, 0, 0, rfl, Wn.zero, by omega, HB.out⟩

set_option maxHeartbeats 2000000 in
theorem uMake_far {w : World} {A : Option Addr} {n c a : Nat} {s : Bool} {t : Int} (h : Rd w A n c a) (ha : a ≠ 0) (ht : 1000000 < t ∨ t < -1000000) : Calls Tryz.prog 80 #[.agg #[.bool s, .slice A n c], .int .i64 t] w (PD w ((0, 0), 1)) := by
  by_cases h1 : 1000000 < t
  · have t1 : decide ((1000000 : Int) < t) = true := by simpa using h1
    clear ht h1
    go_enter Tryz.func80, Tryz.ntmps80
    go_upto_region 1 with (fail)
    have X1 := (Bo.newAt w (g := w.heap.size) (by simp) #[.bool s, .slice A n c] 34).below (bel1 _ (.cells #[.bool false, .slice none 0 0, .int .i64 0] 36))
    have XR := (Bo.newAt (w.alloc (.cells #[.bool s, .slice A n c] 34)) (g := w.heap.size + 1) (by simp) #[.bool false, .slice none 0 0, .int .i64 0] 36)
    have HB := Lib.hid (bel2 w (.cells #[.bool s, .slice A n c] 34) (.cells #[.bool false, .slice none 0 0, .int .i64 0] 36))
    replace h := h.below HB.out
    generalize hW1 : ((w.alloc (.cells #[.bool s, .slice A n c] 34)).alloc (.cells #[.bool false, .slice none 0 0, .int .i64 0] 36)) = w1 at *
    clear hW1
    have xX10 := X1.a 0 (.bool s) rfl
    have xX11 := X1.a 1 (.slice A n c) rfl
    go_wp2_with fail
    refine (qMake s h).mono ?_
    rintro ee w2 ⟨s3, A3, n3, c3, rfl, h3, k3, B⟩
    clear xX10 xX11
    replace X1 := X1.below B
    replace XR := XR.below B
    replace h := h.below B
    replace HB := Lib.hid (bt HB.out B)
    clear B
    have g6 := XR.lt
    go_upto_region 2 with (fail)
    replace X1 := X1.below (bel1 _ (.cells #[.bool s3, .slice A3 n3 c3] 34))
    replace XR := XR.below (bel1 _ (.cells #[.bool s3, .slice A3 n3 c3] 34))
    replace h3 := h3.below (bel1 _ (.cells #[.bool s3, .slice A3 n3 c3] 34))
    replace HB := Lib.hid (bt HB.out (bel1 _ (.cells #[.bool s3, .slice A3 n3 c3] 34)))
    have X6 := Bo.new w2 #[.bool s3, .slice A3 n3 c3] 34
    generalize hWn : w2.alloc (.cells #[.bool s3, .slice A3 n3 c3] 34) = w3 at *
    clear hWn
    have hp : 0 < n3 := by have := h3.1.pos; rw [sg_natAbs] at this; omega
    have tz : ((n3 : Int) == 0) = false := by simp; omega
    have xX60 := X6.a 0 (.bool s3) rfl
    have xX61 := X6.a 1 (.slice A3 n3 c3) rfl
    have xXR0 := XR.a 0 (.bool false) rfl
    have zXR0 := XR.frozen 0
    have xXR1 := XR.a 1 (.slice none 0 0) rfl
    have zXR1 := XR.frozen 1
    have xXR2 := XR.a 2 (.int .i64 0) rfl
    have zXR2 := XR.frozen 2
    go_wp2
    clear xX60 xX61 xXR0 zXR0 xXR1 zXR1 xXR2 zXR2
    have SX := StN.mk3 XR (.bool false) (.slice none 0 0) (.int .i64 0)
    replace X1 := X1.stn SX (by omega)
    replace X6 := X6.stn SX (by omega)
    replace h3 := h3.stn SX (by simp [no32])
    replace HB := Lib.hid (SX.below HB.out (by omega))
    replace XR := SX.box
    clear SX
    generalize (World.setCell (World.setCell (World.setCell w3 ⟨w.heap.size + 1, 0, none⟩ (.bool false)) ⟨w.heap.size + 1, 1, none⟩ (.slice none 0 0)) ⟨w.heap.size + 1, 2, none⟩ (.int .i64 0)) = w4 at *
    go_wp2
    have r0 := XR.cell 0
    have r1 := XR.cell 1
    have r2 := XR.cell 2
    exact bodyPost_ret (v := .tuple #[.agg #[.bool false, .slice none 0 0, .int .i64 0], .int .i64 1]) (by simp [results, Tryz.results80, go_sem, r0, r1, r2]) rfl ⟨false, none, 0, 0, rfl, Wn.zero, by omega, HB.out⟩
  · have t1 : decide ((1000000 : Int) < t) = false := by simpa using h1
    have t2 : decide (t < (-1000000 : Int)) = true := by simp; omega
    clear ht h1
    go_enter Tryz.func80, Tryz.ntmps80
    go_upto_region 1 with (fail)
    have X1 := (Bo.newAt w (g := w.heap.size) (by simp) #[.bool s, .slice A n c] 34).below (bel1 _ (.cells #[.bool false, .slice none 0 0, .int .i64 0] 36))
    have XR := (Bo.newAt (w.alloc (.cells #[.bool s, .slice A n c] 34)) (g := w.heap.size + 1) (by simp) #[.bool false, .slice none 0 0, .int .i64 0] 36)
    have HB := Lib.hid (bel2 w (.cells #[.bool s, .slice A n c] 34) (.cells #[.bool false, .slice none 0 0, .int .i64 0] 36))
    replace h := h.below HB.out
    generalize hW1 : ((w.alloc (.cells #[.bool s, .slice A n c] 34)).alloc (.cells #[.bool false, .slice none 0 0, .int .i64 0] 36)) = w1 at *
    clear hW1
    have xX10 := X1.a 0 (.bool s) rfl
    have xX11 := X1.a 1 (.slice A n c) rfl
    go_wp2_with fail
    refine (qMake s h).mono ?_
    rintro ee w2 ⟨s3, A3, n3, c3, rfl, h3, k3, B⟩
    clear xX10 xX11
    replace X1 := X1.below B
    replace XR := XR.below B
    replace h := h.below B
    replace HB := Lib.hid (bt HB.out B)
    clear B
    have g6 := XR.lt
    go_upto_region 2 with (fail)
    replace X1 := X1.below (bel1 _ (.cells #[.bool s3, .slice A3 n3 c3] 34))
    replace XR := XR.below (bel1 _ (.cells #[.bool s3, .slice A3 n3 c3] 34))
    replace h3 := h3.below (bel1 _ (.cells #[.bool s3, .slice A3 n3 c3] 34))
    replace HB := Lib.hid (bt HB.out (bel1 _ (.cells #[.bool s3, .slice A3 n3 c3] 34)))
    have X6 := Bo.new w2 #[.bool s3, .slice A3 n3 c3] 34
    generalize hWn : w2.alloc (.cells #[.bool s3, .slice A3 n3 c3] 34) = w3 at *
    clear hWn
    have hp : 0 < n3 := by have := h3.1.pos; rw [sg_natAbs] at this; omega
    have tz : ((n3 : Int) == 0) = false := by simp; omega
    have xX60 := X6.a 0 (.bool s3) rfl
    have xX61 := X6.a 1 (.slice A3 n3 c3) rfl
    have xXR0 := XR.a 0 (.bool false) rfl
    have zXR0 := XR.frozen 0
    have xXR1 := XR.a 1 (.slice none 0 0) rfl
    have zXR1 := XR.frozen 1
    have xXR2 := XR.a 2 (.int .i64 0) rfl
    have zXR2 := XR.frozen 2
    go_wp2
    clear xX60 xX61 xXR0 zXR0 xXR1 zXR1 xXR2 zXR2
    have SX := StN.mk3 XR (.bool false) (.slice none 0 0) (.int .i64 0)
    replace X1 := X1.stn SX (by omega)
    replace X6 := X6.stn SX (by omega)
    replace h3 := h3.stn SX (by simp [no32])
    replace HB := Lib.hid (SX.below HB.out (by omega))
    replace XR := SX.box
    clear SX
    generalize (World.setCell (World.setCell (World.setCell w3 ⟨w.heap.size + 1, 0, none⟩ (.bool false)) ⟨w.heap.size + 1, 1, none⟩ (.slice none 0 0)) ⟨w.heap.size + 1, 2, none⟩ (.int .i64 0)) = w4 at *
    go_wp2
    have r0 := XR.cell 0
    have r1 := XR.cell 1
    have r2 := XR.cell 2
    exact bodyPost_ret (v := .tuple #[.agg #[.bool false, .slice none 0 0, .int .i64 0], .int .i64 1]) (by simp [results, Tryz.results80, go_sem, r0, r1, r2]) rfl ⟨false, none, 0, 0, rfl, Wn.zero, by omega, HB.out⟩

def UMk (w : World) (g a k : Nat) (s : Bool) (t : Int) (u : Value) (wr : World) : Prop :=
  ∃ A n c q, u = .int .i64 (t + (k : Int)) ∧ Bo wr g #[.bool s, .slice A n c] 34 ∧ Bo wr (w.heap.size + 1) #[.bool false, .slice none 0 0, .int .i64 0] 36 ∧ Nm wr A n c q ∧ n ≤ 100000 ∧ a = q * 10 ^ k ∧ q ≠ 0 ∧ Below w.heap.size w wr

set_option maxHeartbeats 4000000 in
theorem uMake_main {w : World} {A : Option Addr} {n c a : Nat} {s : Bool} {t : Int} {r : (Int × Int) × Int} (h : Rd w A n c a) (ha : a ≠ 0) (hn : n ≤ 10000) (ht1 : -1000000 ≤ t) (ht2 : t ≤ 1000000)
    (HR : ∀ q k : Nat, a = q * 10 ^ k → q % 10 ≠ 0 → r = if fitC (limbs q).length q (t + k) then ((sg s q, t + k), 0) else ((0, 0), 1)) (HK : ∀ q k : Nat, a = q * 10 ^ k → k ≤ 10 * n + 1) : Calls Tryz.prog 80 #[.agg #[.bool s, .slice A n c], .int .i64 t] w (PD w r) := by
  have t1 : decide ((1000000 : Int) < t) = false := by simpa using ht2
  have t2 : decide (t < (-1000000 : Int)) = false := by simpa using ht1
  have HRR := Lib.hid HR
  have HKK := Lib.hid HK
  clear HR HK
  go_enter Tryz.func80, Tryz.ntmps80
  go_upto_region 1 with (fail)
  have X1 := (Bo.newAt w (g := w.heap.size) (by simp) #[.bool s, .slice A n c] 34).below (bel1 _ (.cells #[.bool false, .slice none 0 0, .int .i64 0] 36))
  have XR := (Bo.newAt (w.alloc (.cells #[.bool s, .slice A n c] 34)) (g := w.heap.size + 1) (by simp) #[.bool false, .slice none 0 0, .int .i64 0] 36)
  have HB := Lib.hid (bel2 w (.cells #[.bool s, .slice A n c] 34) (.cells #[.bool false, .slice none 0 0, .int .i64 0] 36))
  replace h := h.below HB.out
  generalize hW1 : ((w.alloc (.cells #[.bool s, .slice A n c] 34)).alloc (.cells #[.bool false, .slice none 0 0, .int .i64 0] 36)) = w1 at *
  clear hW1
  have xX10 := X1.a 0 (.bool s) rfl
  have xX11 := X1.a 1 (.slice A n c) rfl
  go_wp2_with fail
  refine (qMake s h).mono ?_
  rintro ee w2 ⟨s3, A3, n3, c3, rfl, h3, k3, B⟩
  clear xX10 xX11
  replace X1 := X1.below B
  replace XR := XR.below B
  replace h := h.below B
  replace HB := Lib.hid (bt HB.out B)
  clear B
  have g6 := XR.lt
  go_upto_region 2 with (fail)
  replace X1 := X1.below (bel1 _ (.cells #[.bool s3, .slice A3 n3 c3] 34))
  replace XR := XR.below (bel1 _ (.cells #[.bool s3, .slice A3 n3 c3] 34))
  replace h3 := h3.below (bel1 _ (.cells #[.bool s3, .slice A3 n3 c3] 34))
  replace HB := Lib.hid (bt HB.out (bel1 _ (.cells #[.bool s3, .slice A3 n3 c3] 34)))
  have X6 := Bo.new w2 #[.bool s3, .slice A3 n3 c3] 34
  generalize hWn : w2.alloc (.cells #[.bool s3, .slice A3 n3 c3] 34) = w3 at *
  clear hWn
  have hp : 0 < n3 := by have := h3.1.pos; rw [sg_natAbs] at this; omega
  have tz : ((n3 : Int) == 0) = false := by simp; omega
  obtain rfl : s3 = s := by
    have := h3.2
    rw [sg_lt] at this
    rw [this]
    simp; omega
  have h4 := h3.1
  rw [sg_natAbs] at h4
  have g7 := X6.lt
  clear h3
  have xX60 := X6.a 0 (.bool s3) rfl
  have xX61 := X6.a 1 (.slice A3 n3 c3) rfl
  go_wp2
  clear xX60 xX61
  generalize w2.heap.size = g at *
  have HI0 := Lib.hid (show UMk w g a 0 s3 t (.int .i64 t) w3 from ⟨A3, n3, c3, a, by simp, X6, XR, h4, by omega, by simp, ha, HB.out⟩)
  clear X1 X6 XR h4 HB g7
  go_loopw [1, 7, 8, 9] (fun u _ _ _ wr => ∃ k : Nat, UMk w g a k s3 t u wr) (fun u _ _ _ _ => 10 * n + 2 - ((intOf u) - t).toNat)
  case atStart => exact ⟨0, HI0.out⟩
  case round =>
    obtain ⟨k, A4, n4, c4, q, rfl, X6, XR, h4, hn4, e4, hq, hB⟩ := hrel
    have hk := HKK.out q k e4
    have HB := Lib.hid hB
    have HE := Lib.hid e4
    clear hB e4 HI0
    go_wp2
    refine Jo.region_joint (T := [0, 1, 2, 3, 4, 5, 6, 7, 8, 9, 10]) (ds := [some 29, some 30, some 31, some 32, some 28, some 33, some 34, some 35, some 7, some 8, some 9]) (ls := [[], [0], [], [1, 2], [3], [4], [4], [4], [5], [6], [7]]) (k := 11) (L := [(some 29, 0), (some 30, 1), (some 31, 2), (some 32, 3), (some 28, 4), (some 33, 5), (some 34, 6), (some 35, 7), (some 7, 8), (some 8, 9), (some 9, 10)]) (fuel := 0) (J := fun wj => Below (World.heap wr).size wr wj)
      (F := [Jo.Fact.eq (.pointer (some ⟨g, 1, none⟩)), Jo.Fact.eq (.slice A4 n4 c4), Jo.Fact.nm 10 1, Jo.Fact.qr (q / 10) (q % 10) 100000, Jo.Fact.qr (q / 10) (q % 10) 100000, Jo.Fact.nm (q / 10) 100000, Jo.Fact.nm (q % 10) 1099511627776, Jo.Fact.eq (.bool true), Jo.Fact.nm (q / 10) 100000, Jo.Fact.nm (q % 10) 1099511627776, Jo.Fact.eq (.bool true)])
      (by kernel_rfl) (by kernel_rfl) (by decide) rfl rfl (fun _ _ h b => bt h b) ((Below.refl _ _).drew) ?_ (fun vs w4 hJ hd => ?_)
    · refine Jo.jd 0 (some 29) [] (Jo.Fact.eq (.pointer (some ⟨g, 1, none⟩))) rfl rfl rfl rfl (fun vs wj hJ hd K hK => ?_) ?_
      · simp only [Jo.putl, Jo.ze, Act.put, Jo.za, Jo.zb, Jo.zc] at hK ⊢
        clear hd
        go_simp
        exact hK.out _ _ rfl (Below.refl _ _)
      refine Jo.jd 1 (some 30) [(some 29, 0)] (Jo.Fact.eq (.slice A4 n4 c4)) rfl rfl rfl rfl (fun vs wj hJ hd K hK => ?_) ?_
      · simp only [Jo.putl, Jo.zd, Jo.ze, Act.put, Jo.za, Jo.zb, Jo.zc] at hK ⊢
        rw [show vs 0 = _ from hd 0 (by decide)] at hK ⊢
        clear hd
        have xX61 := (X6.below hJ).a 1 (.slice A4 n4 c4) rfl
        go_simp
        exact hK.out _ _ rfl (Below.refl _ _)
      refine Jo.jd 2 (some 31) [] (Jo.Fact.nm 10 1) rfl rfl rfl rfl (fun vs wj hJ hd K hK => ?_) ?_
      · simp only [Jo.putl, Jo.ze, Act.put, Jo.za, Jo.zb, Jo.zc] at hK ⊢
        clear hd
        go_simp
        refine (uTen _).mono ?_
        rintro ee wk ⟨A5, n5, c5, rfl, h5, k5, B⟩
        exact hK.out _ _ ⟨_, _, _, rfl, h5, k5⟩ B
      refine Jo.jd 3 (some 32) [(some 30, 1), (some 31, 2)] (Jo.Fact.qr (q / 10) (q % 10) 100000) rfl rfl rfl rfl (fun vs wj hJ hd K hK => ?_) ?_
      · have d2 : (Jo.Fact.nm 10 1).P (vs 2) wj := hd 2 (by decide)
        simp only [Jo.putl, Jo.zd, Jo.ze, Act.put, Jo.za, Jo.zb, Jo.zc] at hK ⊢
        rw [show vs 1 = _ from hd 1 (by decide)] at hK ⊢
        clear hd
        generalize vs 2 = u2 at hK d2 ⊢
        obtain ⟨A5, n5, c5, rfl, h5, k5⟩ := d2
        go_simp
        refine (rDiv (h4.rd.below hJ) h5.rd (by omega) (by omega) (by decide)).mono ?_
        rintro ee wk ⟨A6, n6, c6, A7, n7, c7, rfl, h6, h7, k6, k7, B⟩
        exact hK.out _ _ ⟨_, _, _, _, _, _, rfl, h6, h7, by omega⟩ B
      refine Jo.jd 4 (some 28) [(some 32, 3)] (Jo.Fact.qr (q / 10) (q % 10) 100000) rfl rfl rfl rfl (fun vs wj hJ hd K hK => ?_) ?_
      · have d3 : (Jo.Fact.qr (q / 10) (q % 10) 100000).P (vs 3) wj := hd 3 (by decide)
        simp only [Jo.putl, Jo.zd, Jo.ze, Act.put, Jo.za, Jo.zb, Jo.zc] at hK ⊢
        clear hd
        generalize vs 3 = u3 at hK d3 ⊢
        obtain ⟨A6, n6, c6, A7, n7, c7, rfl, h6, h7, k6⟩ := d3
        go_simp
        exact hK.out _ _ ⟨_, _, _, _, _, _, rfl, h6, h7, k6⟩ (Below.refl _ _)
      refine Jo.jd 5 (some 33) [(some 28, 4)] (Jo.Fact.nm (q / 10) 100000) rfl rfl rfl rfl (fun vs wj hJ hd K hK => ?_) ?_
      · have d4 : (Jo.Fact.qr (q / 10) (q % 10) 100000).P (vs 4) wj := hd 4 (by decide)
        simp only [Jo.putl, Jo.zd, Jo.ze, Act.put, Jo.za, Jo.zb, Jo.zc] at hK ⊢
        clear hd
        generalize vs 4 = u4 at hK d4 ⊢
        obtain ⟨A8, n8, c8, A9, n9, c9, rfl, h8, h9, k8⟩ := d4
        go_simp
        exact hK.out _ _ ⟨_, _, _, rfl, h8, k8⟩ (Below.refl _ _)
      refine Jo.jd 6 (some 34) [(some 28, 4)] (Jo.Fact.nm (q % 10) 1099511627776) rfl rfl rfl rfl (fun vs wj hJ hd K hK => ?_) ?_
      · have d4 : (Jo.Fact.qr (q / 10) (q % 10) 100000).P (vs 4) wj := hd 4 (by decide)
        simp only [Jo.putl, Jo.zd, Jo.ze, Act.put, Jo.za, Jo.zb, Jo.zc] at hK ⊢
        clear hd
        generalize vs 4 = u4 at hK d4 ⊢
        obtain ⟨A8, n8, c8, A9, n9, c9, rfl, h8, h9, k8⟩ := d4
        go_simp
        exact hK.out _ _ ⟨_, _, _, rfl, h9, by have := h9.rd.big; omega⟩ (Below.refl _ _)
      refine Jo.jd 7 (some 35) [(some 28, 4)] (Jo.Fact.eq (.bool true)) rfl rfl rfl rfl (fun vs wj hJ hd K hK => ?_) ?_
      · have d4 : (Jo.Fact.qr (q / 10) (q % 10) 100000).P (vs 4) wj := hd 4 (by decide)
        simp only [Jo.putl, Jo.zd, Jo.ze, Act.put, Jo.za, Jo.zb, Jo.zc] at hK ⊢
        clear hd
        generalize vs 4 = u4 at hK d4 ⊢
        obtain ⟨A8, n8, c8, A9, n9, c9, rfl, h8, h9, k8⟩ := d4
        go_simp
        exact hK.out _ _ rfl (Below.refl _ _)
      refine Jo.jd 8 (some 7) [(some 33, 5)] (Jo.Fact.nm (q / 10) 100000) rfl rfl rfl rfl (fun vs wj hJ hd K hK => ?_) ?_
      · have d5 : (Jo.Fact.nm (q / 10) 100000).P (vs 5) wj := hd 5 (by decide)
        simp only [Jo.putl, Jo.zd, Jo.ze, Act.put, Jo.za, Jo.zb, Jo.zc] at hK ⊢
        clear hd
        generalize vs 5 = u5 at hK d5 ⊢
        obtain ⟨A10, n10, c10, rfl, h10, k10⟩ := d5
        go_simp
        exact hK.out _ _ ⟨_, _, _, rfl, h10, k10⟩ (Below.refl _ _)
      refine Jo.jd 9 (some 8) [(some 34, 6)] (Jo.Fact.nm (q % 10) 1099511627776) rfl rfl rfl rfl (fun vs wj hJ hd K hK => ?_) ?_
      · have d6 : (Jo.Fact.nm (q % 10) 1099511627776).P (vs 6) wj := hd 6 (by decide)
        simp only [Jo.putl, Jo.zd, Jo.ze, Act.put, Jo.za, Jo.zb, Jo.zc] at hK ⊢
        clear hd
        generalize vs 6 = u6 at hK d6 ⊢
        obtain ⟨A11, n11, c11, rfl, h11, k11⟩ := d6
        go_simp
        exact hK.out _ _ ⟨_, _, _, rfl, h11, k11⟩ (Below.refl _ _)
      refine Jo.jd 10 (some 9) [(some 35, 7)] (Jo.Fact.eq (.bool true)) rfl rfl rfl rfl (fun vs wj hJ hd K hK => ?_) ?_
      · simp only [Jo.putl, Jo.zd, Jo.ze, Act.put, Jo.za, Jo.zb, Jo.zc] at hK ⊢
        rw [show vs 7 = _ from hd 7 (by decide)] at hK ⊢
        clear hd
        go_simp
        exact hK.out _ _ rfl (Below.refl _ _)
      exact Jo.Steps.nil
    have d2 : (Jo.Fact.nm 10 1).P (vs 2) w4 := hd 2 (by decide)
    have d3 : (Jo.Fact.qr (q / 10) (q % 10) 100000).P (vs 3) w4 := hd 3 (by decide)
    have d4 : (Jo.Fact.qr (q / 10) (q % 10) 100000).P (vs 4) w4 := hd 4 (by decide)
    have d5 : (Jo.Fact.nm (q / 10) 100000).P (vs 5) w4 := hd 5 (by decide)
    have d6 : (Jo.Fact.nm (q % 10) 1099511627776).P (vs 6) w4 := hd 6 (by decide)
    have d8 : (Jo.Fact.nm (q / 10) 100000).P (vs 8) w4 := hd 8 (by decide)
    have d9 : (Jo.Fact.nm (q % 10) 1099511627776).P (vs 9) w4 := hd 9 (by decide)
    simp only [Jo.putl, Jo.zd, Jo.ze, Act.put, Jo.za, Jo.zb, Jo.zc]
    rw [show vs 1 = _ from hd 1 (by decide), show vs 7 = _ from hd 7 (by decide), show vs 10 = _ from hd 10 (by decide)]
    clear hd
    generalize vs 2 = u2 at d2 ⊢
    generalize vs 3 = u3 at d3 ⊢
    generalize vs 4 = u4 at d4 ⊢
    generalize vs 5 = u5 at d5 ⊢
    generalize vs 6 = u6 at d6 ⊢
    generalize vs 8 = u8 at d8 ⊢
    generalize vs 9 = u9 at d9 ⊢
    obtain ⟨A5, n5, c5, rfl, _, _⟩ := d2
    obtain ⟨A6, n6, c6, A7, n7, c7, rfl, _, _, _⟩ := d3
    obtain ⟨A8, n8, c8, A9, n9, c9, rfl, _, _, _⟩ := d4
    obtain ⟨A10, n10, c10, rfl, _, _⟩ := d5
    obtain ⟨A11, n11, c11, rfl, _, _⟩ := d6
    obtain ⟨A12, n12, c12, rfl, h12, k12⟩ := d8
    obtain ⟨A13, n13, c13, rfl, h13, k13⟩ := d9
    replace X6 := X6.below hJ
    replace XR := XR.below hJ
    replace h4 := h4.below hJ
    replace HB := Lib.hid (bt HB.out hJ)
    refine Jo.jdone (by kernel_rfl) ?_
    have hpos := h13.pos
    have HB4 := HB
    by_cases hq10 : q % 10 = 0
    · obtain rfl : n13 = 0 := by omega
      have hq2 : q / 10 ≠ 0 := by omega
      have HE2 := Lib.hid (show a = q / 10 * 10 ^ (k + 1) by
        have h1 := div_mul' hq10
        rw [HE.out, Nat.pow_succ, Nat.mul_comm (10 ^ k), ← Nat.mul_assoc, ← h1])
      have hwr : IntKind.i64.wrap (t + (k : Int) + 1) = t + (k : Int) + 1 := wrap_in (by omega) (by omega)
      clear hpos h13 HE hq10
      have xX60 := X6.a 0 (.bool s3) rfl
      have zX60 := X6.frozen 0
      have xX61 := X6.a 1 (.slice A4 n4 c4) rfl
      have zX61 := X6.frozen 1
      go_wp2
      clear xX60 zX60 xX61 zX61
      have SX := StN.mk2 X6 (.bool s3) (.slice A12 n12 c12)
      replace XR := XR.stn SX (by omega)
      replace h4 := h4.stn SX (by simp [no32])
      replace h12 := h12.stn SX (by simp [no32])
      replace HB := Lib.hid (SX.below HB.out (by omega))
      replace X6 := SX.box
      clear SX
      generalize (World.setCell (World.setCell w4 ⟨g, 0, none⟩ (.bool s3)) ⟨g, 1, none⟩ (.slice A12 n12 c12)) = w5 at *
      have HI := Lib.hid (show UMk w g a (k + 1) s3 t (.int .i64 (t + (k : Int) + 1)) w5 from ⟨A12, n12, c12, q / 10, by congr 1; omega, X6, XR, h12, k12, HE2.out, hq2, HB.out⟩)
      clear X6 XR h4 h12 HB HB4
      go_roundw
      case rel => exact ⟨k + 1, HI.out⟩
      case measure => simp [intOf]; omega
    · have hn13 : 0 < n13 := by omega
      have hr := HRR.out q k HE.out hq10
      have hlq := h4.len
      rw [hlq] at hr
      have HQ := Lib.hid hq10
      clear hpos h13 HE hq10
      cases hf : fitC n4 q (t + (k : Int))
      · rw [hf] at hr
        rw [if_neg (by decide)] at hr
        subst hr
        have HF := Lib.hid hf
        clear hf
        have xX60 := X6.a 0 (.bool s3) rfl
        have xX61 := X6.a 1 (.slice A4 n4 c4) rfl
        go_wp2_with fail
        refine (uFits h4.rd HF.out).mono ?_
        rintro ee w5 ⟨rfl, B⟩
        clear xX60 xX61
        replace X6 := X6.below B
        replace XR := XR.below B
        replace h4 := h4.below B
        replace HB := Lib.hid (bt HB.out B)
        clear B
        have xXR0 := XR.a 0 (.bool false) rfl
        have zXR0 := XR.frozen 0
        have xXR1 := XR.a 1 (.slice none 0 0) rfl
        have zXR1 := XR.frozen 1
        have xXR2 := XR.a 2 (.int .i64 0) rfl
        have zXR2 := XR.frozen 2
        go_wp2
        clear xXR0 zXR0 xXR1 zXR1 xXR2 zXR2
        have SX := StN.mk3 XR (.bool false) (.slice none 0 0) (.int .i64 0)
        replace X6 := X6.stn SX (by omega)
        replace h4 := h4.stn SX (by simp [no32])
        replace HB := Lib.hid (SX.below HB.out (by omega))
        replace XR := SX.box
        clear SX
        generalize (World.setCell (World.setCell (World.setCell w5 ⟨w.heap.size + 1, 0, none⟩ (.bool false)) ⟨w.heap.size + 1, 1, none⟩ (.slice none 0 0)) ⟨w.heap.size + 1, 2, none⟩ (.int .i64 0)) = w6 at *
        go_wp2
        have r0 := XR.cell 0
        have r1 := XR.cell 1
        have r2 := XR.cell 2
        exact bodyPost_ret (v := .tuple #[.agg #[.bool false, .slice none 0 0, .int .i64 0], .int .i64 1]) (by simp [results, Tryz.results80, go_sem, r0, r1, r2]) rfl ⟨false, none, 0, 0, rfl, Wn.zero, by omega, HB.out⟩
      · rw [hf] at hr
        rw [if_pos rfl] at hr
        subst hr
        have HF := Lib.hid hf
        clear hf
        have xX60 := X6.a 0 (.bool s3) rfl
        have xX61 := X6.a 1 (.slice A4 n4 c4) rfl
        go_wp2_with fail
        refine (uFits h4.rd HF.out).mono ?_
        rintro ee w5 ⟨rfl, B⟩
        clear xX60 xX61
        replace X6 := X6.below B
        replace XR := XR.below B
        replace h4 := h4.below B
        replace HB := Lib.hid (bt HB.out B)
        clear B
        have xX60 := X6.a 0 (.bool s3) rfl
        have xX61 := X6.a 1 (.slice A4 n4 c4) rfl
        have xXR0 := XR.a 0 (.bool false) rfl
        have zXR0 := XR.frozen 0
        have xXR1 := XR.a 1 (.slice none 0 0) rfl
        have zXR1 := XR.frozen 1
        have xXR2 := XR.a 2 (.int .i64 0) rfl
        have zXR2 := XR.frozen 2
        go_wp2
        clear xX60 xX61 xXR0 zXR0 xXR1 zXR1 xXR2 zXR2
        have SX := StN.mk3 XR (.bool s3) (.slice A4 n4 c4) (.int .i64 (t + (k : Int)))
        replace X6 := X6.stn SX (by omega)
        replace h4 := h4.stn SX (by simp [no32])
        replace HB := Lib.hid (SX.below HB.out (by omega))
        replace XR := SX.box
        clear SX
        generalize (World.setCell (World.setCell (World.setCell w5 ⟨w.heap.size + 1, 0, none⟩ (.bool s3)) ⟨w.heap.size + 1, 1, none⟩ (.slice A4 n4 c4)) ⟨w.heap.size + 1, 2, none⟩ (.int .i64 (t + (k : Int)))) = w6 at *
        have hW := h4.wn s3
        have h04 : 0 < n4 := h4.pos.2 (by omega)
        rw [show (s3 && decide (0 < n4)) = s3 by simp [h04]] at hW
        have h54 : n4 ≤ 5 := by
          have := HF.out
          unfold fitC at this
          simp only [Bool.and_eq_true, decide_eq_true_eq] at this
          exact this.1
        go_wp2
        have r0 := XR.cell 0
        have r1 := XR.cell 1
        have r2 := XR.cell 2
        exact bodyPost_ret (v := .tuple #[.agg #[.bool s3, .slice A4 n4 c4, .int .i64 (t + (k : Int))], .int .i64 0]) (by simp [results, Tryz.results80, go_sem, r0, r1, r2]) rfl ⟨s3, A4, n4, c4, rfl, hW, h54, HB.out⟩

theorem a_ten {a n : Nat} (h : a < 4294967296 ^ n) : a < 10 ^ (10 * n + 1) := by
  have h1 : 4294967296 ^ n ≤ (10 ^ 10) ^ n := Nat.pow_le_pow_left (by decide) n
  rw [← Nat.pow_mul] at h1
  have h2 : 10 ^ (10 * n) ≤ 10 ^ (10 * n + 1) := Nat.pow_le_pow_right (by decide) (by omega)
  omega
theorem uMake {w : World} {A : Option Addr} {n c a : Nat} {s : Bool} {z t : Int} {r : (Int × Int) × Int} (h : Rd w A n c a) (hn : n ≤ 1000) (hz : sg s a = z) (hr : mkA z t = r) : Calls Tryz.prog 80 #[.agg #[.bool s, .slice A n c], .int .i64 t] w (PD w r) := by
  subst hr; subst hz
  by_cases ha : a = 0
  · subst ha
    rw [sg_zero]
    exact uMake_zero h
  · obtain ⟨hu, hv⟩ := u10_spec a ha
    have hA := mkA_of (s := s) (t := t) hu hv
    have hk := v10_lt a ha _ (a_ten h.bound)
    by_cases ht : 1000000 < t ∨ t < -1000000
    · rw [if_neg (by omega)] at hA
      rw [hA]
      exact uMake_far h ha ht
    · refine uMake_main h ha (by omega) (by omega) (by omega) (fun q k e m => ?_) (fun q k e => ?_)
      · rw [mkA_of e m]
        rw [fit_iff rfl]
        by_cases hc : q < 10 ^ 40 ∧ -400 ≤ t + (k : Int) ∧ t + (k : Int) ≤ 400
        · rw [if_pos hc, if_pos (by simp only [Bool.and_eq_true, decide_eq_true_eq]; exact hc)]
        · rw [if_neg hc, if_neg (by simp only [Bool.and_eq_true, decide_eq_true_eq]; exact hc)]
      · have hq : q ≠ 0 := by rintro rfl; simp at e; exact ha e
        have hb := a_ten h.bound
        have h1 : 1 * 10 ^ k ≤ q * 10 ^ k := Nat.mul_le_mul_right _ (by omega)
        exact Nat.le_of_lt ((Nat.pow_lt_pow_iff_right (by decide : 1 < 10)).1 (by omega))
end Go.Proofs.YtpmakljahhhnfaaGreatDoor

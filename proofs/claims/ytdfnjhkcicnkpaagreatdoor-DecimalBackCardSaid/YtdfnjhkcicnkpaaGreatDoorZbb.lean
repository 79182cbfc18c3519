/-
  Contracts and words that the statements' proofs rest on, several texts in one: Td, Tq.
-/
import Derived.Test.YtdfnjhkcicnkpaaGreatDoorZak
import Derived.Test.YtdfnjhkcicnkpaaGreatDoorZan
import Derived.Test.YtdfnjhkcicnkpaaGreatDoorZba
/-
  What decimal.Make does.
-/
namespace Go.Proofs.YtdfnjhkcicnkpaaGreatDoor
open Go.RowKit
set_option linter.unusedVariables false
set_option maxRecDepth 100000

theorem zs_sg (s : Bool) (a : Nat) : zs s a = sg s a := rfl
/-- What Make answers: the number, the power of ten, the error. -/
def mkA (z t : Int) : (Int × Int) × Int := match mkd z t with
  | none => ((0, 0), 1)
  | some d => (d, 0)
/-- A number and an error are answered. -/
def PD (w : World) (r : (Int × Int) × Int) (e : Ending) (w' : World) : Prop := ∃ s A n c, e = .returned (.tuple #[.agg #[.bool s, .slice A n c, .int .i64 r.1.2], .int .i64 r.2]) ∧ Wn w' s A n c r.1.1 ∧ n ≤ 5 ∧ Below w.heap.size w w'
theorem mkA_zero (t : Int) : mkA 0 t = ((0, 0), 0) := rfl
theorem mkA_of {s : Bool} {a q k : Nat} {t : Int} (h : a = q * 10 ^ k) (hq : q % 10 ≠ 0) :
    mkA (sg s a) t = if q < 10 ^ 40 ∧ -400 ≤ t + k ∧ t + k ≤ 400 then ((sg s q, t + k), 0) else ((0, 0), 1) := by
  have ha : a ≠ 0 := by
    rw [h]
    exact Nat.mul_ne_zero (by omega) (by simp)
  have hz : ¬ sg s a = 0 := by rw [← zs_sg, zs_zero]; exact ha
  unfold mkA mkd
  rw [if_neg hz, sg_natAbs, sg_lt]
  have e1 : u10 a = q := by rw [h]; exact u10_of hq k
  have e2 : v10 a = k := by rw [h]; exact v10_of hq k
  rw [e1, e2]
  have e3 : (s && decide (0 < a)) = s := by simp; omega
  rw [e3, zs_sg]
  by_cases hc : q < 10 ^ 40 ∧ -400 ≤ t + k ∧ t + k ≤ 400
  · rw [if_pos hc, if_pos hc]
  · rw [if_neg hc, if_neg hc]
theorem may_few {s : Bool} {n a : Nat} {t : Int} (h : mayC s n a t = true) (h0 : n ≠ 0) : a < 10 ^ 40 := by
  unfold mayC at h
  rw [if_neg h0] at h
  simp only [Bool.and_eq_true, decide_eq_true_eq] at h
  exact h.2.2.1
theorem ten40 : 10 ^ 40 < 4294967296 ^ 5 := by decide

set_option maxHeartbeats 4000000 in
theorem vMakeD_zero {w : World} {A : Option Addr} {n c a : Nat} {s : Bool} {t : Int} (h : Rd w A n c a) (ha : a = 0) :
    Calls Tryz.prog 12 #[.agg #[.bool s, .slice A n c], .int .i64 t] w (PD w ((0, 0), 0)) := by
  have HS : Hid (cmpI (sg s a) 0 = 0) := Lib.hid (by subst ha; rw [sg_zero]; exact cmpI_eq rfl)
  clear ha
  go_enter Tryz.func12, Tryz.ntmps12
  go_upto_region 1 with (fail)
  have X1 := (Bo.newAt w (g := w.heap.size) (by simp) #[.bool s, .slice A n c] 25).below (bel1 _ (.cells #[.bool false, .slice none 0 0, .int .i64 0] 27))
  have X2 := (Bo.newAt (w.alloc (.cells #[.bool s, .slice A n c] 25)) (g := w.heap.size + 1) (by simp) #[.bool false, .slice none 0 0, .int .i64 0] 27)
  have HB := Lib.hid (bel2 w (.cells #[.bool s, .slice A n c] 25) (.cells #[.bool false, .slice none 0 0, .int .i64 0] 27))
  replace h := h.below HB.out
  generalize hW1 : ((w.alloc (.cells #[.bool s, .slice A n c] 25)).alloc (.cells #[.bool false, .slice none 0 0, .int .i64 0] 27)) = w1 at *
  clear hW1
  have xX10 := X1.at (i := 0) (v := .bool s) rfl
  have xX11 := X1.at (i := 1) (v := .slice A n c) rfl
  go_wp2_with fail
  refine (wSign (h.wr s) HS.out).mono ?_
  rintro ee w2 ⟨rfl, B⟩
  clear xX10 xX11
  replace X1 := X1.below B
  replace X2 := X2.below B
  replace h := h.below B
  replace HB := Lib.hid (bt HB.out B)
  clear B
  have xX20 := X2.at (i := 0) (v := .bool false) rfl
  have zX20 := X2.frozen 0
  have xX21 := X2.at (i := 1) (v := .slice none 0 0) rfl
  have zX21 := X2.frozen 1
  have xX22 := X2.at (i := 2) (v := .int .i64 0) rfl
  have zX22 := X2.frozen 2
  go_wp2
  clear xX20 zX20 xX21 zX21 xX22 zX22
  have SX := StN.mk3 X2 (.bool false) (.slice none 0 0) (.int .i64 0)
  replace X1 := X1.stn SX (by omega)
  replace h := h.stn SX (by simp [no32])
  replace HB := Lib.hid (SX.below HB.out (by omega))
  replace X2 := SX.box
  clear SX
  generalize (World.setCell (World.setCell (World.setCell w2 ⟨w.heap.size + 1, 0, none⟩ (.bool false)) ⟨w.heap.size + 1, 1, none⟩ (.slice none 0 0)) ⟨w.heap.size + 1, 2, none⟩ (.int .i64 0)) = w3 at *
  go_wp2
  have r0 := X2.cell 0
  have r1 := X2.cell 1
  have r2 := X2.cell 2
  exact bodyPost_ret (v := .tuple #[.agg #[.bool false, .slice none 0 0, .int .i64 0], .int .i64 0]) (by simp [results, Tryz.results12, go_sem, r0, r1, r2]) rfl ⟨false, none, 0, 0, rfl, Wn.zero, by omega, HB.out⟩

set_option maxHeartbeats 4000000 in
theorem vMakeD_no {w : World} {A : Option Addr} {n c a : Nat} {s : Bool} {t : Int} {r : (Int × Int) × Int} (h : Rd w A n c a) (hn : n ≤ 100000) (ha : a ≠ 0) (h1 : -9223372036854775808 ≤ t) (h2 : t ≤ 9223372036854775807)
    (HC : ∀ q k : Nat, a = q * 10 ^ k → q % 10 ≠ 0 → k ≤ 32 * n → (mayC s (limbs q).length q (IntKind.i64.wrap (t + k)) = false ∧ r = ((0, 0), 1))) :
    Calls Tryz.prog 12 #[.agg #[.bool s, .slice A n c], .int .i64 t] w (PD w r) := by
  obtain ⟨z, hz, hz0⟩ : ∃ z, cmpI (sg s a) 0 = z ∧ (z == 0) = false := by
    refine ⟨_, rfl, ?_⟩
    have : ¬ cmpI (sg s a) 0 = 0 := fun e => ha (by have := cmpI_zero.1 e; rwa [← zs_sg, zs_zero] at this)
    simpa using this
  have HS := Lib.hid hz
  have HCC := Lib.hid HC
  clear hz HC
  go_enter Tryz.func12, Tryz.ntmps12
  go_upto_region 1 with (fail)
  have X1 := (Bo.newAt w (g := w.heap.size) (by simp) #[.bool s, .slice A n c] 25).below (bel1 _ (.cells #[.bool false, .slice none 0 0, .int .i64 0] 27))
  have X2 := (Bo.newAt (w.alloc (.cells #[.bool s, .slice A n c] 25)) (g := w.heap.size + 1) (by simp) #[.bool false, .slice none 0 0, .int .i64 0] 27)
  have HB := Lib.hid (bel2 w (.cells #[.bool s, .slice A n c] 25) (.cells #[.bool false, .slice none 0 0, .int .i64 0] 27))
  replace h := h.below HB.out
  generalize hW1 : ((w.alloc (.cells #[.bool s, .slice A n c] 25)).alloc (.cells #[.bool false, .slice none 0 0, .int .i64 0] 27)) = w1 at *
  clear hW1
  have xX10 := X1.at (i := 0) (v := .bool s) rfl
  have xX11 := X1.at (i := 1) (v := .slice A n c) rfl
  go_wp2_with fail
  refine (wSign (h.wr s) HS.out).mono ?_
  rintro ee w2 ⟨rfl, B⟩
  clear xX10 xX11
  replace X1 := X1.below B
  replace X2 := X2.below B
  replace h := h.below B
  replace HB := Lib.hid (bt HB.out B)
  clear B
  have xX10 := X1.at (i := 0) (v := .bool s) rfl
  have xX11 := X1.at (i := 1) (v := .slice A n c) rfl
  go_wp2_with fail
  refine (vTrim h).mono ?_
  rintro ee w3 ⟨A3, n3, c3, rfl, h3, k3, B⟩
  clear xX10 xX11
  replace X1 := X1.below B
  replace X2 := X2.below B
  replace h := h.below B
  replace HB := Lib.hid (bt HB.out B)
  clear B
  go_wp2_with fail
  refine (vTen _).mono ?_
  rintro ee w4 ⟨A4, n4, c4, rfl, h4, k4, B⟩
  replace X1 := X1.below B
  replace X2 := X2.below B
  replace h := h.below B
  replace h3 := h3.below B
  replace HB := Lib.hid (bt HB.out B)
  clear B
  go_wp2_with fail
  refine (vWithout 100000 (by omega) a _ _ _ _ _ _ _ _ h3 h4.nm ha (by omega) (by omega)).mono ?_
  rintro ee w5 ⟨A5, n5, c5, q, k, rfl, h5, k5, e5, m5, g5, B⟩
  replace X1 := X1.below B
  replace X2 := X2.below B
  replace h := h.below B
  replace h3 := h3.below B
  replace h4 := h4.below B
  replace HB := Lib.hid (bt HB.out B)
  clear B
  have HQ := HCC.out q k e5 m5 (by omega)
  clear HCC e5
  obtain ⟨hm, rfl⟩ := HQ
  generalize hT : IntKind.i64.wrap (t + k) = T at hm
  rw [h5.len] at hm
  have HM := Lib.hid hm
  clear hm
  have xX10 := X1.at (i := 0) (v := .bool s) rfl
  have xX11 := X1.at (i := 1) (v := .slice A n c) rfl
  go_upto_region 5 with (fail)
  clear xX10 xX11
  have g8 := X2.lt
  replace X1 := X1.below (bel1 _ (.cells #[.bool s, .slice A5 n5 c5, .int .i64 T] 27))
  replace X2 := X2.below (bel1 _ (.cells #[.bool s, .slice A5 n5 c5, .int .i64 T] 27))
  replace h5 := h5.below (bel1 _ (.cells #[.bool s, .slice A5 n5 c5, .int .i64 T] 27))
  replace HB := Lib.hid (bt HB.out (bel1 _ (.cells #[.bool s, .slice A5 n5 c5, .int .i64 T] 27)))
  have X8 := Bo.new w5 #[.bool s, .slice A5 n5 c5, .int .i64 T] 27
  generalize hWn : w5.alloc (.cells #[.bool s, .slice A5 n5 c5, .int .i64 T] 27) = w6 at *
  clear hWn
  have hn5 : n5 ≤ 1073741824 := by omega
  have xX80 := X8.at (i := 0) (v := .bool s) rfl
  have xX81 := X8.at (i := 1) (v := .slice A5 n5 c5) rfl
  have xX82 := X8.at (i := 2) (v := .int .i64 T) rfl
  go_wp2_with fail
  refine (vMayD h5.rd hn5 HM.out).mono ?_
  rintro ee w7 ⟨rfl, B⟩
  clear xX80 xX81 xX82
  replace X1 := X1.below B
  replace X2 := X2.below B
  replace X8 := X8.below B
  replace h5 := h5.below B
  replace HB := Lib.hid (bt HB.out B)
  clear B
  have xX20 := X2.at (i := 0) (v := .bool false) rfl
  have zX20 := X2.frozen 0
  have xX21 := X2.at (i := 1) (v := .slice none 0 0) rfl
  have zX21 := X2.frozen 1
  have xX22 := X2.at (i := 2) (v := .int .i64 0) rfl
  have zX22 := X2.frozen 2
  go_wp2
  clear xX20 zX20 xX21 zX21 xX22 zX22
  have SX := StN.mk3 X2 (.bool false) (.slice none 0 0) (.int .i64 0)
  replace X1 := X1.stn SX (by omega)
  replace X8 := X8.stn SX (by omega)
  replace h5 := h5.stn SX (by simp [no32])
  replace HB := Lib.hid (SX.below HB.out (by omega))
  replace X2 := SX.box
  clear SX
  generalize (World.setCell (World.setCell (World.setCell w7 ⟨w.heap.size + 1, 0, none⟩ (.bool false)) ⟨w.heap.size + 1, 1, none⟩ (.slice none 0 0)) ⟨w.heap.size + 1, 2, none⟩ (.int .i64 0)) = w8 at *
  go_wp2
  have r0 := X2.cell 0
  have r1 := X2.cell 1
  have r2 := X2.cell 2
  exact bodyPost_ret (v := .tuple #[.agg #[.bool false, .slice none 0 0, .int .i64 0], .int .i64 1]) (by simp [results, Tryz.results12, go_sem, r0, r1, r2]) rfl ⟨false, none, 0, 0, rfl, Wn.zero, by omega, HB.out⟩

set_option maxHeartbeats 4000000 in
theorem vMakeD_yes {w : World} {A : Option Addr} {n c a : Nat} {s : Bool} {t : Int} {r : (Int × Int) × Int} (h : Rd w A n c a) (hn : n ≤ 100000) (ha : a ≠ 0) (h1 : -9223372036854775808 ≤ t) (h2 : t ≤ 9223372036854775807)
    (HC : ∀ q k : Nat, a = q * 10 ^ k → q % 10 ≠ 0 → k ≤ 32 * n → (mayC s (limbs q).length q (t + k) = true ∧ IntKind.i64.wrap (t + k) = t + k ∧ r = ((sg s q, t + k), 0))) :
    Calls Tryz.prog 12 #[.agg #[.bool s, .slice A n c], .int .i64 t] w (PD w r) := by
  obtain ⟨z, hz, hz0⟩ : ∃ z, cmpI (sg s a) 0 = z ∧ (z == 0) = false := by
    refine ⟨_, rfl, ?_⟩
    have : ¬ cmpI (sg s a) 0 = 0 := fun e => ha (by have := cmpI_zero.1 e; rwa [← zs_sg, zs_zero] at this)
    simpa using this
  have HS := Lib.hid hz
  have HCC := Lib.hid HC
  clear hz HC
  go_enter Tryz.func12, Tryz.ntmps12
  go_upto_region 1 with (fail)
  have X1 := (Bo.newAt w (g := w.heap.size) (by simp) #[.bool s, .slice A n c] 25).below (bel1 _ (.cells #[.bool false, .slice none 0 0, .int .i64 0] 27))
  have X2 := (Bo.newAt (w.alloc (.cells #[.bool s, .slice A n c] 25)) (g := w.heap.size + 1) (by simp) #[.bool false, .slice none 0 0, .int .i64 0] 27)
  have HB := Lib.hid (bel2 w (.cells #[.bool s, .slice A n c] 25) (.cells #[.bool false, .slice none 0 0, .int .i64 0] 27))
  replace h := h.below HB.out
  generalize hW1 : ((w.alloc (.cells #[.bool s, .slice A n c] 25)).alloc (.cells #[.bool false, .slice none 0 0, .int .i64 0] 27)) = w1 at *
  clear hW1
  have xX10 := X1.at (i := 0) (v := .bool s) rfl
  have xX11 := X1.at (i := 1) (v := .slice A n c) rfl
  go_wp2_with fail
  refine (wSign (h.wr s) HS.out).mono ?_
  rintro ee w2 ⟨rfl, B⟩
  clear xX10 xX11
  replace X1 := X1.below B
  replace X2 := X2.below B
  replace h := h.below B
  replace HB := Lib.hid (bt HB.out B)
  clear B
  have xX10 := X1.at (i := 0) (v := .bool s) rfl
  have xX11 := X1.at (i := 1) (v := .slice A n c) rfl
  go_wp2_with fail
  refine (vTrim h).mono ?_
  rintro ee w3 ⟨A3, n3, c3, rfl, h3, k3, B⟩
  clear xX10 xX11
  replace X1 := X1.below B
  replace X2 := X2.below B
  replace h := h.below B
  replace HB := Lib.hid (bt HB.out B)
  clear B
  go_wp2_with fail
  refine (vTen _).mono ?_
  rintro ee w4 ⟨A4, n4, c4, rfl, h4, k4, B⟩
  replace X1 := X1.below B
  replace X2 := X2.below B
  replace h := h.below B
  replace h3 := h3.below B
  replace HB := Lib.hid (bt HB.out B)
  clear B
  go_wp2_with fail
  refine (vWithout 100000 (by omega) a _ _ _ _ _ _ _ _ h3 h4.nm ha (by omega) (by omega)).mono ?_
  rintro ee w5 ⟨A5, n5, c5, q, k, rfl, h5, k5, e5, m5, g5, B⟩
  replace X1 := X1.below B
  replace X2 := X2.below B
  replace h := h.below B
  replace h3 := h3.below B
  replace h4 := h4.below B
  replace HB := Lib.hid (bt HB.out B)
  clear B
  have HQ := HCC.out q k e5 m5 (by omega)
  clear HCC e5
  obtain ⟨hm, hw, rfl⟩ := HQ
  rw [h5.len] at hm
  have HM := Lib.hid hm
  clear hm
  have xX10 := X1.at (i := 0) (v := .bool s) rfl
  have xX11 := X1.at (i := 1) (v := .slice A n c) rfl
  go_upto_region 5 with (fail)
  clear xX10 xX11
  have g8 := X2.lt
  replace X1 := X1.below (bel1 _ (.cells #[.bool s, .slice A5 n5 c5, .int .i64 (t + (k : Int))] 27))
  replace X2 := X2.below (bel1 _ (.cells #[.bool s, .slice A5 n5 c5, .int .i64 (t + (k : Int))] 27))
  replace h5 := h5.below (bel1 _ (.cells #[.bool s, .slice A5 n5 c5, .int .i64 (t + (k : Int))] 27))
  replace HB := Lib.hid (bt HB.out (bel1 _ (.cells #[.bool s, .slice A5 n5 c5, .int .i64 (t + (k : Int))] 27)))
  have X8 := Bo.new w5 #[.bool s, .slice A5 n5 c5, .int .i64 (t + (k : Int))] 27
  generalize hWn : w5.alloc (.cells #[.bool s, .slice A5 n5 c5, .int .i64 (t + (k : Int))] 27) = w6 at *
  clear hWn
  have hn5 : n5 ≤ 1073741824 := by omega
  have xX80 := X8.at (i := 0) (v := .bool s) rfl
  have xX81 := X8.at (i := 1) (v := .slice A5 n5 c5) rfl
  have xX82 := X8.at (i := 2) (v := .int .i64 (t + (k : Int))) rfl
  go_wp2_with fail
  refine (vMayD h5.rd hn5 HM.out).mono ?_
  rintro ee w7 ⟨rfl, B⟩
  clear xX80 xX81 xX82
  replace X1 := X1.below B
  replace X2 := X2.below B
  replace X8 := X8.below B
  replace h5 := h5.below B
  replace HB := Lib.hid (bt HB.out B)
  clear B
  have xX80 := X8.at (i := 0) (v := .bool s) rfl
  have xX81 := X8.at (i := 1) (v := .slice A5 n5 c5) rfl
  have xX82 := X8.at (i := 2) (v := .int .i64 (t + (k : Int))) rfl
  have xX20 := X2.at (i := 0) (v := .bool false) rfl
  have zX20 := X2.frozen 0
  have xX21 := X2.at (i := 1) (v := .slice none 0 0) rfl
  have zX21 := X2.frozen 1
  have xX22 := X2.at (i := 2) (v := .int .i64 0) rfl
  have zX22 := X2.frozen 2
  go_wp2
  clear xX80 xX81 xX82 xX20 zX20 xX21 zX21 xX22 zX22
  have SX := StN.mk3 X2 (.bool s) (.slice A5 n5 c5) (.int .i64 (t + (k : Int)))
  replace X1 := X1.stn SX (by omega)
  replace X8 := X8.stn SX (by omega)
  replace h5 := h5.stn SX (by simp [no32])
  replace HB := Lib.hid (SX.below HB.out (by omega))
  replace X2 := SX.box
  clear SX
  generalize (World.setCell (World.setCell (World.setCell w7 ⟨w.heap.size + 1, 0, none⟩ (.bool s)) ⟨w.heap.size + 1, 1, none⟩ (.slice A5 n5 c5)) ⟨w.heap.size + 1, 2, none⟩ (.int .i64 (t + (k : Int)))) = w8 at *
  have hpos := h5.pos
  have hs : (s && decide (0 < n5)) = s := by (have : 0 < n5 := hpos.2 (by omega)); simp [this]
  have hW := h5.wn s
  rw [hs] at hW
  have hsm := may_few HM.out (by omega)
  go_wp2
  have r0 := X2.cell 0
  have r1 := X2.cell 1
  have r2 := X2.cell 2
  exact bodyPost_ret (v := .tuple #[.agg #[.bool s, .slice A5 n5 c5, .int .i64 (t + (k : Int))], .int .i64 0]) (by simp [results, Tryz.results12, go_sem, r0, r1, r2]) rfl ⟨s, A5, n5, c5, rfl, hW, h5.few (Nat.lt_trans hsm ten40), HB.out⟩

theorem wrap_in {x : Int} (h1 : -9223372036854775808 ≤ x) (h2 : x ≤ 9223372036854775807) : IntKind.i64.wrap x = x := by rw [IntKind.wrap_i64]; omega
theorem mayC_nm {w : World} {A : Option Addr} {n c q : Nat} {s : Bool} {T : Int} (hq : q % 10 ≠ 0) : mayC s (limbs q).length q T = ((decide (-400 ≤ T) && decide (T ≤ 400)) && decide (q < 10 ^ 40)) := by
  have h0 : (limbs q).length ≠ 0 := fun e => by rw [limbs_length_zero] at e; omega
  have h1 : decide (0 < (limbs q).length) = true := by simp; omega
  unfold mayC mayB
  rw [if_neg h0, h1, show decide (q % 10 = 0) = false by simpa using hq]
  simp
theorem vMakeD {w : World} {A : Option Addr} {n c a : Nat} {s : Bool} {z t : Int} {r : (Int × Int) × Int} (h : Rd w A n c a) (hn : n ≤ 100000) (h1 : -9223372036854775808 ≤ t) (h2 : t ≤ 9223372036854775807) (hz : sg s a = z) (hr : mkA z t = r) :
    Calls Tryz.prog 12 #[.agg #[.bool s, .slice A n c], .int .i64 t] w (PD w r) := by
  subst hr; subst hz
  by_cases ha : a = 0
  · subst ha
    rw [sg_zero]
    exact vMakeD_zero h rfl
  · obtain ⟨hu, hv⟩ := u10_spec a ha
    have huniq : ∀ q k : Nat, a = q * 10 ^ k → q % 10 ≠ 0 → q = u10 a ∧ k = v10 a := fun q k e m => ⟨by rw [e]; exact (u10_of m k).symm, by rw [e]; exact (v10_of m k).symm⟩
    have hA := mkA_of (s := s) (t := t) hu hv
    by_cases hc : u10 a < 10 ^ 40 ∧ -400 ≤ t + v10 a ∧ t + v10 a ≤ 400
    · rw [if_pos hc] at hA
      rw [hA]
      refine vMakeD_yes h hn ha h1 h2 fun q k e m hk => ?_
      obtain ⟨rfl, rfl⟩ := huniq q k e m
      refine ⟨?_, wrap_in (by omega) (by omega), rfl⟩
      rw [mayC_nm (w := w) (A := A) (n := n) (c := c) m, show decide (u10 a < 10 ^ 40) = true by simpa using hc.1, show decide (-400 ≤ t + (v10 a : Int)) = true by simpa using hc.2.1, show decide (t + (v10 a : Int) ≤ 400) = true by simpa using hc.2.2]
      rfl
    · rw [if_neg hc] at hA
      rw [hA]
      refine vMakeD_no h hn ha h1 h2 fun q k e m hk => ?_
      obtain ⟨rfl, rfl⟩ := huniq q k e m
      refine ⟨?_, rfl⟩
      rw [mayC_nm (w := w) (A := A) (n := n) (c := c) m]
      rw [Bool.eq_false_iff]
      intro hh
      simp only [Bool.and_eq_true, decide_eq_true_eq] at hh
      obtain ⟨⟨g1, g2⟩, g3⟩ := hh
      have hw : IntKind.i64.wrap (t + (v10 a : Int)) = t + (v10 a : Int) ∨ IntKind.i64.wrap (t + (v10 a : Int)) < -400 := by
        rw [IntKind.wrap_i64]
        omega
      rcases hw with hw | hw
      · rw [hw] at g1 g2
        exact hc ⟨g3, g1, g2⟩
      · omega
end Go.Proofs.YtdfnjhkcicnkpaaGreatDoor

/-
  What decimal.times and Cmp answer.
-/
namespace Go.Proofs.YtdfnjhkcicnkpaaGreatDoor
open Go.RowKit
set_option linter.unusedVariables false
set_option linter.unusedSimpArgs false
set_option maxRecDepth 100000

theorem vPowerE {z : Int} {n P : Nat} (w : World) (hz : z = n) (hn : n ≤ 1000) (hP : 10 ^ n = P) : Calls Tryz.prog 48 #[.int .i64 z] w (P1N w 1001 P) := by
  subst hz; subst hP
  refine (vPower n w hn).mono ?_
  rintro e w' ⟨A, m, c, rfl, h, k, B⟩
  exact ⟨A, m, c, rfl, h, by omega, B⟩

set_option maxHeartbeats 4000000 in
theorem vTimes {w : World} {A : Option Addr} {n c : Nat} {s : Bool} {z t low r : Int} {k : Nat} (h : Wr w s A n c z) (hn : n ≤ 1000) (hk : t - low = k) (hk8 : k ≤ 1000) (h1 : -1000 ≤ t) (h2 : t ≤ 1000) (hr : z * ((10 ^ k : Nat) : Int) = r) :
    Calls Tryz.prog 55 #[.agg #[.bool s, .slice A n c, .int .i64 t], .int .i64 low] w (W1 w 3000 r) := by
  obtain ⟨P, hP⟩ : ∃ P, 10 ^ k = P := ⟨_, rfl⟩
  rw [hP] at hr
  have HP := Lib.hid hP
  have HR := Lib.hid (show prd [z, (P : Int)] = r by simp [prd]; exact hr)
  have HW : Hid (IntKind.i64.wrap (t - low) = (k : Int)) := Lib.hid (by rw [hk]; exact IntWalk.i64_in _ (by omega))
  clear hP hr hk
  go_enter Tryz.func55, Tryz.ntmps55
  go_upto_region 1 with (fail)
  have X1 := (Bo.newAt w (g := w.heap.size) (by simp) #[.bool s, .slice A n c, .int .i64 t] 27).below (bel1 _ (.cells #[.bool false, .slice none 0 0] 25))
  have XR := (Bo.newAt (w.alloc (.cells #[.bool s, .slice A n c, .int .i64 t] 27)) (g := w.heap.size + 1) (by simp) #[.bool false, .slice none 0 0] 25)
  have HB := Lib.hid (bel2 w (.cells #[.bool s, .slice A n c, .int .i64 t] 27) (.cells #[.bool false, .slice none 0 0] 25))
  replace h := h.below HB.out
  generalize hW1 : ((w.alloc (.cells #[.bool s, .slice A n c, .int .i64 t] 27)).alloc (.cells #[.bool false, .slice none 0 0] 25)) = w1 at *
  clear hW1
  refine Jo.region_joint (T := [0, 1, 2, 3, 4, 5, 6, 7, 8, 9]) (ds := [some 5, some 6, some 7, some 8, some 9, some 10, some 11, some 12, some 13, some 14, none]) (ls := [[], [0], [], [2], [], [3, 4], [5], [6], [1, 7], [8], []]) (k := 11) (L := [(some 5, 0), (some 6, 1), (some 7, 2), (some 8, 3), (some 9, 4), (some 10, 5), (some 11, 6), (some 12, 7), (some 13, 8), (some 14, 9)]) (fuel := 1) (J := fun wj => Below (World.heap w1).size w1 wj)
    (F := [Jo.Fact.eq (.pointer (some ⟨w.heap.size, 0, none⟩)), Jo.Fact.eq (.agg #[.bool s, .slice A n c]), Jo.Fact.eq (.pointer (some ⟨w.heap.size, 2, none⟩)), Jo.Fact.eq (.int .i64 t), Jo.Fact.eq (.int .i64 low), Jo.Fact.eq (.int .i64 (k : Int)), Jo.Fact.nm P 1001, Jo.Fact.wn (P : Int) 1001, Jo.Fact.wl 1001 2 [z, (P : Int)], Jo.Fact.wn r 3000, Jo.Fact.any])
    (by kernel_rfl) (by kernel_rfl) (by decide) rfl rfl (fun _ _ h b => bt h b) ((Below.refl _ _).drew) ?_ (fun vs w2 hJ hd => ?_)
  · refine Jo.jcons (i := 0) (o := ⟨some 5, _, _, _, _, _⟩) (di := some 5) (L := []) (f := Jo.Fact.eq (.pointer (some ⟨w.heap.size, 0, none⟩))) rfl rfl rfl rfl (fun vs wj hJ hd K hK => ?_) ?_
    · clear hd
      simp only [Jo.putl, List.foldl_nil, Act.put, List.setIfInBounds_toArray, List.set_cons_zero, List.set_cons_succ] at hK ⊢
      go_simp
      exact hK.out _ _ rfl (Below.refl _ _)
    refine Jo.jcons (i := 1) (o := ⟨some 6, _, _, _, _, _⟩) (di := some 6) (L := [(some 5, 0)]) (f := Jo.Fact.eq (.agg #[.bool s, .slice A n c])) rfl rfl rfl rfl (fun vs wj hJ hd K hK => ?_) ?_
    · have d0 : (Jo.Fact.eq (.pointer (some ⟨w.heap.size, 0, none⟩))).P (vs 0) wj := hd 0 (by decide)
      clear hd
      simp only [Jo.putl, List.foldl_cons, List.foldl_nil, Act.put, List.setIfInBounds_toArray, List.set_cons_zero, List.set_cons_succ] at hK ⊢
      generalize vs 0 = u0 at hK d0 ⊢
      replace d0 : u0 = _ := d0
      subst d0
      have xX10 : World.cell? wj ⟨w.heap.size, 0, none⟩ = some (.bool s) := (X1.below hJ).cell 0
      have xX11 : World.cell? wj ⟨w.heap.size, 1, none⟩ = some (.slice A n c) := (X1.below hJ).cell 1
      have xX12 : World.cell? wj ⟨w.heap.size, 2, none⟩ = some (.int .i64 t) := (X1.below hJ).cell 2
      go_simp
      exact hK.out _ _ rfl (Below.refl _ _)
    refine Jo.jcons (i := 2) (o := ⟨some 7, _, _, _, _, _⟩) (di := some 7) (L := []) (f := Jo.Fact.eq (.pointer (some ⟨w.heap.size, 2, none⟩))) rfl rfl rfl rfl (fun vs wj hJ hd K hK => ?_) ?_
    · clear hd
      simp only [Jo.putl, List.foldl_nil, Act.put, List.setIfInBounds_toArray, List.set_cons_zero, List.set_cons_succ] at hK ⊢
      go_simp
      exact hK.out _ _ rfl (Below.refl _ _)
    refine Jo.jcons (i := 3) (o := ⟨some 8, _, _, _, _, _⟩) (di := some 8) (L := [(some 7, 2)]) (f := Jo.Fact.eq (.int .i64 t)) rfl rfl rfl rfl (fun vs wj hJ hd K hK => ?_) ?_
    · have d2 : (Jo.Fact.eq (.pointer (some ⟨w.heap.size, 2, none⟩))).P (vs 2) wj := hd 2 (by decide)
      clear hd
      simp only [Jo.putl, List.foldl_cons, List.foldl_nil, Act.put, List.setIfInBounds_toArray, List.set_cons_zero, List.set_cons_succ] at hK ⊢
      generalize vs 2 = u2 at hK d2 ⊢
      replace d2 : u2 = _ := d2
      subst d2
      have xX10 : World.cell? wj ⟨w.heap.size, 0, none⟩ = some (.bool s) := (X1.below hJ).cell 0
      have xX11 : World.cell? wj ⟨w.heap.size, 1, none⟩ = some (.slice A n c) := (X1.below hJ).cell 1
      have xX12 : World.cell? wj ⟨w.heap.size, 2, none⟩ = some (.int .i64 t) := (X1.below hJ).cell 2
      go_simp
      exact hK.out _ _ rfl (Below.refl _ _)
    refine Jo.jcons (i := 4) (o := ⟨some 9, _, _, _, _, _⟩) (di := some 9) (L := []) (f := Jo.Fact.eq (.int .i64 low)) rfl rfl rfl rfl (fun vs wj hJ hd K hK => ?_) ?_
    · clear hd
      simp only [Jo.putl, List.foldl_nil, Act.put, List.setIfInBounds_toArray, List.set_cons_zero, List.set_cons_succ] at hK ⊢
      go_simp
      exact hK.out _ _ rfl (Below.refl _ _)
    refine Jo.jcons (i := 5) (o := ⟨some 10, _, _, _, _, _⟩) (di := some 10) (L := [(some 8, 3), (some 9, 4)]) (f := Jo.Fact.eq (.int .i64 (k : Int))) rfl rfl rfl rfl (fun vs wj hJ hd K hK => ?_) ?_
    · have d3 : (Jo.Fact.eq (.int .i64 t)).P (vs 3) wj := hd 3 (by decide)
      have d4 : (Jo.Fact.eq (.int .i64 low)).P (vs 4) wj := hd 4 (by decide)
      clear hd
      simp only [Jo.putl, List.foldl_cons, List.foldl_nil, Act.put, List.setIfInBounds_toArray, List.set_cons_zero, List.set_cons_succ] at hK ⊢
      generalize vs 3 = u3 at hK d3 ⊢
      generalize vs 4 = u4 at hK d4 ⊢
      replace d3 : u3 = _ := d3
      subst d3
      replace d4 : u4 = _ := d4
      subst d4
      go_simp
      rw [HW.out]
      exact hK.out _ _ rfl (Below.refl _ _)
    refine Jo.jcons (i := 6) (o := ⟨some 11, _, _, _, _, _⟩) (di := some 11) (L := [(some 10, 5)]) (f := Jo.Fact.nm P 1001) rfl rfl rfl rfl (fun vs wj hJ hd K hK => ?_) ?_
    · have d5 : (Jo.Fact.eq (.int .i64 (k : Int))).P (vs 5) wj := hd 5 (by decide)
      clear hd
      simp only [Jo.putl, List.foldl_cons, List.foldl_nil, Act.put, List.setIfInBounds_toArray, List.set_cons_zero, List.set_cons_succ] at hK ⊢
      generalize vs 5 = u5 at hK d5 ⊢
      replace d5 : u5 = _ := d5
      subst d5
      go_simp
      refine (vPowerE _ rfl hk8 HP.out).mono ?_
      rintro ee wk ⟨A3, n3, c3, rfl, h3, k3, B⟩
      exact hK.out _ _ ⟨_, _, _, rfl, h3.nm, k3⟩ B
    refine Jo.jcons (i := 7) (o := ⟨some 12, _, _, _, _, _⟩) (di := some 12) (L := [(some 11, 6)]) (f := Jo.Fact.wn (P : Int) 1001) rfl rfl rfl rfl (fun vs wj hJ hd K hK => ?_) ?_
    · have d6 : (Jo.Fact.nm P 1001).P (vs 6) wj := hd 6 (by decide)
      clear hd
      simp only [Jo.putl, List.foldl_cons, List.foldl_nil, Act.put, List.setIfInBounds_toArray, List.set_cons_zero, List.set_cons_succ] at hK ⊢
      generalize vs 6 = u6 at hK d6 ⊢
      obtain ⟨A3, n3, c3, rfl, h3, k3⟩ := d6
      go_simp
      exact hK.out _ _ ⟨false, A3, n3, c3, rfl, ⟨by simpa using h3, by simp⟩, k3⟩ (Below.refl _ _)
    refine Jo.jcons (i := 8) (o := ⟨some 13, _, _, _, _, _⟩) (di := some 13) (L := [(some 6, 1), (some 12, 7)]) (f := Jo.Fact.wl 1001 2 [z, (P : Int)]) rfl rfl rfl rfl (fun vs wj hJ hd K hK => ?_) ?_
    · have d1 : (Jo.Fact.eq (.agg #[.bool s, .slice A n c])).P (vs 1) wj := hd 1 (by decide)
      have d7 : (Jo.Fact.wn (P : Int) 1001).P (vs 7) wj := hd 7 (by decide)
      clear hd
      simp only [Jo.putl, List.foldl_cons, List.foldl_nil, Act.put, List.setIfInBounds_toArray, List.set_cons_zero, List.set_cons_succ] at hK ⊢
      generalize vs 1 = u1 at hK d1 ⊢
      generalize vs 7 = u7 at hK d7 ⊢
      replace d1 : u1 = _ := d1
      subst d1
      obtain ⟨s4, A4, n4, c4, rfl, h4, k4⟩ := d7
      go_simp
      exact hK.out _ _ ⟨_, 2, rfl, Wl.lit2 rfl (h.below hJ) h4.wr (by omega) (by omega)⟩ (bel1 _ _)
    refine Jo.jcons (i := 9) (o := ⟨some 14, _, _, _, _, _⟩) (di := some 14) (L := [(some 13, 8)]) (f := Jo.Fact.wn r 3000) rfl rfl rfl rfl (fun vs wj hJ hd K hK => ?_) ?_
    · have d8 : (Jo.Fact.wl 1001 2 [z, (P : Int)]).P (vs 8) wj := hd 8 (by decide)
      clear hd
      simp only [Jo.putl, List.foldl_cons, List.foldl_nil, Act.put, List.setIfInBounds_toArray, List.set_cons_zero, List.set_cons_succ] at hK ⊢
      generalize vs 8 = u8 at hK d8 ⊢
      obtain ⟨A5, c5, rfl, h5⟩ := d8
      go_simp
      refine (wMul h5 (by omega) HR.out).mono ?_
      rintro ee wk ⟨s6, A6, n6, c6, rfl, h6, k6, B⟩
      exact hK.out _ _ ⟨_, _, _, _, rfl, h6, by omega⟩ B
    exact Jo.Steps.nil
  have d0 : (Jo.Fact.eq (.pointer (some ⟨w.heap.size, 0, none⟩))).P (vs 0) w2 := hd 0 (by decide)
  have d1 : (Jo.Fact.eq (.agg #[.bool s, .slice A n c])).P (vs 1) w2 := hd 1 (by decide)
  have d2 : (Jo.Fact.eq (.pointer (some ⟨w.heap.size, 2, none⟩))).P (vs 2) w2 := hd 2 (by decide)
  have d3 : (Jo.Fact.eq (.int .i64 t)).P (vs 3) w2 := hd 3 (by decide)
  have d4 : (Jo.Fact.eq (.int .i64 low)).P (vs 4) w2 := hd 4 (by decide)
  have d5 : (Jo.Fact.eq (.int .i64 (k : Int))).P (vs 5) w2 := hd 5 (by decide)
  have d6 : (Jo.Fact.nm P 1001).P (vs 6) w2 := hd 6 (by decide)
  have d7 : (Jo.Fact.wn (P : Int) 1001).P (vs 7) w2 := hd 7 (by decide)
  have d8 : (Jo.Fact.wl 1001 2 [z, (P : Int)]).P (vs 8) w2 := hd 8 (by decide)
  have d9 : (Jo.Fact.wn r 3000).P (vs 9) w2 := hd 9 (by decide)
  clear hd
  simp only [Jo.putl, List.foldl_cons, List.foldl_nil, Act.put, List.setIfInBounds_toArray, List.set_cons_zero, List.set_cons_succ]
  generalize vs 0 = u0 at d0 ⊢
  generalize vs 1 = u1 at d1 ⊢
  generalize vs 2 = u2 at d2 ⊢
  generalize vs 3 = u3 at d3 ⊢
  generalize vs 4 = u4 at d4 ⊢
  generalize vs 5 = u5 at d5 ⊢
  generalize vs 6 = u6 at d6 ⊢
  generalize vs 7 = u7 at d7 ⊢
  generalize vs 8 = u8 at d8 ⊢
  generalize vs 9 = u9 at d9 ⊢
  clear vs
  replace d0 : u0 = _ := d0
  subst d0
  replace d1 : u1 = _ := d1
  subst d1
  replace d2 : u2 = _ := d2
  subst d2
  replace d3 : u3 = _ := d3
  subst d3
  replace d4 : u4 = _ := d4
  subst d4
  replace d5 : u5 = _ := d5
  subst d5
  obtain ⟨A3, n3, c3, rfl, _, _⟩ := d6
  obtain ⟨s4, A4, n4, c4, rfl, _, _⟩ := d7
  obtain ⟨A5, c5, rfl, _⟩ := d8
  obtain ⟨s6, A6, n6, c6, rfl, h6, k6⟩ := d9
  replace X1 := X1.below hJ
  replace XR := XR.below hJ
  replace h := h.below hJ
  replace HB := Lib.hid (bt HB.out hJ)
  have xXR0 := XR.at (i := 0) (v := .bool false) rfl
  have zXR0 := XR.frozen 0
  have xXR1 := XR.at (i := 1) (v := .slice none 0 0) rfl
  have zXR1 := XR.frozen 1
  refine Jo.jnext (i := 10) (o := ⟨none, _, _, _, _, _⟩) (by kernel_rfl) rfl (fun K hK => ?_)
  go_simp
  refine hK.out _ _ ?_
  clear hK K xXR0 zXR0 xXR1 zXR1
  have SX := StN.mk2 XR (.bool s6) (.slice A6 n6 c6)
  replace X1 := X1.stn SX (by omega)
  replace h := h.stn SX (by simp [no32])
  replace h6 := h6.stn SX (by simp [no32])
  replace HB := Lib.hid (SX.below HB.out (by omega))
  replace XR := SX.box
  clear SX
  generalize (World.setCell (World.setCell w2 ⟨w.heap.size + 1, 0, none⟩ (.bool s6)) ⟨w.heap.size + 1, 1, none⟩ (.slice A6 n6 c6)) = w3 at *
  refine Jo.jdone (by kernel_rfl) ?_
  go_wp2
  have r0 := XR.cell 0
  have r1 := XR.cell 1
  exact bodyPost_ret (v := .agg #[.bool s6, .slice A6 n6 c6]) (by simp [results, Tryz.results55, go_sem, r0, r1]) rfl ⟨s6, A6, n6, c6, rfl, h6, k6, HB.out⟩

set_option maxHeartbeats 4000000 in
theorem vCmpD_a {w : World} {A B : Option Addr} {n c a m d b : Nat} {s1 s2 : Bool} {t1 t2 : Int} (h1 : Rd w A n c a) (h2 : Rd w B m d b) (hn : n ≤ 20) (hm : m ≤ 20) (hm1 : mayC s1 n a t1 = false) :
    Calls Tryz.prog 20 #[.agg #[.bool s1, .slice A n c, .int .i64 t1], .agg #[.bool s2, .slice B m d, .int .i64 t2]] w (PI w 0) := by
  have HM1 := Lib.hid hm1
  clear hm1
  go_enter Tryz.func20, Tryz.ntmps20
  go_upto_region 1 with (fail)
  have X1 := (Bo.newAt w (g := w.heap.size) (by simp) #[.bool s1, .slice A n c, .int .i64 t1] 27).below (bel1 _ (.cells #[.bool s2, .slice B m d, .int .i64 t2] 27))
  have X2 := (Bo.newAt (w.alloc (.cells #[.bool s1, .slice A n c, .int .i64 t1] 27)) (g := w.heap.size + 1) (by simp) #[.bool s2, .slice B m d, .int .i64 t2] 27)
  have HB := Lib.hid (bel2 w (.cells #[.bool s1, .slice A n c, .int .i64 t1] 27) (.cells #[.bool s2, .slice B m d, .int .i64 t2] 27))
  replace h1 := h1.below HB.out
  replace h2 := h2.below HB.out
  generalize hW1 : ((w.alloc (.cells #[.bool s1, .slice A n c, .int .i64 t1] 27)).alloc (.cells #[.bool s2, .slice B m d, .int .i64 t2] 27)) = w1 at *
  clear hW1
  have xX10 := X1.at (i := 0) (v := .bool s1) rfl
  have xX11 := X1.at (i := 1) (v := .slice A n c) rfl
  have xX12 := X1.at (i := 2) (v := .int .i64 t1) rfl
  have xX20 := X2.at (i := 0) (v := .bool s2) rfl
  have xX21 := X2.at (i := 1) (v := .slice B m d) rfl
  have xX22 := X2.at (i := 2) (v := .int .i64 t2) rfl
  have hn8 : n ≤ 1073741824 := by omega
  go_wp2_with fail
  refine (vMayD h1 hn8 HM1.out).mono ?_
  rintro ee w2 ⟨rfl, B⟩
  clear xX10 xX11 xX12 xX20 xX21 xX22
  replace X1 := X1.below B
  replace X2 := X2.below B
  replace h1 := h1.below B
  replace h2 := h2.below B
  replace HB := Lib.hid (bt HB.out B)
  clear B
  have xX10 := X1.at (i := 0) (v := .bool s1) rfl
  have xX11 := X1.at (i := 1) (v := .slice A n c) rfl
  have xX12 := X1.at (i := 2) (v := .int .i64 t1) rfl
  have xX20 := X2.at (i := 0) (v := .bool s2) rfl
  have xX21 := X2.at (i := 1) (v := .slice B m d) rfl
  have xX22 := X2.at (i := 2) (v := .int .i64 t2) rfl
  go_wp2
  go_ret
  exact ⟨rfl, HB.out⟩

set_option maxHeartbeats 4000000 in
theorem vCmpD_b {w : World} {A B : Option Addr} {n c a m d b : Nat} {s1 s2 : Bool} {t1 t2 : Int} (h1 : Rd w A n c a) (h2 : Rd w B m d b) (hn : n ≤ 20) (hm : m ≤ 20) (hm1 : mayC s1 n a t1 = true) (hm2 : mayC s2 m b t2 = false) :
    Calls Tryz.prog 20 #[.agg #[.bool s1, .slice A n c, .int .i64 t1], .agg #[.bool s2, .slice B m d, .int .i64 t2]] w (PI w 0) := by
  have HM1 := Lib.hid hm1
  have HM2 := Lib.hid hm2
  clear hm1 hm2
  go_enter Tryz.func20, Tryz.ntmps20
  go_upto_region 1 with (fail)
  have X1 := (Bo.newAt w (g := w.heap.size) (by simp) #[.bool s1, .slice A n c, .int .i64 t1] 27).below (bel1 _ (.cells #[.bool s2, .slice B m d, .int .i64 t2] 27))
  have X2 := (Bo.newAt (w.alloc (.cells #[.bool s1, .slice A n c, .int .i64 t1] 27)) (g := w.heap.size + 1) (by simp) #[.bool s2, .slice B m d, .int .i64 t2] 27)
  have HB := Lib.hid (bel2 w (.cells #[.bool s1, .slice A n c, .int .i64 t1] 27) (.cells #[.bool s2, .slice B m d, .int .i64 t2] 27))
  replace h1 := h1.below HB.out
  replace h2 := h2.below HB.out
  generalize hW1 : ((w.alloc (.cells #[.bool s1, .slice A n c, .int .i64 t1] 27)).alloc (.cells #[.bool s2, .slice B m d, .int .i64 t2] 27)) = w1 at *
  clear hW1
  have xX10 := X1.at (i := 0) (v := .bool s1) rfl
  have xX11 := X1.at (i := 1) (v := .slice A n c) rfl
  have xX12 := X1.at (i := 2) (v := .int .i64 t1) rfl
  have xX20 := X2.at (i := 0) (v := .bool s2) rfl
  have xX21 := X2.at (i := 1) (v := .slice B m d) rfl
  have xX22 := X2.at (i := 2) (v := .int .i64 t2) rfl
  have hn8 : n ≤ 1073741824 := by omega
  have hm8 : m ≤ 1073741824 := by omega
  go_wp2_with fail
  refine (vMayD h1 hn8 HM1.out).mono ?_
  rintro ee w2 ⟨rfl, B⟩
  clear xX10 xX11 xX12 xX20 xX21 xX22
  replace X1 := X1.below B
  replace X2 := X2.below B
  replace h1 := h1.below B
  replace h2 := h2.below B
  replace HB := Lib.hid (bt HB.out B)
  clear B
  have xX10 := X1.at (i := 0) (v := .bool s1) rfl
  have xX11 := X1.at (i := 1) (v := .slice A n c) rfl
  have xX12 := X1.at (i := 2) (v := .int .i64 t1) rfl
  have xX20 := X2.at (i := 0) (v := .bool s2) rfl
  have xX21 := X2.at (i := 1) (v := .slice B m d) rfl
  have xX22 := X2.at (i := 2) (v := .int .i64 t2) rfl
  go_wp2_with fail
  refine (vMayD h2 hm8 HM2.out).mono ?_
  rintro ee w3 ⟨rfl, B⟩
  clear xX10 xX11 xX12 xX20 xX21 xX22
  replace X1 := X1.below B
  replace X2 := X2.below B
  replace h1 := h1.below B
  replace h2 := h2.below B
  replace HB := Lib.hid (bt HB.out B)
  clear B
  have xX10 := X1.at (i := 0) (v := .bool s1) rfl
  have xX11 := X1.at (i := 1) (v := .slice A n c) rfl
  have xX12 := X1.at (i := 2) (v := .int .i64 t1) rfl
  have xX20 := X2.at (i := 0) (v := .bool s2) rfl
  have xX21 := X2.at (i := 1) (v := .slice B m d) rfl
  have xX22 := X2.at (i := 2) (v := .int .i64 t2) rfl
  go_wp2
  go_ret
  exact ⟨rfl, HB.out⟩

set_option maxHeartbeats 4000000 in
theorem vCmpD_y {w : World} {A B : Option Addr} {n c a m d b k1 k2 : Nat} {s1 s2 : Bool} {t1 t2 low r : Int} (h1 : Rd w A n c a) (h2 : Rd w B m d b) (hn : n ≤ 20) (hm : m ≤ 20) (hm1 : mayC s1 n a t1 = true) (hm2 : mayC s2 m b t2 = true) (b1 : -400 ≤ t1 ∧ t1 ≤ 400) (b2 : -400 ≤ t2 ∧ t2 ≤ 400) (hlow : min t1 t2 = low) (e1 : t1 - low = k1) (e2 : t2 - low = k2) (hr : cmpI (sg s1 a * ((10 ^ k1 : Nat) : Int)) (sg s2 b * ((10 ^ k2 : Nat) : Int)) = r) :
    Calls Tryz.prog 20 #[.agg #[.bool s1, .slice A n c, .int .i64 t1], .agg #[.bool s2, .slice B m d, .int .i64 t2]] w (PI w r) := by
  have HM1 := Lib.hid hm1
  have HM2 := Lib.hid hm2
  have HR := Lib.hid hr
  have l1 : k1 ≤ 800 := by omega
  have l2 : k2 ≤ 800 := by omega
  have E1 := Lib.hid e1
  have E2 := Lib.hid e2
  clear hm1 hm2 hr e1 e2
  go_enter Tryz.func20, Tryz.ntmps20
  go_upto_region 1 with (fail)
  have X1 := (Bo.newAt w (g := w.heap.size) (by simp) #[.bool s1, .slice A n c, .int .i64 t1] 27).below (bel1 _ (.cells #[.bool s2, .slice B m d, .int .i64 t2] 27))
  have X2 := (Bo.newAt (w.alloc (.cells #[.bool s1, .slice A n c, .int .i64 t1] 27)) (g := w.heap.size + 1) (by simp) #[.bool s2, .slice B m d, .int .i64 t2] 27)
  have HB := Lib.hid (bel2 w (.cells #[.bool s1, .slice A n c, .int .i64 t1] 27) (.cells #[.bool s2, .slice B m d, .int .i64 t2] 27))
  replace h1 := h1.below HB.out
  replace h2 := h2.below HB.out
  generalize hW1 : ((w.alloc (.cells #[.bool s1, .slice A n c, .int .i64 t1] 27)).alloc (.cells #[.bool s2, .slice B m d, .int .i64 t2] 27)) = w1 at *
  clear hW1
  have xX10 := X1.at (i := 0) (v := .bool s1) rfl
  have xX11 := X1.at (i := 1) (v := .slice A n c) rfl
  have xX12 := X1.at (i := 2) (v := .int .i64 t1) rfl
  have xX20 := X2.at (i := 0) (v := .bool s2) rfl
  have xX21 := X2.at (i := 1) (v := .slice B m d) rfl
  have xX22 := X2.at (i := 2) (v := .int .i64 t2) rfl
  have hn8 : n ≤ 1073741824 := by omega
  have hm8 : m ≤ 1073741824 := by omega
  go_wp2_with fail
  refine (vMayD h1 hn8 HM1.out).mono ?_
  rintro ee w2 ⟨rfl, B⟩
  clear xX10 xX11 xX12 xX20 xX21 xX22
  replace X1 := X1.below B
  replace X2 := X2.below B
  replace h1 := h1.below B
  replace h2 := h2.below B
  replace HB := Lib.hid (bt HB.out B)
  clear B
  have xX10 := X1.at (i := 0) (v := .bool s1) rfl
  have xX11 := X1.at (i := 1) (v := .slice A n c) rfl
  have xX12 := X1.at (i := 2) (v := .int .i64 t1) rfl
  have xX20 := X2.at (i := 0) (v := .bool s2) rfl
  have xX21 := X2.at (i := 1) (v := .slice B m d) rfl
  have xX22 := X2.at (i := 2) (v := .int .i64 t2) rfl
  go_wp2_with fail
  refine (vMayD h2 hm8 HM2.out).mono ?_
  rintro ee w3 ⟨rfl, B⟩
  clear xX10 xX11 xX12 xX20 xX21 xX22
  replace X1 := X1.below B
  replace X2 := X2.below B
  replace h1 := h1.below B
  replace h2 := h2.below B
  replace HB := Lib.hid (bt HB.out B)
  clear B
  have xX10 := X1.at (i := 0) (v := .bool s1) rfl
  have xX11 := X1.at (i := 1) (v := .slice A n c) rfl
  have xX12 := X1.at (i := 2) (v := .int .i64 t1) rfl
  have xX20 := X2.at (i := 0) (v := .bool s2) rfl
  have xX21 := X2.at (i := 1) (v := .slice B m d) rfl
  have xX22 := X2.at (i := 2) (v := .int .i64 t2) rfl
  go_upto_region 4 with (fail)
  refine Jo.region_joint (T := [0, 1, 2, 3, 4, 5, 6, 7]) (ds := [some 19, some 20, some 21, some 22, some 23, some 24, some 25, some 4]) (ls := [[], [], [0, 1], [], [], [3, 4], [2, 5], [6]]) (k := 8) (L := [(some 19, 0), (some 20, 1), (some 21, 2), (some 22, 3), (some 23, 4), (some 24, 5), (some 25, 6), (some 4, 7)]) (fuel := 0) (J := fun wj => Below (World.heap w3).size w3 wj)
    (F := [Jo.Fact.eq (.agg #[.bool s1, .slice A n c, .int .i64 t1]), Jo.Fact.eq (.int .i64 low), Jo.Fact.wn (sg s1 a * ((10 ^ k1 : Nat) : Int)) 3000, Jo.Fact.eq (.agg #[.bool s2, .slice B m d, .int .i64 t2]), Jo.Fact.eq (.int .i64 low), Jo.Fact.wn (sg s2 b * ((10 ^ k2 : Nat) : Int)) 3000, Jo.Fact.eq (.int .i64 r), Jo.Fact.eq (.int .i64 r)])
    (by kernel_rfl) (by kernel_rfl) (by decide) rfl rfl (fun _ _ h b => bt h b) ((Below.refl _ _).drew) ?_ (fun vs w4 hJ hd => ?_)
  clear xX10 xX11 xX12 xX20 xX21 xX22
  · refine Jo.jcons (i := 0) (o := ⟨some 19, _, _, _, _, _⟩) (di := some 19) (L := []) (f := Jo.Fact.eq (.agg #[.bool s1, .slice A n c, .int .i64 t1])) rfl rfl rfl rfl (fun vs wj hJ hd K hK => ?_) ?_
    · clear hd
      simp only [Jo.putl, List.foldl_nil, Act.put, List.setIfInBounds_toArray, List.set_cons_zero, List.set_cons_succ] at hK ⊢
      have xX10 : World.cell? wj ⟨w.heap.size, 0, none⟩ = some (.bool s1) := (X1.below hJ).cell 0
      have xX11 : World.cell? wj ⟨w.heap.size, 1, none⟩ = some (.slice A n c) := (X1.below hJ).cell 1
      have xX12 : World.cell? wj ⟨w.heap.size, 2, none⟩ = some (.int .i64 t1) := (X1.below hJ).cell 2
      go_simp
      exact hK.out _ _ rfl (Below.refl _ _)
    refine Jo.jcons (i := 1) (o := ⟨some 20, _, _, _, _, _⟩) (di := some 20) (L := []) (f := Jo.Fact.eq (.int .i64 low)) rfl rfl rfl rfl (fun vs wj hJ hd K hK => ?_) ?_
    · clear hd
      simp only [Jo.putl, List.foldl_nil, Act.put, List.setIfInBounds_toArray, List.set_cons_zero, List.set_cons_succ] at hK ⊢
      go_simp
      exact hK.out _ _ rfl (Below.refl _ _)
    refine Jo.jcons (i := 2) (o := ⟨some 21, _, _, _, _, _⟩) (di := some 21) (L := [(some 19, 0), (some 20, 1)]) (f := Jo.Fact.wn (sg s1 a * ((10 ^ k1 : Nat) : Int)) 3000) rfl rfl rfl rfl (fun vs wj hJ hd K hK => ?_) ?_
    · have d0 : (Jo.Fact.eq (.agg #[.bool s1, .slice A n c, .int .i64 t1])).P (vs 0) wj := hd 0 (by decide)
      have d1 : (Jo.Fact.eq (.int .i64 low)).P (vs 1) wj := hd 1 (by decide)
      clear hd
      simp only [Jo.putl, List.foldl_cons, List.foldl_nil, Act.put, List.setIfInBounds_toArray, List.set_cons_zero, List.set_cons_succ] at hK ⊢
      generalize vs 0 = u0 at hK d0 ⊢
      generalize vs 1 = u1 at hK d1 ⊢
      replace d0 : u0 = _ := d0
      subst d0
      replace d1 : u1 = _ := d1
      subst d1
      go_simp
      refine (vTimes ((h1.below hJ).wr s1) (by omega) E1.out (by omega) (by omega) (by omega) rfl).mono ?_
      rintro ee wk ⟨s5, A5, n5, c5, rfl, p5, k5, B⟩
      exact hK.out _ _ ⟨_, _, _, _, rfl, p5, k5⟩ B
    refine Jo.jcons (i := 3) (o := ⟨some 22, _, _, _, _, _⟩) (di := some 22) (L := []) (f := Jo.Fact.eq (.agg #[.bool s2, .slice B m d, .int .i64 t2])) rfl rfl rfl rfl (fun vs wj hJ hd K hK => ?_) ?_
    · clear hd
      simp only [Jo.putl, List.foldl_nil, Act.put, List.setIfInBounds_toArray, List.set_cons_zero, List.set_cons_succ] at hK ⊢
      have xX20 : World.cell? wj ⟨w.heap.size + 1, 0, none⟩ = some (.bool s2) := (X2.below hJ).cell 0
      have xX21 : World.cell? wj ⟨w.heap.size + 1, 1, none⟩ = some (.slice B m d) := (X2.below hJ).cell 1
      have xX22 : World.cell? wj ⟨w.heap.size + 1, 2, none⟩ = some (.int .i64 t2) := (X2.below hJ).cell 2
      go_simp
      exact hK.out _ _ rfl (Below.refl _ _)
    refine Jo.jcons (i := 4) (o := ⟨some 23, _, _, _, _, _⟩) (di := some 23) (L := []) (f := Jo.Fact.eq (.int .i64 low)) rfl rfl rfl rfl (fun vs wj hJ hd K hK => ?_) ?_
    · clear hd
      simp only [Jo.putl, List.foldl_nil, Act.put, List.setIfInBounds_toArray, List.set_cons_zero, List.set_cons_succ] at hK ⊢
      go_simp
      exact hK.out _ _ rfl (Below.refl _ _)
    refine Jo.jcons (i := 5) (o := ⟨some 24, _, _, _, _, _⟩) (di := some 24) (L := [(some 22, 3), (some 23, 4)]) (f := Jo.Fact.wn (sg s2 b * ((10 ^ k2 : Nat) : Int)) 3000) rfl rfl rfl rfl (fun vs wj hJ hd K hK => ?_) ?_
    · have d3 : (Jo.Fact.eq (.agg #[.bool s2, .slice B m d, .int .i64 t2])).P (vs 3) wj := hd 3 (by decide)
      have d4 : (Jo.Fact.eq (.int .i64 low)).P (vs 4) wj := hd 4 (by decide)
      clear hd
      simp only [Jo.putl, List.foldl_cons, List.foldl_nil, Act.put, List.setIfInBounds_toArray, List.set_cons_zero, List.set_cons_succ] at hK ⊢
      generalize vs 3 = u3 at hK d3 ⊢
      generalize vs 4 = u4 at hK d4 ⊢
      replace d3 : u3 = _ := d3
      subst d3
      replace d4 : u4 = _ := d4
      subst d4
      go_simp
      refine (vTimes ((h2.below hJ).wr s2) (by omega) E2.out (by omega) (by omega) (by omega) rfl).mono ?_
      rintro ee wk ⟨s6, A6, n6, c6, rfl, p6, k6, B⟩
      exact hK.out _ _ ⟨_, _, _, _, rfl, p6, k6⟩ B
    refine Jo.jcons (i := 6) (o := ⟨some 25, _, _, _, _, _⟩) (di := some 25) (L := [(some 21, 2), (some 24, 5)]) (f := Jo.Fact.eq (.int .i64 r)) rfl rfl rfl rfl (fun vs wj hJ hd K hK => ?_) ?_
    · have d2 : (Jo.Fact.wn (sg s1 a * ((10 ^ k1 : Nat) : Int)) 3000).P (vs 2) wj := hd 2 (by decide)
      have d5 : (Jo.Fact.wn (sg s2 b * ((10 ^ k2 : Nat) : Int)) 3000).P (vs 5) wj := hd 5 (by decide)
      clear hd
      simp only [Jo.putl, List.foldl_cons, List.foldl_nil, Act.put, List.setIfInBounds_toArray, List.set_cons_zero, List.set_cons_succ] at hK ⊢
      generalize vs 2 = u2 at hK d2 ⊢
      generalize vs 5 = u5 at hK d5 ⊢
      obtain ⟨s5, A5, n5, c5, rfl, p5, k5⟩ := d2
      obtain ⟨s6, A6, n6, c6, rfl, p6, k6⟩ := d5
      go_simp
      refine (wCmp p5.wr p6.wr HR.out).mono ?_
      rintro ee wk ⟨rfl, B⟩
      exact hK.out _ _ rfl B
    refine Jo.jcons (i := 7) (o := ⟨some 4, _, _, _, _, _⟩) (di := some 4) (L := [(some 25, 6)]) (f := Jo.Fact.eq (.int .i64 r)) rfl rfl rfl rfl (fun vs wj hJ hd K hK => ?_) ?_
    · have d6 : (Jo.Fact.eq (.int .i64 r)).P (vs 6) wj := hd 6 (by decide)
      clear hd
      simp only [Jo.putl, List.foldl_cons, List.foldl_nil, Act.put, List.setIfInBounds_toArray, List.set_cons_zero, List.set_cons_succ] at hK ⊢
      generalize vs 6 = u6 at hK d6 ⊢
      replace d6 : u6 = _ := d6
      subst d6
      go_simp
      exact hK.out _ _ rfl (Below.refl _ _)
    exact Jo.Steps.nil
  have d0 : (Jo.Fact.eq (.agg #[.bool s1, .slice A n c, .int .i64 t1])).P (vs 0) w4 := hd 0 (by decide)
  have d1 : (Jo.Fact.eq (.int .i64 low)).P (vs 1) w4 := hd 1 (by decide)
  have d2 : (Jo.Fact.wn (sg s1 a * ((10 ^ k1 : Nat) : Int)) 3000).P (vs 2) w4 := hd 2 (by decide)
  have d3 : (Jo.Fact.eq (.agg #[.bool s2, .slice B m d, .int .i64 t2])).P (vs 3) w4 := hd 3 (by decide)
  have d4 : (Jo.Fact.eq (.int .i64 low)).P (vs 4) w4 := hd 4 (by decide)
  have d5 : (Jo.Fact.wn (sg s2 b * ((10 ^ k2 : Nat) : Int)) 3000).P (vs 5) w4 := hd 5 (by decide)
  have d6 : (Jo.Fact.eq (.int .i64 r)).P (vs 6) w4 := hd 6 (by decide)
  have d7 : (Jo.Fact.eq (.int .i64 r)).P (vs 7) w4 := hd 7 (by decide)
  clear hd
  simp only [Jo.putl, List.foldl_cons, List.foldl_nil, Act.put, List.setIfInBounds_toArray, List.set_cons_zero, List.set_cons_succ]
  generalize vs 0 = u0 at d0 ⊢
  generalize vs 1 = u1 at d1 ⊢
  generalize vs 2 = u2 at d2 ⊢
  generalize vs 3 = u3 at d3 ⊢
  generalize vs 4 = u4 at d4 ⊢
  generalize vs 5 = u5 at d5 ⊢
  generalize vs 6 = u6 at d6 ⊢
  generalize vs 7 = u7 at d7 ⊢
  clear vs
  replace d0 : u0 = _ := d0
  subst d0
  replace d1 : u1 = _ := d1
  subst d1
  obtain ⟨s5, A5, n5, c5, rfl, _, _⟩ := d2
  replace d3 : u3 = _ := d3
  subst d3
  replace d4 : u4 = _ := d4
  subst d4
  obtain ⟨s6, A6, n6, c6, rfl, _, _⟩ := d5
  replace d6 : u6 = _ := d6
  subst d6
  replace d7 : u7 = _ := d7
  subst d7
  replace X1 := X1.below hJ
  replace X2 := X2.below hJ
  replace h1 := h1.below hJ
  replace h2 := h2.below hJ
  replace HB := Lib.hid (bt HB.out hJ)
  refine Jo.jdone (by kernel_rfl) ?_
  go_wp2
  go_ret
  exact ⟨rfl, HB.out⟩

/-- What Cmp answers. -/
def cmpC (p q : Bool) (x t y u : Int) : Int := if (p && q) = true then cmpI (x * ((10 ^ (t - min t u).toNat : Nat) : Int)) (y * ((10 ^ (u - min t u).toNat : Nat) : Int)) else 0
theorem may_tens {s : Bool} {n a : Nat} {t : Int} (hm : mayC s n a t = true) : -400 ≤ t ∧ t ≤ 400 := by
  unfold mayC at hm
  by_cases hn0 : n = 0
  · simp [hn0] at hm
    omega
  · rw [if_neg hn0] at hm
    simp only [Bool.and_eq_true, decide_eq_true_eq] at hm
    exact hm.2.1
theorem vCmpD {w : World} {A B : Option Addr} {n c a m d b : Nat} {s1 s2 : Bool} {t1 t2 r : Int} (h1 : Rd w A n c a) (h2 : Rd w B m d b) (hn : n ≤ 20) (hm : m ≤ 20) (hr : cmpC (mayC s1 n a t1) (mayC s2 m b t2) (sg s1 a) t1 (sg s2 b) t2 = r) :
    Calls Tryz.prog 20 #[.agg #[.bool s1, .slice A n c, .int .i64 t1], .agg #[.bool s2, .slice B m d, .int .i64 t2]] w (PI w r) := by
  subst hr
  unfold cmpC
  cases hm1 : mayC s1 n a t1
  · exact vCmpD_a h1 h2 hn hm hm1
  · cases hm2 : mayC s2 m b t2
    · exact vCmpD_b h1 h2 hn hm hm1 hm2
    · have h1' := may_tens hm1
      have h2' := may_tens hm2
      exact vCmpD_y h1 h2 hn hm hm1 hm2 h1' h2' rfl (k1 := (t1 - min t1 t2).toNat) (k2 := (t2 - min t1 t2).toNat) (by omega) (by omega) rfl
end Go.Proofs.YtdfnjhkcicnkpaaGreatDoor

/-
  Contracts and words that the statements' proofs rest on, several texts in one: Ue, Uf, Ug, Ui.
-/
import Derived.Test.YtdfnjhkcicnkpaaGreatDoorZak
import Derived.Test.YtdfnjhkcicnkpaaGreatDoorZao
import Derived.Test.YtdfnjhkcicnkpaaGreatDoorZap
import Derived.Test.YtdfnjhkcicnkpaaGreatDoorZbb
import Derived.Test.YtdfnjhkcicnkpaaGreatDoorZbc
import Derived.Test.YtdfnjhkcicnkpaaGreatDoorZbd
import Derived.Test.YtdfnjhkcicnkpaaGreatDoorZbe
/-
  What pelorusref04.May and Alike answer.
-/
namespace Go.Proofs.YtdfnjhkcicnkpaaGreatDoor
open Go.RowKit
set_option linter.unusedVariables false
set_option linter.unusedSimpArgs false
set_option maxRecDepth 100000

set_option maxHeartbeats 2000000 in
theorem uMay_no {w : World} {A : Option Addr} {n c a : Nat} {s : Bool} {t : Int} (h : Rd w A n c a) (hm : mayB s n a = false) : Calls Tryz.prog 17 #[.agg #[.bool s, .slice A n c, .int .i64 t]] w (PB w false) := by
  go_enter Tryz.func17, Tryz.ntmps17
  go_upto_region 1 with (fail)
  have X1 := (Bo.newAt w (g := w.heap.size) (by simp) #[.bool s, .slice A n c, .int .i64 t] 27)
  have HB := Lib.hid (bel1 w (.cells #[.bool s, .slice A n c, .int .i64 t] 27))
  replace h := h.below HB.out
  generalize hW1 : (w.alloc (.cells #[.bool s, .slice A n c, .int .i64 t] 27)) = w1 at *
  clear hW1
  have xX10 := X1.at (i := 0) (v := .bool s) rfl
  have xX11 := X1.at (i := 1) (v := .slice A n c) rfl
  have xX12 := X1.at (i := 2) (v := .int .i64 t) rfl
  go_wp2_with fail
  refine (qMay h hm).mono ?_
  rintro ee w2 ⟨rfl, B⟩
  clear xX10 xX11 xX12
  replace X1 := X1.below B
  replace h := h.below B
  replace HB := Lib.hid (bt HB.out B)
  clear B
  have xX10 := X1.at (i := 0) (v := .bool s) rfl
  have xX11 := X1.at (i := 1) (v := .slice A n c) rfl
  have xX12 := X1.at (i := 2) (v := .int .i64 t) rfl
  go_wp2
  go_ret
  exact ⟨rfl, HB.out⟩

set_option maxHeartbeats 2000000 in
theorem uMay_zero {w : World} {A : Option Addr} {c a : Nat} {s : Bool} {t : Int} {r : Bool} (h : Rd w A 0 c a) (hm : mayB s 0 a = true) (hr : (t == 0) = r) : Calls Tryz.prog 17 #[.agg #[.bool s, .slice A 0 c, .int .i64 t]] w (PB w r) := by
  have HR := Lib.hid hr
  clear hr
  go_enter Tryz.func17, Tryz.ntmps17
  go_upto_region 1 with (fail)
  have X1 := (Bo.newAt w (g := w.heap.size) (by simp) #[.bool s, .slice A 0 c, .int .i64 t] 27)
  have HB := Lib.hid (bel1 w (.cells #[.bool s, .slice A 0 c, .int .i64 t] 27))
  replace h := h.below HB.out
  generalize hW1 : (w.alloc (.cells #[.bool s, .slice A 0 c, .int .i64 t] 27)) = w1 at *
  clear hW1
  have xX10 := X1.at (i := 0) (v := .bool s) rfl
  have xX11 := X1.at (i := 1) (v := .slice A 0 c) rfl
  have xX12 := X1.at (i := 2) (v := .int .i64 t) rfl
  go_wp2_with fail
  refine (qMay h hm).mono ?_
  rintro ee w2 ⟨rfl, B⟩
  clear xX10 xX11 xX12
  replace X1 := X1.below B
  replace h := h.below B
  replace HB := Lib.hid (bt HB.out B)
  clear B
  have xX10 := X1.at (i := 0) (v := .bool s) rfl
  have xX11 := X1.at (i := 1) (v := .slice A 0 c) rfl
  have xX12 := X1.at (i := 2) (v := .int .i64 t) rfl
  go_wp2
  go_ret
  exact ⟨ret_bool HR.out, HB.out⟩

set_option maxHeartbeats 4000000 in
theorem uMay_e {w : World} {A : Option Addr} {n c a : Nat} {s : Bool} {t Z T E : Int} (h : Rd w A n c a) (hn : n ≤ 1000) (h0 : n ≠ 0) (hm : mayB s n a = true) (hr : mkA (sg s a) t = ((Z, T), E)) (hE : (E == 0) = false) :
    Calls Tryz.prog 17 #[.agg #[.bool s, .slice A n c, .int .i64 t]] w (PB w false) := by
  have tz : ((n : Int) == 0) = false := by simp; omega
  have HR := Lib.hid hr
  clear hr
  go_enter Tryz.func17, Tryz.ntmps17
  go_upto_region 1 with (fail)
  have X1 := (Bo.newAt w (g := w.heap.size) (by simp) #[.bool s, .slice A n c, .int .i64 t] 27)
  have HB := Lib.hid (bel1 w (.cells #[.bool s, .slice A n c, .int .i64 t] 27))
  replace h := h.below HB.out
  generalize hW1 : (w.alloc (.cells #[.bool s, .slice A n c, .int .i64 t] 27)) = w1 at *
  clear hW1
  have xX10 := X1.at (i := 0) (v := .bool s) rfl
  have xX11 := X1.at (i := 1) (v := .slice A n c) rfl
  have xX12 := X1.at (i := 2) (v := .int .i64 t) rfl
  go_wp2_with fail
  refine (qMay h hm).mono ?_
  rintro ee w2 ⟨rfl, B⟩
  clear xX10 xX11 xX12
  replace X1 := X1.below B
  replace h := h.below B
  replace HB := Lib.hid (bt HB.out B)
  clear B
  have xX10 := X1.at (i := 0) (v := .bool s) rfl
  have xX11 := X1.at (i := 1) (v := .slice A n c) rfl
  have xX12 := X1.at (i := 2) (v := .int .i64 t) rfl
  go_wp2_with fail
  refine (uMake h hn rfl HR.out).mono ?_
  rintro ee w3 ⟨s3, A3, n3, c3, rfl, h3, k3, B⟩
  clear xX10 xX11 xX12
  replace X1 := X1.below B
  replace h := h.below B
  replace HB := Lib.hid (bt HB.out B)
  clear B
  go_upto_region 7 with (fail)
  have g4 := X1.lt
  replace X1 := X1.below (bel1 _ (.cells #[.bool s3, .slice A3 n3 c3, .int .i64 T] 27))
  replace HB := Lib.hid (bt HB.out (bel1 _ (.cells #[.bool s3, .slice A3 n3 c3, .int .i64 T] 27)))
  have X4 := Bo.new w3 #[.bool s3, .slice A3 n3 c3, .int .i64 T] 27
  generalize hWn : w3.alloc (.cells #[.bool s3, .slice A3 n3 c3, .int .i64 T] 27) = w4 at *
  clear hWn
  have xX10 := X1.at (i := 0) (v := .bool s) rfl
  have xX11 := X1.at (i := 1) (v := .slice A n c) rfl
  have xX12 := X1.at (i := 2) (v := .int .i64 t) rfl
  have xX40 := X4.at (i := 0) (v := .bool s3) rfl
  have xX41 := X4.at (i := 1) (v := .slice A3 n3 c3) rfl
  have xX42 := X4.at (i := 2) (v := .int .i64 T) rfl
  go_wp2
  go_ret
  exact ⟨rfl, HB.out⟩

set_option maxHeartbeats 4000000 in
theorem uMay_t {w : World} {A : Option Addr} {n c a : Nat} {s : Bool} {t Z T E : Int} {p : Bool} (h : Rd w A n c a) (hn : n ≤ 1000) (h0 : n ≠ 0) (hm : mayB s n a = true) (hr : mkA (sg s a) t = ((Z, T), E)) (hE : (E == 0) = true) (hp : (T == t) = p) :
    Calls Tryz.prog 17 #[.agg #[.bool s, .slice A n c, .int .i64 t]] w (PB w p) := by
  have tz : ((n : Int) == 0) = false := by simp; omega
  have HR := Lib.hid hr
  have HP := Lib.hid hp
  clear hp
  clear hr
  go_enter Tryz.func17, Tryz.ntmps17
  go_upto_region 1 with (fail)
  have X1 := (Bo.newAt w (g := w.heap.size) (by simp) #[.bool s, .slice A n c, .int .i64 t] 27)
  have HB := Lib.hid (bel1 w (.cells #[.bool s, .slice A n c, .int .i64 t] 27))
  replace h := h.below HB.out
  generalize hW1 : (w.alloc (.cells #[.bool s, .slice A n c, .int .i64 t] 27)) = w1 at *
  clear hW1
  have xX10 := X1.at (i := 0) (v := .bool s) rfl
  have xX11 := X1.at (i := 1) (v := .slice A n c) rfl
  have xX12 := X1.at (i := 2) (v := .int .i64 t) rfl
  go_wp2_with fail
  refine (qMay h hm).mono ?_
  rintro ee w2 ⟨rfl, B⟩
  clear xX10 xX11 xX12
  replace X1 := X1.below B
  replace h := h.below B
  replace HB := Lib.hid (bt HB.out B)
  clear B
  have xX10 := X1.at (i := 0) (v := .bool s) rfl
  have xX11 := X1.at (i := 1) (v := .slice A n c) rfl
  have xX12 := X1.at (i := 2) (v := .int .i64 t) rfl
  go_wp2_with fail
  refine (uMake h hn rfl HR.out).mono ?_
  rintro ee w3 ⟨s3, A3, n3, c3, rfl, h3, k3, B⟩
  clear xX10 xX11 xX12
  replace X1 := X1.below B
  replace h := h.below B
  replace HB := Lib.hid (bt HB.out B)
  clear B
  go_upto_region 7 with (fail)
  have g4 := X1.lt
  replace X1 := X1.below (bel1 _ (.cells #[.bool s3, .slice A3 n3 c3, .int .i64 T] 27))
  replace HB := Lib.hid (bt HB.out (bel1 _ (.cells #[.bool s3, .slice A3 n3 c3, .int .i64 T] 27)))
  have X4 := Bo.new w3 #[.bool s3, .slice A3 n3 c3, .int .i64 T] 27
  generalize hWn : w3.alloc (.cells #[.bool s3, .slice A3 n3 c3, .int .i64 T] 27) = w4 at *
  clear hWn
  have xX10 := X1.at (i := 0) (v := .bool s) rfl
  have xX11 := X1.at (i := 1) (v := .slice A n c) rfl
  have xX12 := X1.at (i := 2) (v := .int .i64 t) rfl
  have xX40 := X4.at (i := 0) (v := .bool s3) rfl
  have xX41 := X4.at (i := 1) (v := .slice A3 n3 c3) rfl
  have xX42 := X4.at (i := 2) (v := .int .i64 T) rfl
  go_wp2
  go_ret
  exact ⟨ret_bool HP.out, HB.out⟩

theorem uMay {w : World} {A : Option Addr} {n c a : Nat} {s : Bool} {t : Int} {r : Bool} (h : Rd w A n c a) (hn : n ≤ 1000) (hr : mayC s n a t = r) : Calls Tryz.prog 17 #[.agg #[.bool s, .slice A n c, .int .i64 t]] w (PB w r) := by
  subst hr
  unfold mayC
  cases hm : mayB s n a
  · exact uMay_no h hm
  · rw [Bool.true_and]
    by_cases h0 : n = 0
    · subst h0
      rw [if_pos rfl]
      exact uMay_zero h hm (by rw [Bool.eq_iff_iff]; simp)
    · rw [if_neg h0]
      have hl : (limbs a).length = n := by
        unfold mayB at hm
        simp only [Bool.and_eq_true, decide_eq_true_eq] at hm
        exact hm.1
      have ha : a ≠ 0 := by
        rintro rfl
        rw [limbs_zero] at hl
        exact h0 hl.symm
      obtain ⟨hu, hv⟩ := u10_spec a ha
      have hA := mkA_of (s := s) (t := t) hu hv
      by_cases hc : u10 a < 10 ^ 40 ∧ -400 ≤ t + v10 a ∧ t + v10 a ≤ 400
      · rw [if_pos hc] at hA
        refine uMay_t h hn h0 hm hA rfl ?_
        by_cases h10 : a % 10 = 0
        · have hv1 : v10 a ≠ 0 := by
            intro e
            rw [e] at hu
            simp at hu
            rw [← hu] at hv
            exact hv h10
          rw [show decide (a % 10 = 0) = true by simpa using h10]
          simp
          omega
        · rw [v10_no (.inr h10), u10_no (.inr h10)] at hc
          rw [v10_no (.inr h10)]
          simp [h10, hc.1]
          simp at hc
          exact ⟨hc.2.1, hc.2.2⟩
      · rw [if_neg hc] at hA
        have := uMay_e h hn h0 hm hA rfl
        have e : ((decide (-400 ≤ t) && decide (t ≤ 400)) && (decide (a < 10 ^ 40) && !decide (a % 10 = 0))) = false := by
          rw [Bool.eq_false_iff]
          intro hh
          simp only [Bool.and_eq_true, decide_eq_true_eq, Bool.not_eq_true', decide_eq_false_iff_not] at hh
          obtain ⟨⟨g1, g2⟩, g3, g4⟩ := hh
          rw [v10_no (.inr g4), u10_no (.inr g4)] at hc
          exact hc ⟨g3, by simpa using g1, by simpa using g2⟩
        rw [e]
        exact this

set_option maxHeartbeats 2000000 in
theorem uAlike {w : World} {A B : Option Addr} {n c m d : Nat} {s1 s2 : Bool} {z t : Int} (h : Wn w s1 A n c z) (k : Wn w s2 B m d z) : Calls Tryz.prog 11 #[.agg #[.bool s1, .slice A n c, .int .i64 t], .agg #[.bool s2, .slice B m d, .int .i64 t]] w (PB w true) := by
  go_enter Tryz.func11, Tryz.ntmps11
  go_upto_region 1 with (fail)
  have X1 := (Bo.newAt w (g := w.heap.size) (by simp) #[.bool s1, .slice A n c, .int .i64 t] 27).below (bel1 _ (.cells #[.bool s2, .slice B m d, .int .i64 t] 27))
  have X2 := (Bo.newAt (w.alloc (.cells #[.bool s1, .slice A n c, .int .i64 t] 27)) (g := w.heap.size + 1) (by simp) #[.bool s2, .slice B m d, .int .i64 t] 27)
  have HB := Lib.hid (bel2 w (.cells #[.bool s1, .slice A n c, .int .i64 t] 27) (.cells #[.bool s2, .slice B m d, .int .i64 t] 27))
  replace h := h.below HB.out
  replace k := k.below HB.out
  generalize hW1 : ((w.alloc (.cells #[.bool s1, .slice A n c, .int .i64 t] 27)).alloc (.cells #[.bool s2, .slice B m d, .int .i64 t] 27)) = w1 at *
  clear hW1
  have xX10 := X1.at (i := 0) (v := .bool s1) rfl
  have xX11 := X1.at (i := 1) (v := .slice A n c) rfl
  have xX12 := X1.at (i := 2) (v := .int .i64 t) rfl
  have xX20 := X2.at (i := 0) (v := .bool s2) rfl
  have xX21 := X2.at (i := 1) (v := .slice B m d) rfl
  have xX22 := X2.at (i := 2) (v := .int .i64 t) rfl
  go_wp2_with fail
  refine (qAlike h k).mono ?_
  rintro ee w2 ⟨rfl, B⟩
  clear xX10 xX11 xX12 xX20 xX21 xX22
  replace X1 := X1.below B
  replace X2 := X2.below B
  replace h := h.below B
  replace k := k.below B
  replace HB := Lib.hid (bt HB.out B)
  clear B
  have xX10 := X1.at (i := 0) (v := .bool s1) rfl
  have xX11 := X1.at (i := 1) (v := .slice A n c) rfl
  have xX12 := X1.at (i := 2) (v := .int .i64 t) rfl
  have xX20 := X2.at (i := 0) (v := .bool s2) rfl
  have xX21 := X2.at (i := 1) (v := .slice B m d) rfl
  have xX22 := X2.at (i := 2) (v := .int .i64 t) rfl
  go_wp2
  go_ret
  exact ⟨rfl, HB.out⟩
end Go.Proofs.YtdfnjhkcicnkpaaGreatDoor

/-
  What pelorusref04.Show answers.
-/
namespace Go.Proofs.YtdfnjhkcicnkpaaGreatDoor
open Go.RowKit
set_option linter.unusedVariables false
set_option linter.unusedSimpArgs false
set_option maxRecDepth 100000

set_option maxHeartbeats 2000000 in
theorem uShow_no {w : World} {A : Option Addr} {n c a : Nat} {s : Bool} {t : Int} (h : Rd w A n c a) (hn : n ≤ 20) (hm : mayC s n a t = false) : Calls Tryz.prog 19 #[.agg #[.bool s, .slice A n c, .int .i64 t]] w (PS w []) := by
  have hn8 : n ≤ 1000 := by omega
  have HM := Lib.hid hm
  clear hm
  go_enter Tryz.func19, Tryz.ntmps19
  go_upto_region 1 with (fail)
  have X1 := (Bo.newAt w (g := w.heap.size) (by simp) #[.bool s, .slice A n c, .int .i64 t] 27)
  have HB := Lib.hid (bel1 w (.cells #[.bool s, .slice A n c, .int .i64 t] 27))
  replace h := h.below HB.out
  generalize hW1 : (w.alloc (.cells #[.bool s, .slice A n c, .int .i64 t] 27)) = w1 at *
  clear hW1
  have xX10 := X1.at (i := 0) (v := .bool s) rfl
  have xX11 := X1.at (i := 1) (v := .slice A n c) rfl
  have xX12 := X1.at (i := 2) (v := .int .i64 t) rfl
  go_wp2_with fail
  refine (uMay h hn8 HM.out).mono ?_
  rintro ee w2 ⟨rfl, B⟩
  clear xX10 xX11 xX12
  replace X1 := X1.below B
  replace h := h.below B
  replace HB := Lib.hid (bt HB.out B)
  clear B
  have xX10 := X1.at (i := 0) (v := .bool s) rfl
  have xX11 := X1.at (i := 1) (v := .slice A n c) rfl
  have xX12 := X1.at (i := 2) (v := .int .i64 t) rfl
  go_wp2
  go_ret
  exact ⟨rfl, HB.out⟩

set_option maxHeartbeats 2000000 in
theorem uShow_tz {w : World} {A : Option Addr} {n c a : Nat} (h : Rd w A n c a) (hn : n ≤ 20) (hd : Lib.nDigits a ≤ 100) (hm : mayC true n a 0 = true) : Calls Tryz.prog 19 #[.agg #[.bool true, .slice A n c, .int .i64 0]] w (PS w (45 :: Lib.decDigits a)) := by
  have hn8 : n ≤ 1000 := by omega
  have hn9 : n ≤ 100000 := by omega
  have HM := Lib.hid hm
  have hdl : (Lib.decDigits a).length ≤ 100 := by rw [Lib.decDigits_length]; exact hd
  have HC := Lib.hid (fun w (h : Rd w A n c a) => uDigits h hn9)
  obtain ⟨D, hD⟩ : ∃ D, Lib.decDigits a = D := ⟨_, rfl⟩
  rw [hD] at hdl HC ⊢
  have hs1 : (st D).size = D.length := st_size D
  clear hm hD hd
  have hc1 := st_cat [45] D
  have hs2 : (st (45 :: D)).size = D.length + 1 := by rw [st_size]; simp
  go_enter Tryz.func19, Tryz.ntmps19
  go_upto_region 1 with (fail)
  have X1 := (Bo.newAt w (g := w.heap.size) (by simp) #[.bool true, .slice A n c, .int .i64 0] 27)
  have HB := Lib.hid (bel1 w (.cells #[.bool true, .slice A n c, .int .i64 0] 27))
  replace h := h.below HB.out
  generalize hW1 : (w.alloc (.cells #[.bool true, .slice A n c, .int .i64 0] 27)) = w1 at *
  clear hW1
  have xX10 := X1.at (i := 0) (v := .bool true) rfl
  have xX11 := X1.at (i := 1) (v := .slice A n c) rfl
  have xX12 := X1.at (i := 2) (v := .int .i64 0) rfl
  go_wp2_with fail
  refine (uMay h hn8 HM.out).mono ?_
  rintro ee w2 ⟨rfl, B⟩
  clear xX10 xX11 xX12
  replace X1 := X1.below B
  replace h := h.below B
  replace HB := Lib.hid (bt HB.out B)
  clear B
  have xX10 := X1.at (i := 0) (v := .bool true) rfl
  have xX11 := X1.at (i := 1) (v := .slice A n c) rfl
  have xX12 := X1.at (i := 2) (v := .int .i64 0) rfl
  go_wp2_with fail
  refine (HC.out _ h).mono ?_
  rintro ee w3 ⟨rfl, B⟩
  clear xX10 xX11 xX12
  replace X1 := X1.below B
  replace h := h.below B
  replace HB := Lib.hid (bt HB.out B)
  clear B
  have xX10 := X1.at (i := 0) (v := .bool true) rfl
  have xX11 := X1.at (i := 1) (v := .slice A n c) rfl
  have xX12 := X1.at (i := 2) (v := .int .i64 0) rfl
  go_wp2
  go_ret
  refine ⟨?_, HB.out⟩
  first | rfl | (simp [st_cat])

set_option maxHeartbeats 2000000 in
theorem uShow_tn {w : World} {A : Option Addr} {n c a : Nat} {t : Int} (h : Rd w A n c a) (hn : n ≤ 20) (hd : Lib.nDigits a ≤ 100) (hm : mayC true n a t = true) (ht : t < 0) (h1 : -400 ≤ t) : Calls Tryz.prog 19 #[.agg #[.bool true, .slice A n c, .int .i64 t]] w (PS w ((45 :: Lib.decDigits a) ++ ([101, 45] ++ Lib.decDigits t.natAbs))) := by
  have hn8 : n ≤ 1000 := by omega
  have hn9 : n ≤ 100000 := by omega
  have HM := Lib.hid hm
  have hdl : (Lib.decDigits a).length ≤ 100 := by rw [Lib.decDigits_length]; exact hd
  have HC := Lib.hid (fun w (h : Rd w A n c a) => uDigits h hn9)
  obtain ⟨D, hD⟩ : ∃ D, Lib.decDigits a = D := ⟨_, rfl⟩
  rw [hD] at hdl HC ⊢
  have hs1 : (st D).size = D.length := st_size D
  clear hm hD hd
  have hc1 := st_cat [45] D
  have hs2 : (st (45 :: D)).size = D.length + 1 := by rw [st_size]; simp
  obtain ⟨x, hx⟩ : ∃ x : Nat, (-t : Int) = x := ⟨t.natAbs, by omega⟩
  have hxn : t.natAbs = x := by omega
  rw [hxn]
  have hx4 : x ≤ 400 := by omega
  have HQ := Lib.hid (fun (w : World) (A : Option Addr) (h : Rd w A 1 1 x) => uDigits h (by omega))
  have hql : (Lib.decDigits x).length ≤ 3 := by rw [Lib.decDigits_length]; exact nDig_le (k := 2) (by omega)
  obtain ⟨Q, hQ⟩ : ∃ Q, Lib.decDigits x = Q := ⟨_, rfl⟩
  rw [hQ] at hql HQ ⊢
  have hs3 : (st Q).size = Q.length := st_size Q
  have hc2 := st_cat (45 :: D) [101, 45]
  have hs4 : (st ((45 :: D) ++ [101, 45])).size = D.length + 3 := by rw [st_size]; simp
  have hc3 := st_cat ((45 :: D) ++ [101, 45]) Q
  have t1 : decide (t < 0) = true := by simp; omega

  clear hxn hQ
  go_enter Tryz.func19, Tryz.ntmps19
  go_upto_region 1 with (fail)
  have X1 := (Bo.newAt w (g := w.heap.size) (by simp) #[.bool true, .slice A n c, .int .i64 t] 27)
  have HB := Lib.hid (bel1 w (.cells #[.bool true, .slice A n c, .int .i64 t] 27))
  replace h := h.below HB.out
  generalize hW1 : (w.alloc (.cells #[.bool true, .slice A n c, .int .i64 t] 27)) = w1 at *
  clear hW1
  have xX10 := X1.at (i := 0) (v := .bool true) rfl
  have xX11 := X1.at (i := 1) (v := .slice A n c) rfl
  have xX12 := X1.at (i := 2) (v := .int .i64 t) rfl
  go_wp2_with fail
  refine (uMay h hn8 HM.out).mono ?_
  rintro ee w2 ⟨rfl, B⟩
  clear xX10 xX11 xX12
  replace X1 := X1.below B
  replace h := h.below B
  replace HB := Lib.hid (bt HB.out B)
  clear B
  have xX10 := X1.at (i := 0) (v := .bool true) rfl
  have xX11 := X1.at (i := 1) (v := .slice A n c) rfl
  have xX12 := X1.at (i := 2) (v := .int .i64 t) rfl
  go_wp2_with fail
  refine (HC.out _ h).mono ?_
  rintro ee w3 ⟨rfl, B⟩
  clear xX10 xX11 xX12
  replace X1 := X1.below B
  replace h := h.below B
  replace HB := Lib.hid (bt HB.out B)
  clear B
  have xX10 := X1.at (i := 0) (v := .bool true) rfl
  have xX11 := X1.at (i := 1) (v := .slice A n c) rfl
  have xX12 := X1.at (i := 2) (v := .int .i64 t) rfl
  go_wp2_with fail
  refine (HQ.out _ _ (lit_rd w3 (x := x) rfl (by first | rfl | omega) (by omega))).mono ?_
  rintro ee w4 ⟨rfl, B⟩
  clear xX10 xX11 xX12
  replace B := bt (bel1 _ _) B
  replace X1 := X1.below B
  replace h := h.below B
  replace HB := Lib.hid (bt HB.out B)
  clear B
  have xX10 := X1.at (i := 0) (v := .bool true) rfl
  have xX11 := X1.at (i := 1) (v := .slice A n c) rfl
  have xX12 := X1.at (i := 2) (v := .int .i64 t) rfl
  go_wp2
  go_ret
  refine ⟨?_, HB.out⟩
  first | rfl | (simp [st_cat])

set_option maxHeartbeats 2000000 in
theorem uShow_tp {w : World} {A : Option Addr} {n c a : Nat} {t : Int} (h : Rd w A n c a) (hn : n ≤ 20) (hd : Lib.nDigits a ≤ 100) (hm : mayC true n a t = true) (ht : 0 < t) (h2 : t ≤ 400) : Calls Tryz.prog 19 #[.agg #[.bool true, .slice A n c, .int .i64 t]] w (PS w ((45 :: Lib.decDigits a) ++ ([101] ++ Lib.decDigits t.natAbs))) := by
  have hn8 : n ≤ 1000 := by omega
  have hn9 : n ≤ 100000 := by omega
  have HM := Lib.hid hm
  have hdl : (Lib.decDigits a).length ≤ 100 := by rw [Lib.decDigits_length]; exact hd
  have HC := Lib.hid (fun w (h : Rd w A n c a) => uDigits h hn9)
  obtain ⟨D, hD⟩ : ∃ D, Lib.decDigits a = D := ⟨_, rfl⟩
  rw [hD] at hdl HC ⊢
  have hs1 : (st D).size = D.length := st_size D
  clear hm hD hd
  have hc1 := st_cat [45] D
  have hs2 : (st (45 :: D)).size = D.length + 1 := by rw [st_size]; simp
  obtain ⟨x, rfl⟩ : ∃ x : Nat, t = (x : Int) := ⟨t.natAbs, by omega⟩
  have hxn : (x : Int).natAbs = x := by omega
  rw [hxn]
  have hx4 : x ≤ 400 := by omega
  have HQ := Lib.hid (fun (w : World) (A : Option Addr) (h : Rd w A 1 1 x) => uDigits h (by omega))
  have hql : (Lib.decDigits x).length ≤ 3 := by rw [Lib.decDigits_length]; exact nDig_le (k := 2) (by omega)
  obtain ⟨Q, hQ⟩ : ∃ Q, Lib.decDigits x = Q := ⟨_, rfl⟩
  rw [hQ] at hql HQ ⊢
  have hs3 : (st Q).size = Q.length := st_size Q
  have hc2 := st_cat (45 :: D) [101]
  have hs4 : (st ((45 :: D) ++ [101])).size = D.length + 2 := by rw [st_size]; simp
  have hc3 := st_cat ((45 :: D) ++ [101]) Q
  have t1 : decide ((x : Int) < 0) = false := by simp
  have t2 : decide ((0 : Int) < (x : Int)) = true := by simp; omega
  clear hxn hQ
  go_enter Tryz.func19, Tryz.ntmps19
  go_upto_region 1 with (fail)
  have X1 := (Bo.newAt w (g := w.heap.size) (by simp) #[.bool true, .slice A n c, .int .i64 (x : Int)] 27)
  have HB := Lib.hid (bel1 w (.cells #[.bool true, .slice A n c, .int .i64 (x : Int)] 27))
  replace h := h.below HB.out
  generalize hW1 : (w.alloc (.cells #[.bool true, .slice A n c, .int .i64 (x : Int)] 27)) = w1 at *
  clear hW1
  have xX10 := X1.at (i := 0) (v := .bool true) rfl
  have xX11 := X1.at (i := 1) (v := .slice A n c) rfl
  have xX12 := X1.at (i := 2) (v := .int .i64 (x : Int)) rfl
  go_wp2_with fail
  refine (uMay h hn8 HM.out).mono ?_
  rintro ee w2 ⟨rfl, B⟩
  clear xX10 xX11 xX12
  replace X1 := X1.below B
  replace h := h.below B
  replace HB := Lib.hid (bt HB.out B)
  clear B
  have xX10 := X1.at (i := 0) (v := .bool true) rfl
  have xX11 := X1.at (i := 1) (v := .slice A n c) rfl
  have xX12 := X1.at (i := 2) (v := .int .i64 (x : Int)) rfl
  go_wp2_with fail
  refine (HC.out _ h).mono ?_
  rintro ee w3 ⟨rfl, B⟩
  clear xX10 xX11 xX12
  replace X1 := X1.below B
  replace h := h.below B
  replace HB := Lib.hid (bt HB.out B)
  clear B
  have xX10 := X1.at (i := 0) (v := .bool true) rfl
  have xX11 := X1.at (i := 1) (v := .slice A n c) rfl
  have xX12 := X1.at (i := 2) (v := .int .i64 (x : Int)) rfl
  go_wp2_with fail
  refine (HQ.out _ _ (lit_rd w3 (x := x) rfl (by first | rfl | omega) (by omega))).mono ?_
  rintro ee w4 ⟨rfl, B⟩
  clear xX10 xX11 xX12
  replace B := bt (bel1 _ _) B
  replace X1 := X1.below B
  replace h := h.below B
  replace HB := Lib.hid (bt HB.out B)
  clear B
  have xX10 := X1.at (i := 0) (v := .bool true) rfl
  have xX11 := X1.at (i := 1) (v := .slice A n c) rfl
  have xX12 := X1.at (i := 2) (v := .int .i64 (x : Int)) rfl
  go_wp2
  go_ret
  refine ⟨?_, HB.out⟩
  first | rfl | (simp [st_cat])

set_option maxHeartbeats 2000000 in
theorem uShow_fz {w : World} {A : Option Addr} {n c a : Nat} (h : Rd w A n c a) (hn : n ≤ 20) (hd : Lib.nDigits a ≤ 100) (hm : mayC false n a 0 = true) : Calls Tryz.prog 19 #[.agg #[.bool false, .slice A n c, .int .i64 0]] w (PS w (Lib.decDigits a)) := by
  have hn8 : n ≤ 1000 := by omega
  have hn9 : n ≤ 100000 := by omega
  have HM := Lib.hid hm
  have hdl : (Lib.decDigits a).length ≤ 100 := by rw [Lib.decDigits_length]; exact hd
  have HC := Lib.hid (fun w (h : Rd w A n c a) => uDigits h hn9)
  obtain ⟨D, hD⟩ : ∃ D, Lib.decDigits a = D := ⟨_, rfl⟩
  rw [hD] at hdl HC ⊢
  have hs1 : (st D).size = D.length := st_size D
  clear hm hD hd
  go_enter Tryz.func19, Tryz.ntmps19
  go_upto_region 1 with (fail)
  have X1 := (Bo.newAt w (g := w.heap.size) (by simp) #[.bool false, .slice A n c, .int .i64 0] 27)
  have HB := Lib.hid (bel1 w (.cells #[.bool false, .slice A n c, .int .i64 0] 27))
  replace h := h.below HB.out
  generalize hW1 : (w.alloc (.cells #[.bool false, .slice A n c, .int .i64 0] 27)) = w1 at *
  clear hW1
  have xX10 := X1.at (i := 0) (v := .bool false) rfl
  have xX11 := X1.at (i := 1) (v := .slice A n c) rfl
  have xX12 := X1.at (i := 2) (v := .int .i64 0) rfl
  go_wp2_with fail
  refine (uMay h hn8 HM.out).mono ?_
  rintro ee w2 ⟨rfl, B⟩
  clear xX10 xX11 xX12
  replace X1 := X1.below B
  replace h := h.below B
  replace HB := Lib.hid (bt HB.out B)
  clear B
  have xX10 := X1.at (i := 0) (v := .bool false) rfl
  have xX11 := X1.at (i := 1) (v := .slice A n c) rfl
  have xX12 := X1.at (i := 2) (v := .int .i64 0) rfl
  go_wp2_with fail
  refine (HC.out _ h).mono ?_
  rintro ee w3 ⟨rfl, B⟩
  clear xX10 xX11 xX12
  replace X1 := X1.below B
  replace h := h.below B
  replace HB := Lib.hid (bt HB.out B)
  clear B
  have xX10 := X1.at (i := 0) (v := .bool false) rfl
  have xX11 := X1.at (i := 1) (v := .slice A n c) rfl
  have xX12 := X1.at (i := 2) (v := .int .i64 0) rfl
  go_wp2
  go_ret
  refine ⟨?_, HB.out⟩
  first | rfl | (simp [st_cat])

set_option maxHeartbeats 2000000 in
theorem uShow_fn {w : World} {A : Option Addr} {n c a : Nat} {t : Int} (h : Rd w A n c a) (hn : n ≤ 20) (hd : Lib.nDigits a ≤ 100) (hm : mayC false n a t = true) (ht : t < 0) (h1 : -400 ≤ t) : Calls Tryz.prog 19 #[.agg #[.bool false, .slice A n c, .int .i64 t]] w (PS w ((Lib.decDigits a) ++ ([101, 45] ++ Lib.decDigits t.natAbs))) := by
  have hn8 : n ≤ 1000 := by omega
  have hn9 : n ≤ 100000 := by omega
  have HM := Lib.hid hm
  have hdl : (Lib.decDigits a).length ≤ 100 := by rw [Lib.decDigits_length]; exact hd
  have HC := Lib.hid (fun w (h : Rd w A n c a) => uDigits h hn9)
  obtain ⟨D, hD⟩ : ∃ D, Lib.decDigits a = D := ⟨_, rfl⟩
  rw [hD] at hdl HC ⊢
  have hs1 : (st D).size = D.length := st_size D
  clear hm hD hd
  obtain ⟨x, hx⟩ : ∃ x : Nat, (-t : Int) = x := ⟨t.natAbs, by omega⟩
  have hxn : t.natAbs = x := by omega
  rw [hxn]
  have hx4 : x ≤ 400 := by omega
  have HQ := Lib.hid (fun (w : World) (A : Option Addr) (h : Rd w A 1 1 x) => uDigits h (by omega))
  have hql : (Lib.decDigits x).length ≤ 3 := by rw [Lib.decDigits_length]; exact nDig_le (k := 2) (by omega)
  obtain ⟨Q, hQ⟩ : ∃ Q, Lib.decDigits x = Q := ⟨_, rfl⟩
  rw [hQ] at hql HQ ⊢
  have hs3 : (st Q).size = Q.length := st_size Q
  have hc2 := st_cat D [101, 45]
  have hs4 : (st (D ++ [101, 45])).size = D.length + 2 := by rw [st_size]; simp
  have hc3 := st_cat (D ++ [101, 45]) Q
  have t1 : decide (t < 0) = true := by simp; omega

  clear hxn hQ
  go_enter Tryz.func19, Tryz.ntmps19
  go_upto_region 1 with (fail)
  have X1 := (Bo.newAt w (g := w.heap.size) (by simp) #[.bool false, .slice A n c, .int .i64 t] 27)
  have HB := Lib.hid (bel1 w (.cells #[.bool false, .slice A n c, .int .i64 t] 27))
  replace h := h.below HB.out
  generalize hW1 : (w.alloc (.cells #[.bool false, .slice A n c, .int .i64 t] 27)) = w1 at *
  clear hW1
  have xX10 := X1.at (i := 0) (v := .bool false) rfl
  have xX11 := X1.at (i := 1) (v := .slice A n c) rfl
  have xX12 := X1.at (i := 2) (v := .int .i64 t) rfl
  go_wp2_with fail
  refine (uMay h hn8 HM.out).mono ?_
  rintro ee w2 ⟨rfl, B⟩
  clear xX10 xX11 xX12
  replace X1 := X1.below B
  replace h := h.below B
  replace HB := Lib.hid (bt HB.out B)
  clear B
  have xX10 := X1.at (i := 0) (v := .bool false) rfl
  have xX11 := X1.at (i := 1) (v := .slice A n c) rfl
  have xX12 := X1.at (i := 2) (v := .int .i64 t) rfl
  go_wp2_with fail
  refine (HC.out _ h).mono ?_
  rintro ee w3 ⟨rfl, B⟩
  clear xX10 xX11 xX12
  replace X1 := X1.below B
  replace h := h.below B
  replace HB := Lib.hid (bt HB.out B)
  clear B
  have xX10 := X1.at (i := 0) (v := .bool false) rfl
  have xX11 := X1.at (i := 1) (v := .slice A n c) rfl
  have xX12 := X1.at (i := 2) (v := .int .i64 t) rfl
  go_wp2_with fail
  refine (HQ.out _ _ (lit_rd w3 (x := x) rfl (by first | rfl | omega) (by omega))).mono ?_
  rintro ee w4 ⟨rfl, B⟩
  clear xX10 xX11 xX12
  replace B := bt (bel1 _ _) B
  replace X1 := X1.below B
  replace h := h.below B
  replace HB := Lib.hid (bt HB.out B)
  clear B
  have xX10 := X1.at (i := 0) (v := .bool false) rfl
  have xX11 := X1.at (i := 1) (v := .slice A n c) rfl
  have xX12 := X1.at (i := 2) (v := .int .i64 t) rfl
  go_wp2
  go_ret
  refine ⟨?_, HB.out⟩
  first | rfl | (simp [st_cat])

set_option maxHeartbeats 2000000 in
theorem uShow_fp {w : World} {A : Option Addr} {n c a : Nat} {t : Int} (h : Rd w A n c a) (hn : n ≤ 20) (hd : Lib.nDigits a ≤ 100) (hm : mayC false n a t = true) (ht : 0 < t) (h2 : t ≤ 400) : Calls Tryz.prog 19 #[.agg #[.bool false, .slice A n c, .int .i64 t]] w (PS w ((Lib.decDigits a) ++ ([101] ++ Lib.decDigits t.natAbs))) := by
  have hn8 : n ≤ 1000 := by omega
  have hn9 : n ≤ 100000 := by omega
  have HM := Lib.hid hm
  have hdl : (Lib.decDigits a).length ≤ 100 := by rw [Lib.decDigits_length]; exact hd
  have HC := Lib.hid (fun w (h : Rd w A n c a) => uDigits h hn9)
  obtain ⟨D, hD⟩ : ∃ D, Lib.decDigits a = D := ⟨_, rfl⟩
  rw [hD] at hdl HC ⊢
  have hs1 : (st D).size = D.length := st_size D
  clear hm hD hd
  obtain ⟨x, rfl⟩ : ∃ x : Nat, t = (x : Int) := ⟨t.natAbs, by omega⟩
  have hxn : (x : Int).natAbs = x := by omega
  rw [hxn]
  have hx4 : x ≤ 400 := by omega
  have HQ := Lib.hid (fun (w : World) (A : Option Addr) (h : Rd w A 1 1 x) => uDigits h (by omega))
  have hql : (Lib.decDigits x).length ≤ 3 := by rw [Lib.decDigits_length]; exact nDig_le (k := 2) (by omega)
  obtain ⟨Q, hQ⟩ : ∃ Q, Lib.decDigits x = Q := ⟨_, rfl⟩
  rw [hQ] at hql HQ ⊢
  have hs3 : (st Q).size = Q.length := st_size Q
  have hc2 := st_cat D [101]
  have hs4 : (st (D ++ [101])).size = D.length + 1 := by rw [st_size]; simp
  have hc3 := st_cat (D ++ [101]) Q
  have t1 : decide ((x : Int) < 0) = false := by simp
  have t2 : decide ((0 : Int) < (x : Int)) = true := by simp; omega
  clear hxn hQ
  go_enter Tryz.func19, Tryz.ntmps19
  go_upto_region 1 with (fail)
  have X1 := (Bo.newAt w (g := w.heap.size) (by simp) #[.bool false, .slice A n c, .int .i64 (x : Int)] 27)
  have HB := Lib.hid (bel1 w (.cells #[.bool false, .slice A n c, .int .i64 (x : Int)] 27))
  replace h := h.below HB.out
  generalize hW1 : (w.alloc (.cells #[.bool false, .slice A n c, .int .i64 (x : Int)] 27)) = w1 at *
  clear hW1
  have xX10 := X1.at (i := 0) (v := .bool false) rfl
  have xX11 := X1.at (i := 1) (v := .slice A n c) rfl
  have xX12 := X1.at (i := 2) (v := .int .i64 (x : Int)) rfl
  go_wp2_with fail
  refine (uMay h hn8 HM.out).mono ?_
  rintro ee w2 ⟨rfl, B⟩
  clear xX10 xX11 xX12
  replace X1 := X1.below B
  replace h := h.below B
  replace HB := Lib.hid (bt HB.out B)
  clear B
  have xX10 := X1.at (i := 0) (v := .bool false) rfl
  have xX11 := X1.at (i := 1) (v := .slice A n c) rfl
  have xX12 := X1.at (i := 2) (v := .int .i64 (x : Int)) rfl
  go_wp2_with fail
  refine (HC.out _ h).mono ?_
  rintro ee w3 ⟨rfl, B⟩
  clear xX10 xX11 xX12
  replace X1 := X1.below B
  replace h := h.below B
  replace HB := Lib.hid (bt HB.out B)
  clear B
  have xX10 := X1.at (i := 0) (v := .bool false) rfl
  have xX11 := X1.at (i := 1) (v := .slice A n c) rfl
  have xX12 := X1.at (i := 2) (v := .int .i64 (x : Int)) rfl
  go_wp2_with fail
  refine (HQ.out _ _ (lit_rd w3 (x := x) rfl (by first | rfl | omega) (by omega))).mono ?_
  rintro ee w4 ⟨rfl, B⟩
  clear xX10 xX11 xX12
  replace B := bt (bel1 _ _) B
  replace X1 := X1.below B
  replace h := h.below B
  replace HB := Lib.hid (bt HB.out B)
  clear B
  have xX10 := X1.at (i := 0) (v := .bool false) rfl
  have xX11 := X1.at (i := 1) (v := .slice A n c) rfl
  have xX12 := X1.at (i := 2) (v := .int .i64 (x : Int)) rfl
  go_wp2
  go_ret
  refine ⟨?_, HB.out⟩
  first | rfl | (simp [st_cat])

theorem uShow {w : World} {A : Option Addr} {n c a : Nat} {s : Bool} {t : Int} {l : List UInt8} (h : Rd w A n c a) (hn : n ≤ 20) (hl : shD s n a t = l) : Calls Tryz.prog 19 #[.agg #[.bool s, .slice A n c, .int .i64 t]] w (PS w l) := by
  subst hl
  unfold shD
  have hbd := h.bound
  cases hm : mayC s n a t
  · exact uShow_no h hn hm
  · rw [if_pos rfl]
    have hd := nDig_may hm hbd
    have hsgn : s = true → a ≠ 0 := by
      rintro rfl e
      subst e
      simp [mayC, mayB] at hm
      obtain ⟨⟨h1, h2⟩, _⟩ := hm
      rw [limbs_zero] at h1
      simp at h1
      omega
    have ht : -400 ≤ t ∧ t ≤ 400 := by
      unfold mayC at hm
      by_cases hn0 : n = 0
      · simp [hn0] at hm; omega
      · rw [if_neg hn0] at hm
        simp only [Bool.and_eq_true, decide_eq_true_eq] at hm
        exact hm.2.1
    have e0 : ¬ sg false a < 0 := by simp [sg]
    have e1 : s = true → sg s a < 0 := by rintro rfl; have := hsgn rfl; simp [sg]; omega
    by_cases h0 : t = 0
    · subst h0
      cases s
      · have := uShow_fz h hn hd hm
        unfold shw
        rw [if_neg e0, if_pos rfl, sg_natAbs]
        simpa using this
      · have := uShow_tz h hn hd hm
        unfold shw
        rw [if_pos (e1 rfl), if_pos rfl, sg_natAbs]
        simpa using this
    · by_cases hneg : t < 0
      · have hi : Lib.itoa t = 45 :: Lib.decDigits t.natAbs := by unfold Lib.itoa; rw [if_pos hneg]
        cases s
        · have := uShow_fn h hn hd hm hneg ht.1
          unfold shw
          rw [if_neg e0, if_neg h0, sg_natAbs, hi]
          simpa using this
        · have := uShow_tn h hn hd hm hneg ht.1
          unfold shw
          rw [if_pos (e1 rfl), if_neg h0, sg_natAbs, hi]
          simpa using this
      · have hi : Lib.itoa t = Lib.decDigits t.natAbs := by unfold Lib.itoa; rw [if_neg hneg, show t.toNat = t.natAbs by omega]
        cases s
        · have := uShow_fp h hn hd hm (by omega) ht.2
          unfold shw
          rw [if_neg e0, if_neg h0, sg_natAbs, hi]
          simpa using this
        · have := uShow_tp h hn hd hm (by omega) ht.2
          unfold shw
          rw [if_pos (e1 rfl), if_neg h0, sg_natAbs, hi]
          simpa using this
end Go.Proofs.YtdfnjhkcicnkpaaGreatDoor

/-
  What pelorusref04.Up and Cmp answer.
-/
namespace Go.Proofs.YtdfnjhkcicnkpaaGreatDoor
open Go.RowKit
set_option linter.unusedVariables false
set_option linter.unusedSimpArgs false
set_option maxRecDepth 100000

def Jo.Fact.wr (z : Int) (K : Nat) : Jo.Fact := ⟨fun v w => ∃ s A n c, v = .agg #[.bool s, .slice A n c] ∧ Wr w s A n c z ∧ n ≤ K, fun v w w' h b => by
  obtain ⟨s, A, n, c, e, h, k⟩ := h
  exact ⟨s, A, n, c, e, h.below b, k⟩⟩
theorem qTen (w : World) : Calls Tryz.prog 92 #[.int .i64 10] w (W1 w 2 10) := qFrom 10 w (by omega) (by omega)
theorem Wr.stn' {w w' : World} {g : Nat} {old new : Array Value} {T : TypeId} {s : Bool} {B : Option Addr} {m d : Nat} {z : Int} (h : Wr w s B m d z) (S : StN w w' g old new T) (hn : old.all no32 = true) : Wr w' s B m d z := h.stn S hn
/-- The call answers an integer, told of a sign and limbs. -/
def WR (w : World) (K : Nat) (z : Int) (e : Ending) (w' : World) : Prop := ∃ s A n c, e = .returned (.agg #[.bool s, .slice A n c]) ∧ Wr w' s A n c z ∧ n ≤ K ∧ Below w.heap.size w w'
def UpInv (w : World) (n : Nat) (z : Int) (k : Nat) (wr : World) : Prop :=
  ∃ s A m c, Bo wr w.heap.size #[.bool s, .slice A m c] 25 ∧ Bo wr (w.heap.size + 1) #[.bool false, .slice none 0 0] 25 ∧ Wr wr s A m c (z * ((10 ^ k : Nat) : Int)) ∧ m ≤ n + 2 * k ∧ Below w.heap.size w wr

set_option maxHeartbeats 2000000 in
theorem uUp {w : World} {A : Option Addr} {n c : Nat} {s : Bool} {z r : Int} {k : Nat} {t : Int} (h : Wr w s A n c z) (hn : n ≤ 1000) (ht : t = k) (hk : k ≤ 1000) (hr : z * ((10 ^ k : Nat) : Int) = r) : Calls Tryz.prog 57 #[.agg #[.bool s, .slice A n c], .int .i64 t] w (WR w 3000 r) := by
  subst ht
  have HR := Lib.hid hr
  clear hr
  go_enter Tryz.func57, Tryz.ntmps57
  go_upto_region 1 with (fail)
  have X1 := (Bo.newAt w (g := w.heap.size) (by simp) #[.bool s, .slice A n c] 25).below (bel1 _ (.cells #[.bool false, .slice none 0 0] 25))
  have XR := (Bo.newAt (w.alloc (.cells #[.bool s, .slice A n c] 25)) (g := w.heap.size + 1) (by simp) #[.bool false, .slice none 0 0] 25)
  have HB := Lib.hid (bel2 w (.cells #[.bool s, .slice A n c] 25) (.cells #[.bool false, .slice none 0 0] 25))
  replace h := h.below HB.out
  generalize hW1 : ((w.alloc (.cells #[.bool s, .slice A n c] 25)).alloc (.cells #[.bool false, .slice none 0 0] 25)) = w1 at *
  clear hW1
  go_wp2
  have HI0 := Lib.hid (show UpInv w n z 0 w1 from ⟨s, A, n, c, X1, XR, by simpa using h, by omega, HB.out⟩)
  clear X1 XR h HB
  go_loopw [5] (fun i wr => ∃ j : Nat, i = .int .i64 j ∧ j ≤ k ∧ UpInv w n z j wr) (fun i _ => 2000 - (intOf i).toNat)
  case atStart => exact ⟨0, rfl, Nat.zero_le _, HI0.out⟩
  case round =>
    obtain ⟨j, rfl, hj, s2, A2, n2, c2, X1, XR, h2, hn2, hB⟩ := hrel
    have HB := Lib.hid hB
    clear hB HI0
    by_cases hlt : j < k
    · have tlt : decide ((j : Int) < (k : Int)) = true := by simp; omega
      go_wp2
      refine Jo.region_joint (T := [0, 1, 2]) (ds := [some 11, some 12, some 13, none]) (ls := [[], [], [0, 1], []]) (k := 4) (L := [(some 11, 0), (some 12, 1), (some 13, 2)]) (fuel := 1) (J := fun wj => Below (World.heap wr).size wr wj)
        (F := [Jo.Fact.eq (.agg #[.bool s2, .slice A2 n2 c2]), Jo.Fact.wn 10 2, Jo.Fact.wn (z * ((10 ^ j : Nat) : Int) * 10) (n2 + 2), Jo.Fact.any])
        (by kernel_rfl) (by kernel_rfl) (by decide) rfl rfl (fun _ _ h b => bt h b) ((Below.refl _ _).drew) ?_ (fun vs w4 hJ hd => ?_)
      · refine Jo.jcons (i := 0) (o := ⟨some 11, _, _, _, _, _⟩) (di := some 11) (L := []) (f := Jo.Fact.eq (.agg #[.bool s2, .slice A2 n2 c2])) rfl rfl rfl rfl (fun vs wj hJ hd K hK => ?_) ?_
        · clear hd
          simp only [Jo.putl, List.foldl_nil, Act.put, List.setIfInBounds_toArray, List.set_cons_zero, List.set_cons_succ] at hK ⊢
          have xX10 : World.cell? wj ⟨w.heap.size, 0, none⟩ = some (.bool s2) := (X1.below hJ).cell 0
          have xX11 : World.cell? wj ⟨w.heap.size, 1, none⟩ = some (.slice A2 n2 c2) := (X1.below hJ).cell 1
          go_simp
          exact hK.out _ _ rfl (Below.refl _ _)
        refine Jo.jcons (i := 1) (o := ⟨some 12, _, _, _, _, _⟩) (di := some 12) (L := []) (f := Jo.Fact.wn 10 2) rfl rfl rfl rfl (fun vs wj hJ hd K hK => ?_) ?_
        · clear hd
          simp only [Jo.putl, List.foldl_nil, Act.put, List.setIfInBounds_toArray, List.set_cons_zero, List.set_cons_succ] at hK ⊢
          go_simp
          refine (qTen _).mono ?_
          rintro ee wk ⟨s3, A3, n3, c3, rfl, h3, k3, B⟩
          exact hK.out _ _ ⟨_, _, _, _, rfl, h3, k3⟩ B
        refine Jo.jcons (i := 2) (o := ⟨some 13, _, _, _, _, _⟩) (di := some 13) (L := [(some 11, 0), (some 12, 1)]) (f := Jo.Fact.wn (z * ((10 ^ j : Nat) : Int) * 10) (n2 + 2)) rfl rfl rfl rfl (fun vs wj hJ hd K hK => ?_) ?_
        · have d0 : (Jo.Fact.eq (.agg #[.bool s2, .slice A2 n2 c2])).P (vs 0) wj := hd 0 (by decide)
          have d1 : (Jo.Fact.wn 10 2).P (vs 1) wj := hd 1 (by decide)
          clear hd
          simp only [Jo.putl, List.foldl_cons, List.foldl_nil, Act.put, List.setIfInBounds_toArray, List.set_cons_zero, List.set_cons_succ] at hK ⊢
          generalize vs 0 = u0 at hK d0 ⊢
          generalize vs 1 = u1 at hK d1 ⊢
          replace d0 : u0 = _ := d0
          subst d0
          obtain ⟨s3, A3, n3, c3, rfl, h3, k3⟩ := d1
          go_simp
          refine (qTwo (h2.below hJ) h3.wr (by omega) (by omega) rfl).mono ?_
          rintro ee wk ⟨s4, A4, n4, c4, rfl, h4, k4, B⟩
          exact hK.out _ _ ⟨_, _, _, _, rfl, h4, by omega⟩ B
        exact Jo.Steps.nil
      have d0 : (Jo.Fact.eq (.agg #[.bool s2, .slice A2 n2 c2])).P (vs 0) w4 := hd 0 (by decide)
      have d1 : (Jo.Fact.wn 10 2).P (vs 1) w4 := hd 1 (by decide)
      have d2 : (Jo.Fact.wn (z * ((10 ^ j : Nat) : Int) * 10) (n2 + 2)).P (vs 2) w4 := hd 2 (by decide)
      clear hd
      simp only [Jo.putl, List.foldl_cons, List.foldl_nil, Act.put, List.setIfInBounds_toArray, List.set_cons_zero, List.set_cons_succ]
      generalize vs 0 = u0 at d0 ⊢
      generalize vs 1 = u1 at d1 ⊢
      generalize vs 2 = u2 at d2 ⊢
      clear vs
      replace d0 : u0 = _ := d0
      subst d0
      obtain ⟨s3, A3, n3, c3, rfl, _, _⟩ := d1
      obtain ⟨s4, A4, n4, c4, rfl, h4, k4⟩ := d2
      replace X1 := X1.below hJ
      replace XR := XR.below hJ
      replace h2 := h2.below hJ
      replace HB := Lib.hid (bt HB.out hJ)
      have xX10 := X1.at (i := 0) (v := .bool s2) rfl
      have zX10 := X1.frozen 0
      have xX11 := X1.at (i := 1) (v := .slice A2 n2 c2) rfl
      have zX11 := X1.frozen 1
      refine Jo.jnext (i := 3) (o := ⟨none, _, _, _, _, _⟩) (by kernel_rfl) rfl (fun K hK => ?_)
      go_simp
      refine hK.out _ _ ?_
      clear hK K xX10 zX10 xX11 zX11
      have SX := StN.mk2 X1 (.bool s4) (.slice A4 n4 c4)
      replace XR := XR.stn SX (by omega)
      replace h2 := h2.stn SX (by simp [no32])
      replace h4 := h4.stn SX (by simp [no32])
      replace HB := Lib.hid (SX.below HB.out (by omega))
      replace X1 := SX.box
      clear SX
      generalize (World.setCell (World.setCell w4 ⟨w.heap.size, 0, none⟩ (.bool s4)) ⟨w.heap.size, 1, none⟩ (.slice A4 n4 c4)) = w5 at *
      refine Jo.jdone (by kernel_rfl) ?_
      have e10 : z * ((10 ^ j : Nat) : Int) * 10 = z * ((10 ^ (j + 1) : Nat) : Int) := by
        rw [Nat.pow_succ, Int.natCast_mul, Int.mul_assoc]
        rfl
      rw [e10] at h4
      have HI := Lib.hid (show UpInv w n z (j + 1) w5 from ⟨s4, A4, n4, c4, X1, XR, h4.wr, by omega, HB.out⟩)
      clear X1 XR h2 h4 HB e10
      go_wp2
      go_roundw
      case rel => exact ⟨j + 1, by simp, by omega, HI.out⟩
      case measure => simp [intOf]; omega
    · obtain rfl : j = k := by omega
      have xX10 := X1.at (i := 0) (v := .bool s2) rfl
      have xX11 := X1.at (i := 1) (v := .slice A2 n2 c2) rfl
      have xXR0 := XR.at (i := 0) (v := .bool false) rfl
      have zXR0 := XR.frozen 0
      have xXR1 := XR.at (i := 1) (v := .slice none 0 0) rfl
      have zXR1 := XR.frozen 1
      go_wp2
      clear xX10 xX11 xXR0 zXR0 xXR1 zXR1
      have SX := StN.mk2 XR (.bool s2) (.slice A2 n2 c2)
      replace X1 := X1.stn SX (by omega)
      replace h2 := h2.stn SX (by simp [no32])
      replace HB := Lib.hid (SX.below HB.out (by omega))
      replace XR := SX.box
      clear SX
      generalize (World.setCell (World.setCell wr ⟨w.heap.size + 1, 0, none⟩ (.bool s2)) ⟨w.heap.size + 1, 1, none⟩ (.slice A2 n2 c2)) = w6 at *
      have r0 := XR.cell 0
      have r1 := XR.cell 1
      exact bodyPost_ret (v := .agg #[.bool s2, .slice A2 n2 c2]) (by simp [results, Tryz.results57, go_sem, r0, r1]) rfl ⟨s2, A2, n2, c2, rfl, HR.out ▸ h2, by omega, HB.out⟩

set_option maxHeartbeats 2000000 in
theorem uCmp_ff {w : World} {A B : Option Addr} {n c a m d b k1 k2 : Nat} {s1 s2 : Bool} {t1 t2 : Int} (h1 : Rd w A n c a) (h2 : Rd w B m d b) (hn : n ≤ 20) (hm : m ≤ 20) (hm1 : mayC s1 n a t1 = false) (hm2 : mayC s2 m b t2 = false) :
    Calls Tryz.prog 21 #[.agg #[.bool s1, .slice A n c, .int .i64 t1], .agg #[.bool s2, .slice B m d, .int .i64 t2]] w (PI w 0) := by
  have hn8 : n ≤ 1000 := by omega
  have hm8 : m ≤ 1000 := by omega
  have HM1 := Lib.hid hm1
  have HM2 := Lib.hid hm2
  clear hm1 hm2
  go_enter Tryz.func21, Tryz.ntmps21
  go_upto_region 1 with (fail)
  have X1 := (Bo.newAt w (g := w.heap.size) (by simp) #[.bool s1, .slice A n c, .int .i64 t1] 27).below (bel1 _ (.cells #[.bool s2, .slice B m d, .int .i64 t2] 27))
  have X2 := (Bo.newAt (w.alloc (.cells #[.bool s1, .slice A n c, .int .i64 t1] 27)) (g := w.heap.size + 1) (by simp) #[.bool s2, .slice B m d, .int .i64 t2] 27)
  have HB := Lib.hid (bel2 w (.cells #[.bool s1, .slice A n c, .int .i64 t1] 27) (.cells #[.bool s2, .slice B m d, .int .i64 t2] 27))
  replace h1 := h1.below HB.out
  replace h2 := h2.below HB.out
  generalize hW1 : ((w.alloc (.cells #[.bool s1, .slice A n c, .int .i64 t1] 27)).alloc (.cells #[.bool s2, .slice B m d, .int .i64 t2] 27)) = w1 at *
  clear hW1
  have xX10 := X1.at (i := 0) (v := .bool s1) rfl
  have xX11 := X1.at (i := 1) (v := .slice A n c) rfl
  have xX12 := X1.at (i := 2) (v := .int .i64 t1) rfl
  have xX20 := X2.at (i := 0) (v := .bool s2) rfl
  have xX21 := X2.at (i := 1) (v := .slice B m d) rfl
  have xX22 := X2.at (i := 2) (v := .int .i64 t2) rfl
  go_wp2_with fail
  refine (uMay h1 hn8 HM1.out).mono ?_
  rintro ee w2 ⟨rfl, B⟩
  clear xX10 xX11 xX12 xX20 xX21 xX22
  replace X1 := X1.below B
  replace X2 := X2.below B
  replace h1 := h1.below B
  replace h2 := h2.below B
  replace HB := Lib.hid (bt HB.out B)
  clear B
  have xX10 := X1.at (i := 0) (v := .bool s1) rfl
  have xX11 := X1.at (i := 1) (v := .slice A n c) rfl
  have xX12 := X1.at (i := 2) (v := .int .i64 t1) rfl
  have xX20 := X2.at (i := 0) (v := .bool s2) rfl
  have xX21 := X2.at (i := 1) (v := .slice B m d) rfl
  have xX22 := X2.at (i := 2) (v := .int .i64 t2) rfl
  go_wp2_with fail
  refine (uMay h2 hm8 HM2.out).mono ?_
  rintro ee w3 ⟨rfl, B⟩
  clear xX10 xX11 xX12 xX20 xX21 xX22
  replace X1 := X1.below B
  replace X2 := X2.below B
  replace h1 := h1.below B
  replace h2 := h2.below B
  replace HB := Lib.hid (bt HB.out B)
  clear B
  have xX10 := X1.at (i := 0) (v := .bool s1) rfl
  have xX11 := X1.at (i := 1) (v := .slice A n c) rfl
  have xX12 := X1.at (i := 2) (v := .int .i64 t1) rfl
  have xX20 := X2.at (i := 0) (v := .bool s2) rfl
  have xX21 := X2.at (i := 1) (v := .slice B m d) rfl
  have xX22 := X2.at (i := 2) (v := .int .i64 t2) rfl
  go_wp2
  go_ret
  exact ⟨rfl, HB.out⟩

set_option maxHeartbeats 2000000 in
theorem uCmp_ft {w : World} {A B : Option Addr} {n c a m d b k1 k2 : Nat} {s1 s2 : Bool} {t1 t2 : Int} (h1 : Rd w A n c a) (h2 : Rd w B m d b) (hn : n ≤ 20) (hm : m ≤ 20) (hm1 : mayC s1 n a t1 = false) (hm2 : mayC s2 m b t2 = true) :
    Calls Tryz.prog 21 #[.agg #[.bool s1, .slice A n c, .int .i64 t1], .agg #[.bool s2, .slice B m d, .int .i64 t2]] w (PI w 0) := by
  have hn8 : n ≤ 1000 := by omega
  have hm8 : m ≤ 1000 := by omega
  have HM1 := Lib.hid hm1
  have HM2 := Lib.hid hm2
  clear hm1 hm2
  go_enter Tryz.func21, Tryz.ntmps21
  go_upto_region 1 with (fail)
  have X1 := (Bo.newAt w (g := w.heap.size) (by simp) #[.bool s1, .slice A n c, .int .i64 t1] 27).below (bel1 _ (.cells #[.bool s2, .slice B m d, .int .i64 t2] 27))
  have X2 := (Bo.newAt (w.alloc (.cells #[.bool s1, .slice A n c, .int .i64 t1] 27)) (g := w.heap.size + 1) (by simp) #[.bool s2, .slice B m d, .int .i64 t2] 27)
  have HB := Lib.hid (bel2 w (.cells #[.bool s1, .slice A n c, .int .i64 t1] 27) (.cells #[.bool s2, .slice B m d, .int .i64 t2] 27))
  replace h1 := h1.below HB.out
  replace h2 := h2.below HB.out
  generalize hW1 : ((w.alloc (.cells #[.bool s1, .slice A n c, .int .i64 t1] 27)).alloc (.cells #[.bool s2, .slice B m d, .int .i64 t2] 27)) = w1 at *
  clear hW1
  have xX10 := X1.at (i := 0) (v := .bool s1) rfl
  have xX11 := X1.at (i := 1) (v := .slice A n c) rfl
  have xX12 := X1.at (i := 2) (v := .int .i64 t1) rfl
  have xX20 := X2.at (i := 0) (v := .bool s2) rfl
  have xX21 := X2.at (i := 1) (v := .slice B m d) rfl
  have xX22 := X2.at (i := 2) (v := .int .i64 t2) rfl
  go_wp2_with fail
  refine (uMay h1 hn8 HM1.out).mono ?_
  rintro ee w2 ⟨rfl, B⟩
  clear xX10 xX11 xX12 xX20 xX21 xX22
  replace X1 := X1.below B
  replace X2 := X2.below B
  replace h1 := h1.below B
  replace h2 := h2.below B
  replace HB := Lib.hid (bt HB.out B)
  clear B
  have xX10 := X1.at (i := 0) (v := .bool s1) rfl
  have xX11 := X1.at (i := 1) (v := .slice A n c) rfl
  have xX12 := X1.at (i := 2) (v := .int .i64 t1) rfl
  have xX20 := X2.at (i := 0) (v := .bool s2) rfl
  have xX21 := X2.at (i := 1) (v := .slice B m d) rfl
  have xX22 := X2.at (i := 2) (v := .int .i64 t2) rfl
  go_wp2_with fail
  refine (uMay h2 hm8 HM2.out).mono ?_
  rintro ee w3 ⟨rfl, B⟩
  clear xX10 xX11 xX12 xX20 xX21 xX22
  replace X1 := X1.below B
  replace X2 := X2.below B
  replace h1 := h1.below B
  replace h2 := h2.below B
  replace HB := Lib.hid (bt HB.out B)
  clear B
  have xX10 := X1.at (i := 0) (v := .bool s1) rfl
  have xX11 := X1.at (i := 1) (v := .slice A n c) rfl
  have xX12 := X1.at (i := 2) (v := .int .i64 t1) rfl
  have xX20 := X2.at (i := 0) (v := .bool s2) rfl
  have xX21 := X2.at (i := 1) (v := .slice B m d) rfl
  have xX22 := X2.at (i := 2) (v := .int .i64 t2) rfl
  go_wp2
  go_ret
  exact ⟨rfl, HB.out⟩

set_option maxHeartbeats 2000000 in
theorem uCmp_tf {w : World} {A B : Option Addr} {n c a m d b k1 k2 : Nat} {s1 s2 : Bool} {t1 t2 : Int} (h1 : Rd w A n c a) (h2 : Rd w B m d b) (hn : n ≤ 20) (hm : m ≤ 20) (hm1 : mayC s1 n a t1 = true) (hm2 : mayC s2 m b t2 = false) :
    Calls Tryz.prog 21 #[.agg #[.bool s1, .slice A n c, .int .i64 t1], .agg #[.bool s2, .slice B m d, .int .i64 t2]] w (PI w 0) := by
  have hn8 : n ≤ 1000 := by omega
  have hm8 : m ≤ 1000 := by omega
  have HM1 := Lib.hid hm1
  have HM2 := Lib.hid hm2
  clear hm1 hm2
  go_enter Tryz.func21, Tryz.ntmps21
  go_upto_region 1 with (fail)
  have X1 := (Bo.newAt w (g := w.heap.size) (by simp) #[.bool s1, .slice A n c, .int .i64 t1] 27).below (bel1 _ (.cells #[.bool s2, .slice B m d, .int .i64 t2] 27))
  have X2 := (Bo.newAt (w.alloc (.cells #[.bool s1, .slice A n c, .int .i64 t1] 27)) (g := w.heap.size + 1) (by simp) #[.bool s2, .slice B m d, .int .i64 t2] 27)
  have HB := Lib.hid (bel2 w (.cells #[.bool s1, .slice A n c, .int .i64 t1] 27) (.cells #[.bool s2, .slice B m d, .int .i64 t2] 27))
  replace h1 := h1.below HB.out
  replace h2 := h2.below HB.out
  generalize hW1 : ((w.alloc (.cells #[.bool s1, .slice A n c, .int .i64 t1] 27)).alloc (.cells #[.bool s2, .slice B m d, .int .i64 t2] 27)) = w1 at *
  clear hW1
  have xX10 := X1.at (i := 0) (v := .bool s1) rfl
  have xX11 := X1.at (i := 1) (v := .slice A n c) rfl
  have xX12 := X1.at (i := 2) (v := .int .i64 t1) rfl
  have xX20 := X2.at (i := 0) (v := .bool s2) rfl
  have xX21 := X2.at (i := 1) (v := .slice B m d) rfl
  have xX22 := X2.at (i := 2) (v := .int .i64 t2) rfl
  go_wp2_with fail
  refine (uMay h1 hn8 HM1.out).mono ?_
  rintro ee w2 ⟨rfl, B⟩
  clear xX10 xX11 xX12 xX20 xX21 xX22
  replace X1 := X1.below B
  replace X2 := X2.below B
  replace h1 := h1.below B
  replace h2 := h2.below B
  replace HB := Lib.hid (bt HB.out B)
  clear B
  have xX10 := X1.at (i := 0) (v := .bool s1) rfl
  have xX11 := X1.at (i := 1) (v := .slice A n c) rfl
  have xX12 := X1.at (i := 2) (v := .int .i64 t1) rfl
  have xX20 := X2.at (i := 0) (v := .bool s2) rfl
  have xX21 := X2.at (i := 1) (v := .slice B m d) rfl
  have xX22 := X2.at (i := 2) (v := .int .i64 t2) rfl
  go_wp2_with fail
  refine (uMay h2 hm8 HM2.out).mono ?_
  rintro ee w3 ⟨rfl, B⟩
  clear xX10 xX11 xX12 xX20 xX21 xX22
  replace X1 := X1.below B
  replace X2 := X2.below B
  replace h1 := h1.below B
  replace h2 := h2.below B
  replace HB := Lib.hid (bt HB.out B)
  clear B
  have xX10 := X1.at (i := 0) (v := .bool s1) rfl
  have xX11 := X1.at (i := 1) (v := .slice A n c) rfl
  have xX12 := X1.at (i := 2) (v := .int .i64 t1) rfl
  have xX20 := X2.at (i := 0) (v := .bool s2) rfl
  have xX21 := X2.at (i := 1) (v := .slice B m d) rfl
  have xX22 := X2.at (i := 2) (v := .int .i64 t2) rfl
  go_wp2
  go_ret
  exact ⟨rfl, HB.out⟩

set_option maxHeartbeats 2000000 in
theorem uCmp_l {w : World} {A B : Option Addr} {n c a m d b k1 k2 : Nat} {s1 s2 : Bool} {t1 t2 r : Int} (h1 : Rd w A n c a) (h2 : Rd w B m d b) (hn : n ≤ 20) (hm : m ≤ 20) (hm1 : mayC s1 n a t1 = true) (hm2 : mayC s2 m b t2 = true) (b1 : -400 ≤ t1 ∧ t1 ≤ 400) (b2 : -400 ≤ t2 ∧ t2 ≤ 400) (hle : t1 ≤ t2) (e1 : t1 - t1 = k1) (e2 : t2 - t1 = k2) (hr : cmpI (sg s1 a * ((10 ^ k1 : Nat) : Int)) (sg s2 b * ((10 ^ k2 : Nat) : Int)) = r) :
    Calls Tryz.prog 21 #[.agg #[.bool s1, .slice A n c, .int .i64 t1], .agg #[.bool s2, .slice B m d, .int .i64 t2]] w (PI w r) := by
  have hn8 : n ≤ 1000 := by omega
  have hm8 : m ≤ 1000 := by omega
  have HM1 := Lib.hid hm1
  have HM2 := Lib.hid hm2
  have HR := Lib.hid hr
  have l1 : k1 ≤ 800 := by omega
  have l2 : k2 ≤ 800 := by omega
  have tl : decide (t2 < t1) = false := by simp; omega
  have W1 := Lib.hid (show IntKind.i64.wrap (0) = (k1 : Int) by rw [wrap_in (by omega) (by omega)]; omega)
  have W2 := Lib.hid (show IntKind.i64.wrap (t2 - t1) = (k2 : Int) by rw [wrap_in (by omega) (by omega)]; omega)
  clear hm1 hm2 hr e1 e2
  go_enter Tryz.func21, Tryz.ntmps21
  go_upto_region 1 with (fail)
  have X1 := (Bo.newAt w (g := w.heap.size) (by simp) #[.bool s1, .slice A n c, .int .i64 t1] 27).below (bel1 _ (.cells #[.bool s2, .slice B m d, .int .i64 t2] 27))
  have X2 := (Bo.newAt (w.alloc (.cells #[.bool s1, .slice A n c, .int .i64 t1] 27)) (g := w.heap.size + 1) (by simp) #[.bool s2, .slice B m d, .int .i64 t2] 27)
  have HB := Lib.hid (bel2 w (.cells #[.bool s1, .slice A n c, .int .i64 t1] 27) (.cells #[.bool s2, .slice B m d, .int .i64 t2] 27))
  replace h1 := h1.below HB.out
  replace h2 := h2.below HB.out
  generalize hW1 : ((w.alloc (.cells #[.bool s1, .slice A n c, .int .i64 t1] 27)).alloc (.cells #[.bool s2, .slice B m d, .int .i64 t2] 27)) = w1 at *
  clear hW1
  have xX10 := X1.at (i := 0) (v := .bool s1) rfl
  have xX11 := X1.at (i := 1) (v := .slice A n c) rfl
  have xX12 := X1.at (i := 2) (v := .int .i64 t1) rfl
  have xX20 := X2.at (i := 0) (v := .bool s2) rfl
  have xX21 := X2.at (i := 1) (v := .slice B m d) rfl
  have xX22 := X2.at (i := 2) (v := .int .i64 t2) rfl
  go_wp2_with fail
  refine (uMay h1 hn8 HM1.out).mono ?_
  rintro ee w2 ⟨rfl, B⟩
  clear xX10 xX11 xX12 xX20 xX21 xX22
  replace X1 := X1.below B
  replace X2 := X2.below B
  replace h1 := h1.below B
  replace h2 := h2.below B
  replace HB := Lib.hid (bt HB.out B)
  clear B
  have xX10 := X1.at (i := 0) (v := .bool s1) rfl
  have xX11 := X1.at (i := 1) (v := .slice A n c) rfl
  have xX12 := X1.at (i := 2) (v := .int .i64 t1) rfl
  have xX20 := X2.at (i := 0) (v := .bool s2) rfl
  have xX21 := X2.at (i := 1) (v := .slice B m d) rfl
  have xX22 := X2.at (i := 2) (v := .int .i64 t2) rfl
  go_wp2_with fail
  refine (uMay h2 hm8 HM2.out).mono ?_
  rintro ee w3 ⟨rfl, B⟩
  clear xX10 xX11 xX12 xX20 xX21 xX22
  replace X1 := X1.below B
  replace X2 := X2.below B
  replace h1 := h1.below B
  replace h2 := h2.below B
  replace HB := Lib.hid (bt HB.out B)
  clear B
  have xX10 := X1.at (i := 0) (v := .bool s1) rfl
  have xX11 := X1.at (i := 1) (v := .slice A n c) rfl
  have xX12 := X1.at (i := 2) (v := .int .i64 t1) rfl
  have xX20 := X2.at (i := 0) (v := .bool s2) rfl
  have xX21 := X2.at (i := 1) (v := .slice B m d) rfl
  have xX22 := X2.at (i := 2) (v := .int .i64 t2) rfl
  go_upto_region 8 with (fail)
  refine Jo.region_joint (T := [0, 1, 2, 3, 4, 5, 6, 7, 8, 9, 10, 11, 12, 13, 14, 15]) (ds := [some 26, some 27, some 28, some 29, some 30, some 31, some 32, some 33, some 34, some 35, some 36, some 37, some 38, some 39, some 40, some 4]) (ls := [[], [0], [], [2], [], [3, 4], [1, 5], [], [7], [], [9], [], [10, 11], [8, 12], [6, 13], [14]]) (k := 16) (L := [(some 26, 0), (some 27, 1), (some 28, 2), (some 29, 3), (some 30, 4), (some 31, 5), (some 32, 6), (some 33, 7), (some 34, 8), (some 35, 9), (some 36, 10), (some 37, 11), (some 38, 12), (some 39, 13), (some 40, 14), (some 4, 15)]) (fuel := 0) (J := fun wj => Below (World.heap w3).size w3 wj)
    (F := [Jo.Fact.eq (.pointer (some ⟨w.heap.size, 0, none⟩)), Jo.Fact.eq (.agg #[.bool s1, .slice A n c]), Jo.Fact.eq (.pointer (some ⟨w.heap.size, 2, none⟩)), Jo.Fact.eq (.int .i64 t1), Jo.Fact.eq (.int .i64 t1), Jo.Fact.eq (.int .i64 (k1 : Int)), Jo.Fact.wr (sg s1 a * ((10 ^ k1 : Nat) : Int)) 3000, Jo.Fact.eq (.pointer (some ⟨w.heap.size + 1, 0, none⟩)), Jo.Fact.eq (.agg #[.bool s2, .slice B m d]), Jo.Fact.eq (.pointer (some ⟨w.heap.size + 1, 2, none⟩)), Jo.Fact.eq (.int .i64 t2), Jo.Fact.eq (.int .i64 t1), Jo.Fact.eq (.int .i64 (k2 : Int)), Jo.Fact.wr (sg s2 b * ((10 ^ k2 : Nat) : Int)) 3000, Jo.Fact.eq (.int .i64 r), Jo.Fact.eq (.int .i64 r)])
    (by kernel_rfl) (by kernel_rfl) (by decide) rfl rfl (fun _ _ h b => bt h b) ((Below.refl _ _).drew) ?_ (fun vs w4 hJ hd => ?_)
  clear xX10 xX11 xX12 xX20 xX21 xX22
  · refine Jo.jcons (i := 0) (o := ⟨some 26, _, _, _, _, _⟩) (di := some 26) (L := []) (f := Jo.Fact.eq (.pointer (some ⟨w.heap.size, 0, none⟩))) rfl rfl rfl rfl (fun vs wj hJ hd K hK => ?_) ?_
    · clear hd
      simp only [Jo.putl, List.foldl_nil, Act.put, List.setIfInBounds_toArray, List.set_cons_zero, List.set_cons_succ] at hK ⊢
      go_simp
      exact hK.out _ _ rfl (Below.refl _ _)
    refine Jo.jcons (i := 1) (o := ⟨some 27, _, _, _, _, _⟩) (di := some 27) (L := [(some 26, 0)]) (f := Jo.Fact.eq (.agg #[.bool s1, .slice A n c])) rfl rfl rfl rfl (fun vs wj hJ hd K hK => ?_) ?_
    · have d0 : (Jo.Fact.eq (.pointer (some ⟨w.heap.size, 0, none⟩))).P (vs 0) wj := hd 0 (by decide)
      clear hd
      simp only [Jo.putl, List.foldl_cons, List.foldl_nil, Act.put, List.setIfInBounds_toArray, List.set_cons_zero, List.set_cons_succ] at hK ⊢
      generalize vs 0 = u0 at hK d0 ⊢
      replace d0 : u0 = _ := d0
      subst d0
      have xX10 : World.cell? wj ⟨w.heap.size, 0, none⟩ = some (.bool s1) := (X1.below hJ).cell 0
      have xX11 : World.cell? wj ⟨w.heap.size, 1, none⟩ = some (.slice A n c) := (X1.below hJ).cell 1
      have xX12 : World.cell? wj ⟨w.heap.size, 2, none⟩ = some (.int .i64 t1) := (X1.below hJ).cell 2
      go_simp
      exact hK.out _ _ rfl (Below.refl _ _)
    refine Jo.jcons (i := 2) (o := ⟨some 28, _, _, _, _, _⟩) (di := some 28) (L := []) (f := Jo.Fact.eq (.pointer (some ⟨w.heap.size, 2, none⟩))) rfl rfl rfl rfl (fun vs wj hJ hd K hK => ?_) ?_
    · clear hd
      simp only [Jo.putl, List.foldl_nil, Act.put, List.setIfInBounds_toArray, List.set_cons_zero, List.set_cons_succ] at hK ⊢
      go_simp
      exact hK.out _ _ rfl (Below.refl _ _)
    refine Jo.jcons (i := 3) (o := ⟨some 29, _, _, _, _, _⟩) (di := some 29) (L := [(some 28, 2)]) (f := Jo.Fact.eq (.int .i64 t1)) rfl rfl rfl rfl (fun vs wj hJ hd K hK => ?_) ?_
    · have d2 : (Jo.Fact.eq (.pointer (some ⟨w.heap.size, 2, none⟩))).P (vs 2) wj := hd 2 (by decide)
      clear hd
      simp only [Jo.putl, List.foldl_cons, List.foldl_nil, Act.put, List.setIfInBounds_toArray, List.set_cons_zero, List.set_cons_succ] at hK ⊢
      generalize vs 2 = u2 at hK d2 ⊢
      replace d2 : u2 = _ := d2
      subst d2
      have xX10 : World.cell? wj ⟨w.heap.size, 0, none⟩ = some (.bool s1) := (X1.below hJ).cell 0
      have xX11 : World.cell? wj ⟨w.heap.size, 1, none⟩ = some (.slice A n c) := (X1.below hJ).cell 1
      have xX12 : World.cell? wj ⟨w.heap.size, 2, none⟩ = some (.int .i64 t1) := (X1.below hJ).cell 2
      go_simp
      exact hK.out _ _ rfl (Below.refl _ _)
    refine Jo.jcons (i := 4) (o := ⟨some 30, _, _, _, _, _⟩) (di := some 30) (L := []) (f := Jo.Fact.eq (.int .i64 t1)) rfl rfl rfl rfl (fun vs wj hJ hd K hK => ?_) ?_
    · clear hd
      simp only [Jo.putl, List.foldl_nil, Act.put, List.setIfInBounds_toArray, List.set_cons_zero, List.set_cons_succ] at hK ⊢
      go_simp
      exact hK.out _ _ rfl (Below.refl _ _)
    refine Jo.jcons (i := 5) (o := ⟨some 31, _, _, _, _, _⟩) (di := some 31) (L := [(some 29, 3), (some 30, 4)]) (f := Jo.Fact.eq (.int .i64 (k1 : Int))) rfl rfl rfl rfl (fun vs wj hJ hd K hK => ?_) ?_
    · have d3 : (Jo.Fact.eq (.int .i64 t1)).P (vs 3) wj := hd 3 (by decide)
      have d4 : (Jo.Fact.eq (.int .i64 t1)).P (vs 4) wj := hd 4 (by decide)
      clear hd
      simp only [Jo.putl, List.foldl_cons, List.foldl_nil, Act.put, List.setIfInBounds_toArray, List.set_cons_zero, List.set_cons_succ] at hK ⊢
      generalize vs 3 = u3 at hK d3 ⊢
      generalize vs 4 = u4 at hK d4 ⊢
      replace d3 : u3 = _ := d3
      subst d3
      replace d4 : u4 = _ := d4
      subst d4
      go_simp
      rw [W1.out]
      exact hK.out _ _ rfl (Below.refl _ _)
    refine Jo.jcons (i := 6) (o := ⟨some 32, _, _, _, _, _⟩) (di := some 32) (L := [(some 27, 1), (some 31, 5)]) (f := Jo.Fact.wr (sg s1 a * ((10 ^ k1 : Nat) : Int)) 3000) rfl rfl rfl rfl (fun vs wj hJ hd K hK => ?_) ?_
    · have d1 : (Jo.Fact.eq (.agg #[.bool s1, .slice A n c])).P (vs 1) wj := hd 1 (by decide)
      have d5 : (Jo.Fact.eq (.int .i64 (k1 : Int))).P (vs 5) wj := hd 5 (by decide)
      clear hd
      simp only [Jo.putl, List.foldl_cons, List.foldl_nil, Act.put, List.setIfInBounds_toArray, List.set_cons_zero, List.set_cons_succ] at hK ⊢
      generalize vs 1 = u1 at hK d1 ⊢
      generalize vs 5 = u5 at hK d5 ⊢
      replace d1 : u1 = _ := d1
      subst d1
      replace d5 : u5 = _ := d5
      subst d5
      go_simp
      refine (uUp ((h1.below hJ).wr s1) (by omega) rfl (by omega) rfl).mono ?_
      rintro ee wk ⟨s5, A5, n5, c5, rfl, p5, k5, B⟩
      exact hK.out _ _ ⟨_, _, _, _, rfl, p5, k5⟩ B
    refine Jo.jcons (i := 7) (o := ⟨some 33, _, _, _, _, _⟩) (di := some 33) (L := []) (f := Jo.Fact.eq (.pointer (some ⟨w.heap.size + 1, 0, none⟩))) rfl rfl rfl rfl (fun vs wj hJ hd K hK => ?_) ?_
    · clear hd
      simp only [Jo.putl, List.foldl_nil, Act.put, List.setIfInBounds_toArray, List.set_cons_zero, List.set_cons_succ] at hK ⊢
      go_simp
      exact hK.out _ _ rfl (Below.refl _ _)
    refine Jo.jcons (i := 8) (o := ⟨some 34, _, _, _, _, _⟩) (di := some 34) (L := [(some 33, 7)]) (f := Jo.Fact.eq (.agg #[.bool s2, .slice B m d])) rfl rfl rfl rfl (fun vs wj hJ hd K hK => ?_) ?_
    · have d7 : (Jo.Fact.eq (.pointer (some ⟨w.heap.size + 1, 0, none⟩))).P (vs 7) wj := hd 7 (by decide)
      clear hd
      simp only [Jo.putl, List.foldl_cons, List.foldl_nil, Act.put, List.setIfInBounds_toArray, List.set_cons_zero, List.set_cons_succ] at hK ⊢
      generalize vs 7 = u7 at hK d7 ⊢
      replace d7 : u7 = _ := d7
      subst d7
      have xX20 : World.cell? wj ⟨w.heap.size + 1, 0, none⟩ = some (.bool s2) := (X2.below hJ).cell 0
      have xX21 : World.cell? wj ⟨w.heap.size + 1, 1, none⟩ = some (.slice B m d) := (X2.below hJ).cell 1
      have xX22 : World.cell? wj ⟨w.heap.size + 1, 2, none⟩ = some (.int .i64 t2) := (X2.below hJ).cell 2
      go_simp
      exact hK.out _ _ rfl (Below.refl _ _)
    refine Jo.jcons (i := 9) (o := ⟨some 35, _, _, _, _, _⟩) (di := some 35) (L := []) (f := Jo.Fact.eq (.pointer (some ⟨w.heap.size + 1, 2, none⟩))) rfl rfl rfl rfl (fun vs wj hJ hd K hK => ?_) ?_
    · clear hd
      simp only [Jo.putl, List.foldl_nil, Act.put, List.setIfInBounds_toArray, List.set_cons_zero, List.set_cons_succ] at hK ⊢
      go_simp
      exact hK.out _ _ rfl (Below.refl _ _)
    refine Jo.jcons (i := 10) (o := ⟨some 36, _, _, _, _, _⟩) (di := some 36) (L := [(some 35, 9)]) (f := Jo.Fact.eq (.int .i64 t2)) rfl rfl rfl rfl (fun vs wj hJ hd K hK => ?_) ?_
    · have d9 : (Jo.Fact.eq (.pointer (some ⟨w.heap.size + 1, 2, none⟩))).P (vs 9) wj := hd 9 (by decide)
      clear hd
      simp only [Jo.putl, List.foldl_cons, List.foldl_nil, Act.put, List.setIfInBounds_toArray, List.set_cons_zero, List.set_cons_succ] at hK ⊢
      generalize vs 9 = u9 at hK d9 ⊢
      replace d9 : u9 = _ := d9
      subst d9
      have xX20 : World.cell? wj ⟨w.heap.size + 1, 0, none⟩ = some (.bool s2) := (X2.below hJ).cell 0
      have xX21 : World.cell? wj ⟨w.heap.size + 1, 1, none⟩ = some (.slice B m d) := (X2.below hJ).cell 1
      have xX22 : World.cell? wj ⟨w.heap.size + 1, 2, none⟩ = some (.int .i64 t2) := (X2.below hJ).cell 2
      go_simp
      exact hK.out _ _ rfl (Below.refl _ _)
    refine Jo.jcons (i := 11) (o := ⟨some 37, _, _, _, _, _⟩) (di := some 37) (L := []) (f := Jo.Fact.eq (.int .i64 t1)) rfl rfl rfl rfl (fun vs wj hJ hd K hK => ?_) ?_
    · clear hd
      simp only [Jo.putl, List.foldl_nil, Act.put, List.setIfInBounds_toArray, List.set_cons_zero, List.set_cons_succ] at hK ⊢
      go_simp
      exact hK.out _ _ rfl (Below.refl _ _)
    refine Jo.jcons (i := 12) (o := ⟨some 38, _, _, _, _, _⟩) (di := some 38) (L := [(some 36, 10), (some 37, 11)]) (f := Jo.Fact.eq (.int .i64 (k2 : Int))) rfl rfl rfl rfl (fun vs wj hJ hd K hK => ?_) ?_
    · have d10 : (Jo.Fact.eq (.int .i64 t2)).P (vs 10) wj := hd 10 (by decide)
      have d11 : (Jo.Fact.eq (.int .i64 t1)).P (vs 11) wj := hd 11 (by decide)
      clear hd
      simp only [Jo.putl, List.foldl_cons, List.foldl_nil, Act.put, List.setIfInBounds_toArray, List.set_cons_zero, List.set_cons_succ] at hK ⊢
      generalize vs 10 = u10 at hK d10 ⊢
      generalize vs 11 = u11 at hK d11 ⊢
      replace d10 : u10 = _ := d10
      subst d10
      replace d11 : u11 = _ := d11
      subst d11
      go_simp
      rw [W2.out]
      exact hK.out _ _ rfl (Below.refl _ _)
    refine Jo.jcons (i := 13) (o := ⟨some 39, _, _, _, _, _⟩) (di := some 39) (L := [(some 34, 8), (some 38, 12)]) (f := Jo.Fact.wr (sg s2 b * ((10 ^ k2 : Nat) : Int)) 3000) rfl rfl rfl rfl (fun vs wj hJ hd K hK => ?_) ?_
    · have d8 : (Jo.Fact.eq (.agg #[.bool s2, .slice B m d])).P (vs 8) wj := hd 8 (by decide)
      have d12 : (Jo.Fact.eq (.int .i64 (k2 : Int))).P (vs 12) wj := hd 12 (by decide)
      clear hd
      simp only [Jo.putl, List.foldl_cons, List.foldl_nil, Act.put, List.setIfInBounds_toArray, List.set_cons_zero, List.set_cons_succ] at hK ⊢
      generalize vs 8 = u8 at hK d8 ⊢
      generalize vs 12 = u12 at hK d12 ⊢
      replace d8 : u8 = _ := d8
      subst d8
      replace d12 : u12 = _ := d12
      subst d12
      go_simp
      refine (uUp ((h2.below hJ).wr s2) (by omega) rfl (by omega) rfl).mono ?_
      rintro ee wk ⟨s6, A6, n6, c6, rfl, p6, k6, B⟩
      exact hK.out _ _ ⟨_, _, _, _, rfl, p6, k6⟩ B
    refine Jo.jcons (i := 14) (o := ⟨some 40, _, _, _, _, _⟩) (di := some 40) (L := [(some 32, 6), (some 39, 13)]) (f := Jo.Fact.eq (.int .i64 r)) rfl rfl rfl rfl (fun vs wj hJ hd K hK => ?_) ?_
    · have d6 : (Jo.Fact.wr (sg s1 a * ((10 ^ k1 : Nat) : Int)) 3000).P (vs 6) wj := hd 6 (by decide)
      have d13 : (Jo.Fact.wr (sg s2 b * ((10 ^ k2 : Nat) : Int)) 3000).P (vs 13) wj := hd 13 (by decide)
      clear hd
      simp only [Jo.putl, List.foldl_cons, List.foldl_nil, Act.put, List.setIfInBounds_toArray, List.set_cons_zero, List.set_cons_succ] at hK ⊢
      generalize vs 6 = u6 at hK d6 ⊢
      generalize vs 13 = u13 at hK d13 ⊢
      obtain ⟨s5, A5, n5, c5, rfl, p5, k5⟩ := d6
      obtain ⟨s6, A6, n6, c6, rfl, p6, k6⟩ := d13
      go_simp
      refine (qCmp p5 p6 (by omega) (by omega) HR.out).mono ?_
      rintro ee wk ⟨rfl, B⟩
      exact hK.out _ _ rfl B
    refine Jo.jcons (i := 15) (o := ⟨some 4, _, _, _, _, _⟩) (di := some 4) (L := [(some 40, 14)]) (f := Jo.Fact.eq (.int .i64 r)) rfl rfl rfl rfl (fun vs wj hJ hd K hK => ?_) ?_
    · have d14 : (Jo.Fact.eq (.int .i64 r)).P (vs 14) wj := hd 14 (by decide)
      clear hd
      simp only [Jo.putl, List.foldl_cons, List.foldl_nil, Act.put, List.setIfInBounds_toArray, List.set_cons_zero, List.set_cons_succ] at hK ⊢
      generalize vs 14 = u14 at hK d14 ⊢
      replace d14 : u14 = _ := d14
      subst d14
      go_simp
      exact hK.out _ _ rfl (Below.refl _ _)
    exact Jo.Steps.nil
  have d0 : (Jo.Fact.eq (.pointer (some ⟨w.heap.size, 0, none⟩))).P (vs 0) w4 := hd 0 (by decide)
  have d1 : (Jo.Fact.eq (.agg #[.bool s1, .slice A n c])).P (vs 1) w4 := hd 1 (by decide)
  have d2 : (Jo.Fact.eq (.pointer (some ⟨w.heap.size, 2, none⟩))).P (vs 2) w4 := hd 2 (by decide)
  have d3 : (Jo.Fact.eq (.int .i64 t1)).P (vs 3) w4 := hd 3 (by decide)
  have d4 : (Jo.Fact.eq (.int .i64 t1)).P (vs 4) w4 := hd 4 (by decide)
  have d5 : (Jo.Fact.eq (.int .i64 (k1 : Int))).P (vs 5) w4 := hd 5 (by decide)
  have d6 : (Jo.Fact.wr (sg s1 a * ((10 ^ k1 : Nat) : Int)) 3000).P (vs 6) w4 := hd 6 (by decide)
  have d7 : (Jo.Fact.eq (.pointer (some ⟨w.heap.size + 1, 0, none⟩))).P (vs 7) w4 := hd 7 (by decide)
  have d8 : (Jo.Fact.eq (.agg #[.bool s2, .slice B m d])).P (vs 8) w4 := hd 8 (by decide)
  have d9 : (Jo.Fact.eq (.pointer (some ⟨w.heap.size + 1, 2, none⟩))).P (vs 9) w4 := hd 9 (by decide)
  have d10 : (Jo.Fact.eq (.int .i64 t2)).P (vs 10) w4 := hd 10 (by decide)
  have d11 : (Jo.Fact.eq (.int .i64 t1)).P (vs 11) w4 := hd 11 (by decide)
  have d12 : (Jo.Fact.eq (.int .i64 (k2 : Int))).P (vs 12) w4 := hd 12 (by decide)
  have d13 : (Jo.Fact.wr (sg s2 b * ((10 ^ k2 : Nat) : Int)) 3000).P (vs 13) w4 := hd 13 (by decide)
  have d14 : (Jo.Fact.eq (.int .i64 r)).P (vs 14) w4 := hd 14 (by decide)
  have d15 : (Jo.Fact.eq (.int .i64 r)).P (vs 15) w4 := hd 15 (by decide)
  clear hd
  simp only [Jo.putl, List.foldl_cons, List.foldl_nil, Act.put, List.setIfInBounds_toArray, List.set_cons_zero, List.set_cons_succ]
  generalize vs 0 = u0 at d0 ⊢
  generalize vs 1 = u1 at d1 ⊢
  generalize vs 2 = u2 at d2 ⊢
  generalize vs 3 = u3 at d3 ⊢
  generalize vs 4 = u4 at d4 ⊢
  generalize vs 5 = u5 at d5 ⊢
  generalize vs 6 = u6 at d6 ⊢
  generalize vs 7 = u7 at d7 ⊢
  generalize vs 8 = u8 at d8 ⊢
  generalize vs 9 = u9 at d9 ⊢
  generalize vs 10 = u10 at d10 ⊢
  generalize vs 11 = u11 at d11 ⊢
  generalize vs 12 = u12 at d12 ⊢
  generalize vs 13 = u13 at d13 ⊢
  generalize vs 14 = u14 at d14 ⊢
  generalize vs 15 = u15 at d15 ⊢
  clear vs
  replace d0 : u0 = _ := d0
  subst d0
  replace d1 : u1 = _ := d1
  subst d1
  replace d2 : u2 = _ := d2
  subst d2
  replace d3 : u3 = _ := d3
  subst d3
  replace d4 : u4 = _ := d4
  subst d4
  replace d5 : u5 = _ := d5
  subst d5
  obtain ⟨s5, A5, n5, c5, rfl, _, _⟩ := d6
  replace d7 : u7 = _ := d7
  subst d7
  replace d8 : u8 = _ := d8
  subst d8
  replace d9 : u9 = _ := d9
  subst d9
  replace d10 : u10 = _ := d10
  subst d10
  replace d11 : u11 = _ := d11
  subst d11
  replace d12 : u12 = _ := d12
  subst d12
  obtain ⟨s6, A6, n6, c6, rfl, _, _⟩ := d13
  replace d14 : u14 = _ := d14
  subst d14
  replace d15 : u15 = _ := d15
  subst d15
  replace X1 := X1.below hJ
  replace X2 := X2.below hJ
  replace h1 := h1.below hJ
  replace h2 := h2.below hJ
  replace HB := Lib.hid (bt HB.out hJ)
  refine Jo.jdone (by kernel_rfl) ?_
  go_wp2
  go_ret
  exact ⟨rfl, HB.out⟩

set_option maxHeartbeats 2000000 in
theorem uCmp_g {w : World} {A B : Option Addr} {n c a m d b k1 k2 : Nat} {s1 s2 : Bool} {t1 t2 r : Int} (h1 : Rd w A n c a) (h2 : Rd w B m d b) (hn : n ≤ 20) (hm : m ≤ 20) (hm1 : mayC s1 n a t1 = true) (hm2 : mayC s2 m b t2 = true) (b1 : -400 ≤ t1 ∧ t1 ≤ 400) (b2 : -400 ≤ t2 ∧ t2 ≤ 400) (hle : t2 < t1) (e1 : t1 - t2 = k1) (e2 : t2 - t2 = k2) (hr : cmpI (sg s1 a * ((10 ^ k1 : Nat) : Int)) (sg s2 b * ((10 ^ k2 : Nat) : Int)) = r) :
    Calls Tryz.prog 21 #[.agg #[.bool s1, .slice A n c, .int .i64 t1], .agg #[.bool s2, .slice B m d, .int .i64 t2]] w (PI w r) := by
  have hn8 : n ≤ 1000 := by omega
  have hm8 : m ≤ 1000 := by omega
  have HM1 := Lib.hid hm1
  have HM2 := Lib.hid hm2
  have HR := Lib.hid hr
  have l1 : k1 ≤ 800 := by omega
  have l2 : k2 ≤ 800 := by omega
  have tl : decide (t2 < t1) = true := by simp; omega
  have W1 := Lib.hid (show IntKind.i64.wrap (t1 - t2) = (k1 : Int) by rw [wrap_in (by omega) (by omega)]; omega)
  have W2 := Lib.hid (show IntKind.i64.wrap (0) = (k2 : Int) by rw [wrap_in (by omega) (by omega)]; omega)
  clear hm1 hm2 hr e1 e2
  go_enter Tryz.func21, Tryz.ntmps21
  go_upto_region 1 with (fail)
  have X1 := (Bo.newAt w (g := w.heap.size) (by simp) #[.bool s1, .slice A n c, .int .i64 t1] 27).below (bel1 _ (.cells #[.bool s2, .slice B m d, .int .i64 t2] 27))
  have X2 := (Bo.newAt (w.alloc (.cells #[.bool s1, .slice A n c, .int .i64 t1] 27)) (g := w.heap.size + 1) (by simp) #[.bool s2, .slice B m d, .int .i64 t2] 27)
  have HB := Lib.hid (bel2 w (.cells #[.bool s1, .slice A n c, .int .i64 t1] 27) (.cells #[.bool s2, .slice B m d, .int .i64 t2] 27))
  replace h1 := h1.below HB.out
  replace h2 := h2.below HB.out
  generalize hW1 : ((w.alloc (.cells #[.bool s1, .slice A n c, .int .i64 t1] 27)).alloc (.cells #[.bool s2, .slice B m d, .int .i64 t2] 27)) = w1 at *
  clear hW1
  have xX10 := X1.at (i := 0) (v := .bool s1) rfl
  have xX11 := X1.at (i := 1) (v := .slice A n c) rfl
  have xX12 := X1.at (i := 2) (v := .int .i64 t1) rfl
  have xX20 := X2.at (i := 0) (v := .bool s2) rfl
  have xX21 := X2.at (i := 1) (v := .slice B m d) rfl
  have xX22 := X2.at (i := 2) (v := .int .i64 t2) rfl
  go_wp2_with fail
  refine (uMay h1 hn8 HM1.out).mono ?_
  rintro ee w2 ⟨rfl, B⟩
  clear xX10 xX11 xX12 xX20 xX21 xX22
  replace X1 := X1.below B
  replace X2 := X2.below B
  replace h1 := h1.below B
  replace h2 := h2.below B
  replace HB := Lib.hid (bt HB.out B)
  clear B
  have xX10 := X1.at (i := 0) (v := .bool s1) rfl
  have xX11 := X1.at (i := 1) (v := .slice A n c) rfl
  have xX12 := X1.at (i := 2) (v := .int .i64 t1) rfl
  have xX20 := X2.at (i := 0) (v := .bool s2) rfl
  have xX21 := X2.at (i := 1) (v := .slice B m d) rfl
  have xX22 := X2.at (i := 2) (v := .int .i64 t2) rfl
  go_wp2_with fail
  refine (uMay h2 hm8 HM2.out).mono ?_
  rintro ee w3 ⟨rfl, B⟩
  clear xX10 xX11 xX12 xX20 xX21 xX22
  replace X1 := X1.below B
  replace X2 := X2.below B
  replace h1 := h1.below B
  replace h2 := h2.below B
  replace HB := Lib.hid (bt HB.out B)
  clear B
  have xX10 := X1.at (i := 0) (v := .bool s1) rfl
  have xX11 := X1.at (i := 1) (v := .slice A n c) rfl
  have xX12 := X1.at (i := 2) (v := .int .i64 t1) rfl
  have xX20 := X2.at (i := 0) (v := .bool s2) rfl
  have xX21 := X2.at (i := 1) (v := .slice B m d) rfl
  have xX22 := X2.at (i := 2) (v := .int .i64 t2) rfl
  go_upto_region 8 with (fail)
  refine Jo.region_joint (T := [0, 1, 2, 3, 4, 5, 6, 7, 8, 9, 10, 11, 12, 13, 14, 15]) (ds := [some 26, some 27, some 28, some 29, some 30, some 31, some 32, some 33, some 34, some 35, some 36, some 37, some 38, some 39, some 40, some 4]) (ls := [[], [0], [], [2], [], [3, 4], [1, 5], [], [7], [], [9], [], [10, 11], [8, 12], [6, 13], [14]]) (k := 16) (L := [(some 26, 0), (some 27, 1), (some 28, 2), (some 29, 3), (some 30, 4), (some 31, 5), (some 32, 6), (some 33, 7), (some 34, 8), (some 35, 9), (some 36, 10), (some 37, 11), (some 38, 12), (some 39, 13), (some 40, 14), (some 4, 15)]) (fuel := 0) (J := fun wj => Below (World.heap w3).size w3 wj)
    (F := [Jo.Fact.eq (.pointer (some ⟨w.heap.size, 0, none⟩)), Jo.Fact.eq (.agg #[.bool s1, .slice A n c]), Jo.Fact.eq (.pointer (some ⟨w.heap.size, 2, none⟩)), Jo.Fact.eq (.int .i64 t1), Jo.Fact.eq (.int .i64 t2), Jo.Fact.eq (.int .i64 (k1 : Int)), Jo.Fact.wr (sg s1 a * ((10 ^ k1 : Nat) : Int)) 3000, Jo.Fact.eq (.pointer (some ⟨w.heap.size + 1, 0, none⟩)), Jo.Fact.eq (.agg #[.bool s2, .slice B m d]), Jo.Fact.eq (.pointer (some ⟨w.heap.size + 1, 2, none⟩)), Jo.Fact.eq (.int .i64 t2), Jo.Fact.eq (.int .i64 t2), Jo.Fact.eq (.int .i64 (k2 : Int)), Jo.Fact.wr (sg s2 b * ((10 ^ k2 : Nat) : Int)) 3000, Jo.Fact.eq (.int .i64 r), Jo.Fact.eq (.int .i64 r)])
    (by kernel_rfl) (by kernel_rfl) (by decide) rfl rfl (fun _ _ h b => bt h b) ((Below.refl _ _).drew) ?_ (fun vs w4 hJ hd => ?_)
  clear xX10 xX11 xX12 xX20 xX21 xX22
  · refine Jo.jcons (i := 0) (o := ⟨some 26, _, _, _, _, _⟩) (di := some 26) (L := []) (f := Jo.Fact.eq (.pointer (some ⟨w.heap.size, 0, none⟩))) rfl rfl rfl rfl (fun vs wj hJ hd K hK => ?_) ?_
    · clear hd
      simp only [Jo.putl, List.foldl_nil, Act.put, List.setIfInBounds_toArray, List.set_cons_zero, List.set_cons_succ] at hK ⊢
      go_simp
      exact hK.out _ _ rfl (Below.refl _ _)
    refine Jo.jcons (i := 1) (o := ⟨some 27, _, _, _, _, _⟩) (di := some 27) (L := [(some 26, 0)]) (f := Jo.Fact.eq (.agg #[.bool s1, .slice A n c])) rfl rfl rfl rfl (fun vs wj hJ hd K hK => ?_) ?_
    · have d0 : (Jo.Fact.eq (.pointer (some ⟨w.heap.size, 0, none⟩))).P (vs 0) wj := hd 0 (by decide)
      clear hd
      simp only [Jo.putl, List.foldl_cons, List.foldl_nil, Act.put, List.setIfInBounds_toArray, List.set_cons_zero, List.set_cons_succ] at hK ⊢
      generalize vs 0 = u0 at hK d0 ⊢
      replace d0 : u0 = _ := d0
      subst d0
      have xX10 : World.cell? wj ⟨w.heap.size, 0, none⟩ = some (.bool s1) := (X1.below hJ).cell 0
      have xX11 : World.cell? wj ⟨w.heap.size, 1, none⟩ = some (.slice A n c) := (X1.below hJ).cell 1
      have xX12 : World.cell? wj ⟨w.heap.size, 2, none⟩ = some (.int .i64 t1) := (X1.below hJ).cell 2
      go_simp
      exact hK.out _ _ rfl (Below.refl _ _)
    refine Jo.jcons (i := 2) (o := ⟨some 28, _, _, _, _, _⟩) (di := some 28) (L := []) (f := Jo.Fact.eq (.pointer (some ⟨w.heap.size, 2, none⟩))) rfl rfl rfl rfl (fun vs wj hJ hd K hK => ?_) ?_
    · clear hd
      simp only [Jo.putl, List.foldl_nil, Act.put, List.setIfInBounds_toArray, List.set_cons_zero, List.set_cons_succ] at hK ⊢
      go_simp
      exact hK.out _ _ rfl (Below.refl _ _)
    refine Jo.jcons (i := 3) (o := ⟨some 29, _, _, _, _, _⟩) (di := some 29) (L := [(some 28, 2)]) (f := Jo.Fact.eq (.int .i64 t1)) rfl rfl rfl rfl (fun vs wj hJ hd K hK => ?_) ?_
    · have d2 : (Jo.Fact.eq (.pointer (some ⟨w.heap.size, 2, none⟩))).P (vs 2) wj := hd 2 (by decide)
      clear hd
      simp only [Jo.putl, List.foldl_cons, List.foldl_nil, Act.put, List.setIfInBounds_toArray, List.set_cons_zero, List.set_cons_succ] at hK ⊢
      generalize vs 2 = u2 at hK d2 ⊢
      replace d2 : u2 = _ := d2
      subst d2
      have xX10 : World.cell? wj ⟨w.heap.size, 0, none⟩ = some (.bool s1) := (X1.below hJ).cell 0
      have xX11 : World.cell? wj ⟨w.heap.size, 1, none⟩ = some (.slice A n c) := (X1.below hJ).cell 1
      have xX12 : World.cell? wj ⟨w.heap.size, 2, none⟩ = some (.int .i64 t1) := (X1.below hJ).cell 2
      go_simp
      exact hK.out _ _ rfl (Below.refl _ _)
    refine Jo.jcons (i := 4) (o := ⟨some 30, _, _, _, _, _⟩) (di := some 30) (L := []) (f := Jo.Fact.eq (.int .i64 t2)) rfl rfl rfl rfl (fun vs wj hJ hd K hK => ?_) ?_
    · clear hd
      simp only [Jo.putl, List.foldl_nil, Act.put, List.setIfInBounds_toArray, List.set_cons_zero, List.set_cons_succ] at hK ⊢
      go_simp
      exact hK.out _ _ rfl (Below.refl _ _)
    refine Jo.jcons (i := 5) (o := ⟨some 31, _, _, _, _, _⟩) (di := some 31) (L := [(some 29, 3), (some 30, 4)]) (f := Jo.Fact.eq (.int .i64 (k1 : Int))) rfl rfl rfl rfl (fun vs wj hJ hd K hK => ?_) ?_
    · have d3 : (Jo.Fact.eq (.int .i64 t1)).P (vs 3) wj := hd 3 (by decide)
      have d4 : (Jo.Fact.eq (.int .i64 t2)).P (vs 4) wj := hd 4 (by decide)
      clear hd
      simp only [Jo.putl, List.foldl_cons, List.foldl_nil, Act.put, List.setIfInBounds_toArray, List.set_cons_zero, List.set_cons_succ] at hK ⊢
      generalize vs 3 = u3 at hK d3 ⊢
      generalize vs 4 = u4 at hK d4 ⊢
      replace d3 : u3 = _ := d3
      subst d3
      replace d4 : u4 = _ := d4
      subst d4
      go_simp
      rw [W1.out]
      exact hK.out _ _ rfl (Below.refl _ _)
    refine Jo.jcons (i := 6) (o := ⟨some 32, _, _, _, _, _⟩) (di := some 32) (L := [(some 27, 1), (some 31, 5)]) (f := Jo.Fact.wr (sg s1 a * ((10 ^ k1 : Nat) : Int)) 3000) rfl rfl rfl rfl (fun vs wj hJ hd K hK => ?_) ?_
    · have d1 : (Jo.Fact.eq (.agg #[.bool s1, .slice A n c])).P (vs 1) wj := hd 1 (by decide)
      have d5 : (Jo.Fact.eq (.int .i64 (k1 : Int))).P (vs 5) wj := hd 5 (by decide)
      clear hd
      simp only [Jo.putl, List.foldl_cons, List.foldl_nil, Act.put, List.setIfInBounds_toArray, List.set_cons_zero, List.set_cons_succ] at hK ⊢
      generalize vs 1 = u1 at hK d1 ⊢
      generalize vs 5 = u5 at hK d5 ⊢
      replace d1 : u1 = _ := d1
      subst d1
      replace d5 : u5 = _ := d5
      subst d5
      go_simp
      refine (uUp ((h1.below hJ).wr s1) (by omega) rfl (by omega) rfl).mono ?_
      rintro ee wk ⟨s5, A5, n5, c5, rfl, p5, k5, B⟩
      exact hK.out _ _ ⟨_, _, _, _, rfl, p5, k5⟩ B
    refine Jo.jcons (i := 7) (o := ⟨some 33, _, _, _, _, _⟩) (di := some 33) (L := []) (f := Jo.Fact.eq (.pointer (some ⟨w.heap.size + 1, 0, none⟩))) rfl rfl rfl rfl (fun vs wj hJ hd K hK => ?_) ?_
    · clear hd
      simp only [Jo.putl, List.foldl_nil, Act.put, List.setIfInBounds_toArray, List.set_cons_zero, List.set_cons_succ] at hK ⊢
      go_simp
      exact hK.out _ _ rfl (Below.refl _ _)
    refine Jo.jcons (i := 8) (o := ⟨some 34, _, _, _, _, _⟩) (di := some 34) (L := [(some 33, 7)]) (f := Jo.Fact.eq (.agg #[.bool s2, .slice B m d])) rfl rfl rfl rfl (fun vs wj hJ hd K hK => ?_) ?_
    · have d7 : (Jo.Fact.eq (.pointer (some ⟨w.heap.size + 1, 0, none⟩))).P (vs 7) wj := hd 7 (by decide)
      clear hd
      simp only [Jo.putl, List.foldl_cons, List.foldl_nil, Act.put, List.setIfInBounds_toArray, List.set_cons_zero, List.set_cons_succ] at hK ⊢
      generalize vs 7 = u7 at hK d7 ⊢
      replace d7 : u7 = _ := d7
      subst d7
      have xX20 : World.cell? wj ⟨w.heap.size + 1, 0, none⟩ = some (.bool s2) := (X2.below hJ).cell 0
      have xX21 : World.cell? wj ⟨w.heap.size + 1, 1, none⟩ = some (.slice B m d) := (X2.below hJ).cell 1
      have xX22 : World.cell? wj ⟨w.heap.size + 1, 2, none⟩ = some (.int .i64 t2) := (X2.below hJ).cell 2
      go_simp
      exact hK.out _ _ rfl (Below.refl _ _)
    refine Jo.jcons (i := 9) (o := ⟨some 35, _, _, _, _, _⟩) (di := some 35) (L := []) (f := Jo.Fact.eq (.pointer (some ⟨w.heap.size + 1, 2, none⟩))) rfl rfl rfl rfl (fun vs wj hJ hd K hK => ?_) ?_
    · clear hd
      simp only [Jo.putl, List.foldl_nil, Act.put, List.setIfInBounds_toArray, List.set_cons_zero, List.set_cons_succ] at hK ⊢
      go_simp
      exact hK.out _ _ rfl (Below.refl _ _)
    refine Jo.jcons (i := 10) (o := ⟨some 36, _, _, _, _, _⟩) (di := some 36) (L := [(some 35, 9)]) (f := Jo.Fact.eq (.int .i64 t2)) rfl rfl rfl rfl (fun vs wj hJ hd K hK => ?_) ?_
    · have d9 : (Jo.Fact.eq (.pointer (some ⟨w.heap.size + 1, 2, none⟩))).P (vs 9) wj := hd 9 (by decide)
      clear hd
      simp only [Jo.putl, List.foldl_cons, List.foldl_nil, Act.put, List.setIfInBounds_toArray, List.set_cons_zero, List.set_cons_succ] at hK ⊢
      generalize vs 9 = u9 at hK d9 ⊢
      replace d9 : u9 = _ := d9
      subst d9
      have xX20 : World.cell? wj ⟨w.heap.size + 1, 0, none⟩ = some (.bool s2) := (X2.below hJ).cell 0
      have xX21 : World.cell? wj ⟨w.heap.size + 1, 1, none⟩ = some (.slice B m d) := (X2.below hJ).cell 1
      have xX22 : World.cell? wj ⟨w.heap.size + 1, 2, none⟩ = some (.int .i64 t2) := (X2.below hJ).cell 2
      go_simp
      exact hK.out _ _ rfl (Below.refl _ _)
    refine Jo.jcons (i := 11) (o := ⟨some 37, _, _, _, _, _⟩) (di := some 37) (L := []) (f := Jo.Fact.eq (.int .i64 t2)) rfl rfl rfl rfl (fun vs wj hJ hd K hK => ?_) ?_
    · clear hd
      simp only [Jo.putl, List.foldl_nil, Act.put, List.setIfInBounds_toArray, List.set_cons_zero, List.set_cons_succ] at hK ⊢
      go_simp
      exact hK.out _ _ rfl (Below.refl _ _)
    refine Jo.jcons (i := 12) (o := ⟨some 38, _, _, _, _, _⟩) (di := some 38) (L := [(some 36, 10), (some 37, 11)]) (f := Jo.Fact.eq (.int .i64 (k2 : Int))) rfl rfl rfl rfl (fun vs wj hJ hd K hK => ?_) ?_
    · have d10 : (Jo.Fact.eq (.int .i64 t2)).P (vs 10) wj := hd 10 (by decide)
      have d11 : (Jo.Fact.eq (.int .i64 t2)).P (vs 11) wj := hd 11 (by decide)
      clear hd
      simp only [Jo.putl, List.foldl_cons, List.foldl_nil, Act.put, List.setIfInBounds_toArray, List.set_cons_zero, List.set_cons_succ] at hK ⊢
      generalize vs 10 = u10 at hK d10 ⊢
      generalize vs 11 = u11 at hK d11 ⊢
      replace d10 : u10 = _ := d10
      subst d10
      replace d11 : u11 = _ := d11
      subst d11
      go_simp
      rw [W2.out]
      exact hK.out _ _ rfl (Below.refl _ _)
    refine Jo.jcons (i := 13) (o := ⟨some 39, _, _, _, _, _⟩) (di := some 39) (L := [(some 34, 8), (some 38, 12)]) (f := Jo.Fact.wr (sg s2 b * ((10 ^ k2 : Nat) : Int)) 3000) rfl rfl rfl rfl (fun vs wj hJ hd K hK => ?_) ?_
    · have d8 : (Jo.Fact.eq (.agg #[.bool s2, .slice B m d])).P (vs 8) wj := hd 8 (by decide)
      have d12 : (Jo.Fact.eq (.int .i64 (k2 : Int))).P (vs 12) wj := hd 12 (by decide)
      clear hd
      simp only [Jo.putl, List.foldl_cons, List.foldl_nil, Act.put, List.setIfInBounds_toArray, List.set_cons_zero, List.set_cons_succ] at hK ⊢
      generalize vs 8 = u8 at hK d8 ⊢
      generalize vs 12 = u12 at hK d12 ⊢
      replace d8 : u8 = _ := d8
      subst d8
      replace d12 : u12 = _ := d12
      subst d12
      go_simp
      refine (uUp ((h2.below hJ).wr s2) (by omega) rfl (by omega) rfl).mono ?_
      rintro ee wk ⟨s6, A6, n6, c6, rfl, p6, k6, B⟩
      exact hK.out _ _ ⟨_, _, _, _, rfl, p6, k6⟩ B
    refine Jo.jcons (i := 14) (o := ⟨some 40, _, _, _, _, _⟩) (di := some 40) (L := [(some 32, 6), (some 39, 13)]) (f := Jo.Fact.eq (.int .i64 r)) rfl rfl rfl rfl (fun vs wj hJ hd K hK => ?_) ?_
    · have d6 : (Jo.Fact.wr (sg s1 a * ((10 ^ k1 : Nat) : Int)) 3000).P (vs 6) wj := hd 6 (by decide)
      have d13 : (Jo.Fact.wr (sg s2 b * ((10 ^ k2 : Nat) : Int)) 3000).P (vs 13) wj := hd 13 (by decide)
      clear hd
      simp only [Jo.putl, List.foldl_cons, List.foldl_nil, Act.put, List.setIfInBounds_toArray, List.set_cons_zero, List.set_cons_succ] at hK ⊢
      generalize vs 6 = u6 at hK d6 ⊢
      generalize vs 13 = u13 at hK d13 ⊢
      obtain ⟨s5, A5, n5, c5, rfl, p5, k5⟩ := d6
      obtain ⟨s6, A6, n6, c6, rfl, p6, k6⟩ := d13
      go_simp
      refine (qCmp p5 p6 (by omega) (by omega) HR.out).mono ?_
      rintro ee wk ⟨rfl, B⟩
      exact hK.out _ _ rfl B
    refine Jo.jcons (i := 15) (o := ⟨some 4, _, _, _, _, _⟩) (di := some 4) (L := [(some 40, 14)]) (f := Jo.Fact.eq (.int .i64 r)) rfl rfl rfl rfl (fun vs wj hJ hd K hK => ?_) ?_
    · have d14 : (Jo.Fact.eq (.int .i64 r)).P (vs 14) wj := hd 14 (by decide)
      clear hd
      simp only [Jo.putl, List.foldl_cons, List.foldl_nil, Act.put, List.setIfInBounds_toArray, List.set_cons_zero, List.set_cons_succ] at hK ⊢
      generalize vs 14 = u14 at hK d14 ⊢
      replace d14 : u14 = _ := d14
      subst d14
      go_simp
      exact hK.out _ _ rfl (Below.refl _ _)
    exact Jo.Steps.nil
  have d0 : (Jo.Fact.eq (.pointer (some ⟨w.heap.size, 0, none⟩))).P (vs 0) w4 := hd 0 (by decide)
  have d1 : (Jo.Fact.eq (.agg #[.bool s1, .slice A n c])).P (vs 1) w4 := hd 1 (by decide)
  have d2 : (Jo.Fact.eq (.pointer (some ⟨w.heap.size, 2, none⟩))).P (vs 2) w4 := hd 2 (by decide)
  have d3 : (Jo.Fact.eq (.int .i64 t1)).P (vs 3) w4 := hd 3 (by decide)
  have d4 : (Jo.Fact.eq (.int .i64 t2)).P (vs 4) w4 := hd 4 (by decide)
  have d5 : (Jo.Fact.eq (.int .i64 (k1 : Int))).P (vs 5) w4 := hd 5 (by decide)
  have d6 : (Jo.Fact.wr (sg s1 a * ((10 ^ k1 : Nat) : Int)) 3000).P (vs 6) w4 := hd 6 (by decide)
  have d7 : (Jo.Fact.eq (.pointer (some ⟨w.heap.size + 1, 0, none⟩))).P (vs 7) w4 := hd 7 (by decide)
  have d8 : (Jo.Fact.eq (.agg #[.bool s2, .slice B m d])).P (vs 8) w4 := hd 8 (by decide)
  have d9 : (Jo.Fact.eq (.pointer (some ⟨w.heap.size + 1, 2, none⟩))).P (vs 9) w4 := hd 9 (by decide)
  have d10 : (Jo.Fact.eq (.int .i64 t2)).P (vs 10) w4 := hd 10 (by decide)
  have d11 : (Jo.Fact.eq (.int .i64 t2)).P (vs 11) w4 := hd 11 (by decide)
  have d12 : (Jo.Fact.eq (.int .i64 (k2 : Int))).P (vs 12) w4 := hd 12 (by decide)
  have d13 : (Jo.Fact.wr (sg s2 b * ((10 ^ k2 : Nat) : Int)) 3000).P (vs 13) w4 := hd 13 (by decide)
  have d14 : (Jo.Fact.eq (.int .i64 r)).P (vs 14) w4 := hd 14 (by decide)
  have d15 : (Jo.Fact.eq (.int .i64 r)).P (vs 15) w4 := hd 15 (by decide)
  clear hd
  simp only [Jo.putl, List.foldl_cons, List.foldl_nil, Act.put, List.setIfInBounds_toArray, List.set_cons_zero, List.set_cons_succ]
  generalize vs 0 = u0 at d0 ⊢
  generalize vs 1 = u1 at d1 ⊢
  generalize vs 2 = u2 at d2 ⊢
  generalize vs 3 = u3 at d3 ⊢
  generalize vs 4 = u4 at d4 ⊢
  generalize vs 5 = u5 at d5 ⊢
  generalize vs 6 = u6 at d6 ⊢
  generalize vs 7 = u7 at d7 ⊢
  generalize vs 8 = u8 at d8 ⊢
  generalize vs 9 = u9 at d9 ⊢
  generalize vs 10 = u10 at d10 ⊢
  generalize vs 11 = u11 at d11 ⊢
  generalize vs 12 = u12 at d12 ⊢
  generalize vs 13 = u13 at d13 ⊢
  generalize vs 14 = u14 at d14 ⊢
  generalize vs 15 = u15 at d15 ⊢
  clear vs
  replace d0 : u0 = _ := d0
  subst d0
  replace d1 : u1 = _ := d1
  subst d1
  replace d2 : u2 = _ := d2
  subst d2
  replace d3 : u3 = _ := d3
  subst d3
  replace d4 : u4 = _ := d4
  subst d4
  replace d5 : u5 = _ := d5
  subst d5
  obtain ⟨s5, A5, n5, c5, rfl, _, _⟩ := d6
  replace d7 : u7 = _ := d7
  subst d7
  replace d8 : u8 = _ := d8
  subst d8
  replace d9 : u9 = _ := d9
  subst d9
  replace d10 : u10 = _ := d10
  subst d10
  replace d11 : u11 = _ := d11
  subst d11
  replace d12 : u12 = _ := d12
  subst d12
  obtain ⟨s6, A6, n6, c6, rfl, _, _⟩ := d13
  replace d14 : u14 = _ := d14
  subst d14
  replace d15 : u15 = _ := d15
  subst d15
  replace X1 := X1.below hJ
  replace X2 := X2.below hJ
  replace h1 := h1.below hJ
  replace h2 := h2.below hJ
  replace HB := Lib.hid (bt HB.out hJ)
  refine Jo.jdone (by kernel_rfl) ?_
  go_wp2
  go_ret
  exact ⟨rfl, HB.out⟩

theorem uCmp {w : World} {A B : Option Addr} {n c a m d b : Nat} {s1 s2 : Bool} {t1 t2 r : Int} (h1 : Rd w A n c a) (h2 : Rd w B m d b) (hn : n ≤ 20) (hm : m ≤ 20) (hr : cmpC (mayC s1 n a t1) (mayC s2 m b t2) (sg s1 a) t1 (sg s2 b) t2 = r) :
    Calls Tryz.prog 21 #[.agg #[.bool s1, .slice A n c, .int .i64 t1], .agg #[.bool s2, .slice B m d, .int .i64 t2]] w (PI w r) := by
  subst hr
  unfold cmpC
  cases hm1 : mayC s1 n a t1
  · cases hm2 : mayC s2 m b t2
    · exact uCmp_ff (k1 := 0) (k2 := 0) h1 h2 hn hm hm1 hm2
    · exact uCmp_ft (k1 := 0) (k2 := 0) h1 h2 hn hm hm1 hm2
  · cases hm2 : mayC s2 m b t2
    · exact uCmp_tf (k1 := 0) (k2 := 0) h1 h2 hn hm hm1 hm2
    · have h1' := may_tens hm1
      have h2' := may_tens hm2
      by_cases hle : t1 ≤ t2
      · exact uCmp_l h1 h2 hn hm hm1 hm2 h1' h2' hle (k1 := (t1 - min t1 t2).toNat) (k2 := (t2 - min t1 t2).toNat) (by omega) (by omega) rfl
      · exact uCmp_g h1 h2 hn hm hm1 hm2 h1' h2' (by omega) (k1 := (t1 - min t1 t2).toNat) (k2 := (t2 - min t1 t2).toNat) (by omega) (by omega) rfl
end Go.Proofs.YtdfnjhkcicnkpaaGreatDoor

/-
  What every statement of layer 4 begins with: numbers told by sign and limbs, and the chapter's examples.
-/
namespace Go.Proofs.YtdfnjhkcicnkpaaGreatDoor
open Go.RowKit
set_option linter.unusedVariables false
set_option maxRecDepth 100000

theorem wn_may {w : World} {s : Bool} {A : Option Addr} {n c : Nat} {z : Int} (h : Wn w s A n c z) (t : Int) : mayC s n z.natAbs t = mayd z t := by
  obtain ⟨h, rfl⟩ := h
  have hl := h.len
  have hp := h.pos
  unfold mayC mayB mayd
  by_cases hz : z = 0
  · subst hz
    have : n = 0 := by omega
    subst this
    simp [limbs_zero]
  · have h0 : n ≠ 0 := by omega
    have h1 : 0 < n := by omega
    rw [if_neg h0, if_neg hz]
    simp only [hl, decide_true, h1, Bool.true_or, Bool.true_and]
    rw [Bool.eq_iff_iff]
    simp only [Bool.and_eq_true, decide_eq_true_eq, Bool.not_eq_true', decide_eq_false_iff_not]
    constructor
    · rintro ⟨⟨a, b⟩, c, d⟩; exact ⟨⟨⟨c, d⟩, a⟩, b⟩
    · rintro ⟨⟨⟨c, d⟩, a⟩, b⟩; exact ⟨⟨a, b⟩, c, d⟩
theorem may_wn {w : World} {s : Bool} {A : Option Addr} {n c a : Nat} {t : Int} (h : Rd w A n c a) (hm : mayC s n a t = true) : Wn w s A n c (sg s a) := by
  have hb : mayB s n a = true := by
    unfold mayC at hm
    simp only [Bool.and_eq_true] at hm
    exact hm.1
  unfold mayB at hb
  simp only [Bool.and_eq_true, decide_eq_true_eq, Bool.or_eq_true, Bool.not_eq_true'] at hb
  obtain ⟨hl, hs⟩ := hb
  have hN : Nm w A n c a := by
    obtain ⟨b, xs, hS, rfl⟩ := h
    refine ⟨b, ?_⟩
    have h1 := limbs_prefix hS.lim
    have h2 := hS.len
    rw [List.take_of_length_le (by omega)] at h1
    rw [← h1]
    exact hS
  refine ⟨by rw [sg_natAbs]; exact hN, ?_⟩
  have := hN.pos
  cases s
  · simp [sg]
  · have : 0 < a := by
      rcases hs with hs | hs
      · omega
      · cases hs
    simp [sg]; omega
theorem wn_sh {w : World} {s : Bool} {A : Option Addr} {n c : Nat} {z t : Int} (h : Wn w s A n c z) (hm : mayd z t = true) : shD s n z.natAbs t = shw z t := by
  unfold shD
  rw [wn_may h, if_pos hm, h.wr.eq]
theorem vShowW {w : World} {s : Bool} {A : Option Addr} {n c : Nat} {z t : Int} {l : List UInt8} (h : Wn w s A n c z) (hn : n ≤ 20) (hP : Pt w) (hm : mayd z t = true) (hl : shw z t = l) : Calls Tryz.prog 18 #[.agg #[.bool s, .slice A n c, .int .i64 t]] w (PS w l) :=
  vShow h.wr.rd hn hP ((wn_sh h hm).trans hl)
theorem vMayW {w : World} {s : Bool} {A : Option Addr} {n c : Nat} {z t : Int} {r : Bool} (h : Wn w s A n c z) (hn : n ≤ 1000) (hm : mayd z t = r) : Calls Tryz.prog 16 #[.agg #[.bool s, .slice A n c, .int .i64 t]] w (PB w r) :=
  vMayD h.wr.rd (by omega) ((wn_may h t).trans hm)
/-- A number and an error are answered, each named. -/
def PE (w : World) (z t x : Int) (e : Ending) (w' : World) : Prop := ∃ s A n c, e = .returned (.tuple #[.agg #[.bool s, .slice A n c, .int .i64 t], .int .i64 x]) ∧ Wn w' s A n c z ∧ n ≤ 5 ∧ Below w.heap.size w w'
theorem vParseE {l : List UInt8} {z t x : Int} (w : World) (h : tparse l = ((z, t), x)) : Calls Tryz.prog 9 #[.string (st l)] w (PE w z t x) := vParse w h
theorem uParseE {l : List UInt8} {z t x : Int} (w : World) (h : tparse l = ((z, t), x)) : Calls Tryz.prog 10 #[.string (st l)] w (PE w z t x) := uParse l w _ h
theorem vMakeE {w : World} {A : Option Addr} {n c a : Nat} {s : Bool} {z t Z T X : Int} (h : Rd w A n c a) (hn : n ≤ 1000) (h1 : -9223372036854775808 ≤ t) (h2 : t ≤ 9223372036854775807) (hz : sg s a = z) (hr : mkA z t = ((Z, T), X)) :
    Calls Tryz.prog 12 #[.agg #[.bool s, .slice A n c], .int .i64 t] w (PE w Z T X) := vMakeD h (by omega) h1 h2 hz hr
theorem uMakeE {w : World} {A : Option Addr} {n c a : Nat} {s : Bool} {z t Z T X : Int} (h : Rd w A n c a) (hn : n ≤ 1000) (hz : sg s a = z) (hr : mkA z t = ((Z, T), X)) :
    Calls Tryz.prog 13 #[.agg #[.bool s, .slice A n c], .int .i64 t] w (PE w Z T X) := uMake h hn hz hr

theorem tparse_one : tparse [45, 49, 50, 46, 53, 48, 101, 51] = ((-125, 2), 0) := by
  have hr : tread [45, 49, 50, 46, 53, 48, 101, 51] = some (true, [49, 50, 53, 48], 1) := by decide
  unfold tparse
  rw [if_neg (by decide), hr]
  have e1 : dval [49, 50, 53, 48] = 1250 := by decide
  have e2 : v10 1250 = 1 := v10_of (m := 125) (by decide) 1
  have e3 : u10 1250 = 125 := u10_of (m := 125) (by decide) 1
  simp only [e1]
  have e4 : mkd (zs true 1250) 1 = some (-125, 2) := by
    unfold mkd
    rw [if_neg (by decide), show (zs true 1250).natAbs = 1250 by decide, e2, e3]
    decide
  rw [e4]
theorem tparse_two : tparse [48, 48, 55] = ((0, 0), 2) := by
  have hr : tread [48, 48, 55] = none := by decide
  unfold tparse
  rw [if_neg (by decide), hr]
theorem shw_one : shw (-125) 2 = [45, 49, 50, 53, 101, 50] := by
  have e1 : Lib.decDigits (-125 : Int).natAbs = [49, 50, 53] := by
    rw [show (-125 : Int).natAbs = 125 by decide, Lib.decDigits, dif_neg (by decide), Lib.decDigits, dif_neg (by decide), Lib.decDigits, dif_pos (by decide)]
    decide
  have e2 : Lib.itoa 2 = [50] := by
    unfold Lib.itoa
    rw [if_neg (by decide), show Int.toNat 2 = 2 by decide, Lib.decDigits, dif_pos (by decide)]
    decide
  unfold shw
  rw [e1, e2]
  decide
set_option maxHeartbeats 4000000 in
theorem awake4 (w : World) (hT : Pt w) : Calls Tryz.prog 8 #[] w (PB w true) := by
  have HP1 := Lib.hid (fun w => vParseE w tparse_one)
  have HP2 := Lib.hid (fun w => vParseE w tparse_two)
  go_enter Tryz.func8, Tryz.ntmps8
  have HB := Lib.hid (Below.refl w.heap.size w)
  go_wp2_with fail
  refine (HP1.out _).mono ?_
  rintro ee w2 ⟨s2, A2, n2, c2, rfl, p2, k2, B⟩
  replace hT := hT.below B
  replace HB := Lib.hid (bt HB.out B)
  clear B
  go_upto_region 2 with (fail)
  have lXa := Nat.le_refl (World.heap w2).size
  replace hT := hT.below (bel1 _ (.cells #[.bool s2, .slice A2 n2 c2, .int .i64 2] 27))
  replace p2 := p2.below (bel1 _ (.cells #[.bool s2, .slice A2 n2 c2, .int .i64 2] 27))
  replace HB := Lib.hid (bt HB.out (bel1 _ (.cells #[.bool s2, .slice A2 n2 c2, .int .i64 2] 27)))
  have Xa := Bo.new w2 #[.bool s2, .slice A2 n2 c2, .int .i64 2] 27
  generalize hWn : World.alloc w2 (.cells #[.bool s2, .slice A2 n2 c2, .int .i64 2] 27) = w3 at *
  clear hWn
  have xXa0 := Xa.at (i := 0) (v := .bool s2) rfl
  have xXa1 := Xa.at (i := 1) (v := .slice A2 n2 c2) rfl
  have xXa2 := Xa.at (i := 2) (v := .int .i64 2) rfl
  go_wp2_with fail
  refine (wInt (z := -125) (r := -125) (t := true) p2.wr rfl rfl).mono ?_
  rintro ee w4 ⟨rfl, B⟩
  clear xXa0 xXa1 xXa2
  replace Xa := Xa.below B
  replace hT := hT.below B
  replace p2 := p2.below B
  replace HB := Lib.hid (bt HB.out B)
  clear B
  go_wp2_with fail
  refine (HP2.out _).mono ?_
  rintro ee w5 ⟨s3, A3, n3, c3, rfl, p3, k3, B⟩
  replace Xa := Xa.below B
  replace hT := hT.below B
  replace p2 := p2.below B
  replace HB := Lib.hid (bt HB.out B)
  clear B
  clear p3
  go_upto_region 4 with (fail)
  have lXb := Nat.le_refl (World.heap w5).size
  have nXbXa := Xa.lt
  replace Xa := Xa.below (bel1 _ (.cells #[.bool s3, .slice A3 n3 c3, .int .i64 0] 27))
  replace hT := hT.below (bel1 _ (.cells #[.bool s3, .slice A3 n3 c3, .int .i64 0] 27))
  replace p2 := p2.below (bel1 _ (.cells #[.bool s3, .slice A3 n3 c3, .int .i64 0] 27))
  replace HB := Lib.hid (bt HB.out (bel1 _ (.cells #[.bool s3, .slice A3 n3 c3, .int .i64 0] 27)))
  have Xb := Bo.new w5 #[.bool s3, .slice A3 n3 c3, .int .i64 0] 27
  generalize hWn : World.alloc w5 (.cells #[.bool s3, .slice A3 n3 c3, .int .i64 0] 27) = w6 at *
  clear hWn
  have xXa0 := Xa.at (i := 0) (v := .bool s2) rfl
  have xXa1 := Xa.at (i := 1) (v := .slice A2 n2 c2) rfl
  have xXa2 := Xa.at (i := 2) (v := .int .i64 2) rfl
  go_wp2_with fail
  refine (vShowW p2 (by omega) hT rfl shw_one).mono ?_
  rintro ee w7 ⟨rfl, B⟩
  clear xXa0 xXa1 xXa2
  replace Xa := Xa.below B
  replace Xb := Xb.below B
  replace hT := hT.below B
  replace p2 := p2.below B
  replace HB := Lib.hid (bt HB.out B)
  clear B
  go_wp2
  go_ret
  exact ⟨rfl, HB.out⟩
end Go.Proofs.YtdfnjhkcicnkpaaGreatDoor

/-
  Contracts and words that the statement's proof rests on, several texts in one: Ie, Ig, Ih.
-/
import Derived.Test.YtpmakljahhhnfaaGreatDoorYAak
import Derived.Test.YtpmakljahhhnfaaGreatDoorYAax
import Derived.Test.YtpmakljahhhnfaaGreatDoorYAay
/-
  What the document's Div of layer 7 does.
-/
namespace Go.Proofs.YtpmakljahhhnfaaGreatDoor
open Go.RowKit
set_option linter.unusedVariables false
set_option linter.unusedSimpArgs false
set_option maxRecDepth 100000

theorem exb_one {s : Bool} {M : Int} (h1 : 9223372036854775808 ≤ M) : exb 1 s M 0 = true := by
  have : MayQ 1 s M 0 := Or.inr (Or.inl ⟨rfl, h1, by decide, by decide⟩)
  unfold exb
  rw [decide_eq_true this]
  rfl
/-- A word as the document's Exact has it: an odd number, a power of two, the sign. -/
theorem exq_one {s : Bool} {M : Int} (h1 : 9223372036854775808 ≤ M) (h2 : M < 18446744073709551616) : ∃ (α : Nat) (v : Nat), (exq 1 s M 0).1 = sgi s (α : Int) ∧ (exq 1 s M 0).2 = (v : Int) ∧ M = (α : Int) * 2 ^ v ∧ 0 < α ∧ α < 18446744073709551616 ∧ v < 64 := by
  obtain ⟨α, v, a, b, c, d, _, e, f⟩ := odd_part h1 h2
  have hx : exq 1 s M 0 = mk (sgi s M) 0 := by
    unfold exq
    rw [if_pos (exb_one h1)]
  refine ⟨α, v, ?_, ?_, c, d, e, f⟩
  · rw [hx]
    cases s
    · rw [wsg_f, wsg_f, a]
    · rw [wsg_t, wsg_t, mk_neg, a]
  · rw [hx]
    cases s
    · rw [wsg_f, b]
    · rw [wsg_t, mk_neg, b]
theorem wn_rd {w : World} {s t : Bool} {A : Option Addr} {n c α : Nat} (h : Wn w t A n c (sgi s (α : Int))) (h0 : 0 < α) : Rd w A n c α ∧ t = s := by
  have e : (sgi s (α : Int)).natAbs = α := by rw [sgi_abs s (by omega)]; omega
  have h1 := h.1.rd
  rw [e] at h1
  refine ⟨h1, ?_⟩
  rw [h.2]
  cases s
  · rw [wsg_f]; exact decide_eq_false (by omega)
  · rw [wsg_t]; exact decide_eq_true (by omega)
set_option maxHeartbeats 8000000 in
theorem jDiv {w : World} {D D' M M' E E' : Int} {s s' : Bool} {up : Bool} {x y r : Int} (hM : M < 18446744073709551616) (hM' : M' < 18446744073709551616) (hx : rk D s M E = x) (hy : rk D' s' M' E' = y) (hr : Qt up x y r) : Calls Tryz.prog 8 #[.agg #[.int .i64 D, .bool s, .int .u64 M, .int .i64 E], .agg #[.int .i64 D', .bool s', .int .u64 M', .int .i64 E'], .bool up] w (PN w r) := by
  have HX := Lib.hid hx
  have HY := Lib.hid hy
  clear hx hy
  go_enter Tryz.func8, Tryz.ntmps8
  go_upto_region 1 with (fail)
  have X1 := (Bo.newAt w (g := w.heap.size) (by simp) #[.int .i64 D, .bool s, .int .u64 M, .int .i64 E] 24).below (bel2 _ (.cells #[.int .i64 D', .bool s', .int .u64 M', .int .i64 E'] 24) (.cells #[.int .i64 0, .bool false, .int .u64 0, .int .i64 0] 24))
  have X2 := (Bo.newAt (w.alloc (.cells #[.int .i64 D, .bool s, .int .u64 M, .int .i64 E] 24)) (g := w.heap.size + 1) (by simp) #[.int .i64 D', .bool s', .int .u64 M', .int .i64 E'] 24).below (bel1 _ (.cells #[.int .i64 0, .bool false, .int .u64 0, .int .i64 0] 24))
  have XR := (Bo.newAt ((w.alloc (.cells #[.int .i64 D, .bool s, .int .u64 M, .int .i64 E] 24)).alloc (.cells #[.int .i64 D', .bool s', .int .u64 M', .int .i64 E'] 24)) (g := w.heap.size + 1 + 1) (by simp) #[.int .i64 0, .bool false, .int .u64 0, .int .i64 0] 24)
  have HB := Lib.hid (bel3 w (.cells #[.int .i64 D, .bool s, .int .u64 M, .int .i64 E] 24) (.cells #[.int .i64 D', .bool s', .int .u64 M', .int .i64 E'] 24) (.cells #[.int .i64 0, .bool false, .int .u64 0, .int .i64 0] 24))
  generalize hW1 : (((w.alloc (.cells #[.int .i64 D, .bool s, .int .u64 M, .int .i64 E] 24)).alloc (.cells #[.int .i64 D', .bool s', .int .u64 M', .int .i64 E'] 24)).alloc (.cells #[.int .i64 0, .bool false, .int .u64 0, .int .i64 0] 24)) = w1 at *
  clear hW1
  have xX10 := X1.a 0 (.int .i64 D) rfl
  have xX11 := X1.a 1 (.bool s) rfl
  have xX12 := X1.a 2 (.int .u64 M) rfl
  have xX13 := X1.a 3 (.int .i64 E) rfl
  go_wp2_with fail
  refine (gFair hM HX.out).mono ?_
  rintro ee w2 ⟨K1, s1, M1, E1, rfl, q1, B⟩
  clear xX10 xX11 xX12 xX13
  replace X1 := X1.below B
  replace X2 := X2.below B
  replace XR := XR.below B
  replace HB := Lib.hid (bt HB.out B)
  clear B
  go_upto_region 2 with (fail)
  have lX7 := Nat.le_refl (World.heap w2).size
  have nX7X1 := X1.lt
  have nX7X2 := X2.lt
  have nX7XR := XR.lt
  replace X1 := X1.below (bel1 _ (.cells #[.int .i64 K1, .bool s1, .int .u64 M1, .int .i64 E1] 24))
  replace X2 := X2.below (bel1 _ (.cells #[.int .i64 K1, .bool s1, .int .u64 M1, .int .i64 E1] 24))
  replace XR := XR.below (bel1 _ (.cells #[.int .i64 K1, .bool s1, .int .u64 M1, .int .i64 E1] 24))
  replace HB := Lib.hid (bt HB.out (bel1 _ (.cells #[.int .i64 K1, .bool s1, .int .u64 M1, .int .i64 E1] 24)))
  have X7 := Bo.new w2 #[.int .i64 K1, .bool s1, .int .u64 M1, .int .i64 E1] 24
  generalize hWn : World.alloc w2 (.cells #[.int .i64 K1, .bool s1, .int .u64 M1, .int .i64 E1] 24) = w3 at *
  clear hWn
  have xX20 := X2.a 0 (.int .i64 D') rfl
  have xX21 := X2.a 1 (.bool s') rfl
  have xX22 := X2.a 2 (.int .u64 M') rfl
  have xX23 := X2.a 3 (.int .i64 E') rfl
  go_wp2_with fail
  refine (gFair hM' HY.out).mono ?_
  rintro ee w4 ⟨K2, s2, M2, E2, rfl, q2, B⟩
  clear xX20 xX21 xX22 xX23
  replace X1 := X1.below B
  replace X2 := X2.below B
  replace XR := XR.below B
  replace X7 := X7.below B
  replace HB := Lib.hid (bt HB.out B)
  clear B
  go_upto_region 3 with (fail)
  have lX8 := Nat.le_refl (World.heap w4).size
  have nX8X1 := X1.lt
  have nX8X2 := X2.lt
  have nX8XR := XR.lt
  have nX8X7 := X7.lt
  replace X1 := X1.below (bel1 _ (.cells #[.int .i64 K2, .bool s2, .int .u64 M2, .int .i64 E2] 24))
  replace X2 := X2.below (bel1 _ (.cells #[.int .i64 K2, .bool s2, .int .u64 M2, .int .i64 E2] 24))
  replace XR := XR.below (bel1 _ (.cells #[.int .i64 K2, .bool s2, .int .u64 M2, .int .i64 E2] 24))
  replace X7 := X7.below (bel1 _ (.cells #[.int .i64 K2, .bool s2, .int .u64 M2, .int .i64 E2] 24))
  replace HB := Lib.hid (bt HB.out (bel1 _ (.cells #[.int .i64 K2, .bool s2, .int .u64 M2, .int .i64 E2] 24)))
  have X8 := Bo.new w4 #[.int .i64 K2, .bool s2, .int .u64 M2, .int .i64 E2] 24
  generalize hWn : World.alloc w4 (.cells #[.int .i64 K2, .bool s2, .int .u64 M2, .int .i64 E2] 24) = w5 at *
  clear hWn
  clear lX7 lX8 HX HY hM hM'
  have i1 := fq_inf q1
  have i2 := fq_inf q2
  have z1 := q1.zero_iff
  have z2 := q2.zero_iff
  have kk1 : K1 = 2 ∨ K1 = 0 ∨ K1 = 1 := by rcases q1.cases with ⟨h, _⟩ | ⟨h, _⟩ | ⟨h, _⟩ <;> omega
  have kk2 : K2 = 2 ∨ K2 = 0 ∨ K2 = 1 := by rcases q2.cases with ⟨h, _⟩ | ⟨h, _⟩ | ⟨h, _⟩ <;> omega
  rcases kk1 with rfl | rfl | rfl
  · rcases kk2 with rfl | rfl | rfl
    · have hy0 : y ≠ 0 := fun c => absurd (z2.2 c) (by decide)
      have hr2 : r = 0 := (qt_zero hy0 (.inr i2)).1 hr
      subst hr2
      clear i1 i2 z1 z2 q1 q2 hr hy0
      have xXR0 := XR.a 0 (.int .i64 0) rfl
      have zXR0 := XR.frozen 0
      have xXR1 := XR.a 1 (.bool false) rfl
      have zXR1 := XR.frozen 1
      have xXR2 := XR.a 2 (.int .u64 0) rfl
      have zXR2 := XR.frozen 2
      have xXR3 := XR.a 3 (.int .i64 0) rfl
      have zXR3 := XR.frozen 3
      have xX70 := X7.a 0 (.int .i64 2) rfl
      have xX71 := X7.a 1 (.bool s1) rfl
      have xX72 := X7.a 2 (.int .u64 M1) rfl
      have xX73 := X7.a 3 (.int .i64 E1) rfl
      have xX80 := X8.a 0 (.int .i64 2) rfl
      have xX81 := X8.a 1 (.bool s2) rfl
      have xX82 := X8.a 2 (.int .u64 M2) rfl
      have xX83 := X8.a 3 (.int .i64 E2) rfl
      go_wp2
      clear xXR0 zXR0 xXR1 zXR1 xXR2 zXR2 xXR3 zXR3 xX70 xX71 xX72 xX73 xX80 xX81 xX82 xX83
      have SX := StN.mk4 XR (.int .i64 0) (.bool false) (.int .u64 0) (.int .i64 0)
      replace X7 := X7.stn SX (by omega)
      replace X8 := X8.stn SX (by omega)
      replace HB := Lib.hid (SX.below HB.out (by omega))
      replace XR := SX.box
      clear SX
      generalize (World.setCell (World.setCell (World.setCell (World.setCell w5 ⟨w.heap.size + 1 + 1, 0, none⟩ (.int .i64 0)) ⟨w.heap.size + 1 + 1, 1, none⟩ (.bool false)) ⟨w.heap.size + 1 + 1, 2, none⟩ (.int .u64 0)) ⟨w.heap.size + 1 + 1, 3, none⟩ (.int .i64 0)) = w6 at *
      have r0 := XR.cell 0
      have r1 := XR.cell 1
      have r2 := XR.cell 2
      have r3 := XR.cell 3
      exact bodyPost_ret (v := .agg #[.int .i64 0, .bool false, .int .u64 0, .int .i64 0]) (by simp [results, Tryz.results8, go_sem, r0, r1, r2, r3]) rfl ⟨_, _, _, _, rfl, Fq.nought, HB.out⟩
    · have hr2 : sgi (!up) TP = r := by
        rw [z2.1 rfl] at hr
        exact (qt_none'.1 hr).symm
      have HRR := Lib.hid hr2
      clear i1 i2 z1 z2 q1 q2 hr hr2
      have xX70 := X7.a 0 (.int .i64 2) rfl
      have xX71 := X7.a 1 (.bool s1) rfl
      have xX72 := X7.a 2 (.int .u64 M1) rfl
      have xX73 := X7.a 3 (.int .i64 E1) rfl
      have xX80 := X8.a 0 (.int .i64 0) rfl
      have xX81 := X8.a 1 (.bool s2) rfl
      have xX82 := X8.a 2 (.int .u64 M2) rfl
      have xX83 := X8.a 3 (.int .i64 E2) rfl
      go_wp2_with fail
      refine (yInf (s := !up) HRR.out).mono ?_
      rintro ee w6 ⟨K3, s3, M3, E3, rfl, q3, B⟩
      clear xX70 xX71 xX72 xX73 xX80 xX81 xX82 xX83
      replace XR := XR.below B
      replace X7 := X7.below B
      replace X8 := X8.below B
      replace HB := Lib.hid (bt HB.out B)
      clear B
      have xXR0 := XR.a 0 (.int .i64 0) rfl
      have zXR0 := XR.frozen 0
      have xXR1 := XR.a 1 (.bool false) rfl
      have zXR1 := XR.frozen 1
      have xXR2 := XR.a 2 (.int .u64 0) rfl
      have zXR2 := XR.frozen 2
      have xXR3 := XR.a 3 (.int .i64 0) rfl
      have zXR3 := XR.frozen 3
      go_wp2
      clear xXR0 zXR0 xXR1 zXR1 xXR2 zXR2 xXR3 zXR3
      have SX := StN.mk4 XR (.int .i64 K3) (.bool s3) (.int .u64 M3) (.int .i64 E3)
      replace X7 := X7.stn SX (by omega)
      replace X8 := X8.stn SX (by omega)
      replace HB := Lib.hid (SX.below HB.out (by omega))
      replace XR := SX.box
      clear SX
      generalize (World.setCell (World.setCell (World.setCell (World.setCell w6 ⟨w.heap.size + 1 + 1, 0, none⟩ (.int .i64 K3)) ⟨w.heap.size + 1 + 1, 1, none⟩ (.bool s3)) ⟨w.heap.size + 1 + 1, 2, none⟩ (.int .u64 M3)) ⟨w.heap.size + 1 + 1, 3, none⟩ (.int .i64 E3)) = w7 at *
      have r0 := XR.cell 0
      have r1 := XR.cell 1
      have r2 := XR.cell 2
      have r3 := XR.cell 3
      exact bodyPost_ret (v := .agg #[.int .i64 K3, .bool s3, .int .u64 M3, .int .i64 E3]) (by simp [results, Tryz.results8, go_sem, r0, r1, r2, r3]) rfl ⟨_, _, _, _, rfl, q3, HB.out⟩
    · have hy0 : y ≠ 0 := fun c => absurd (z2.2 c) (by decide)
      have hn : ¬ (x = 0 ∨ infp y = true) := by
        rw [i2]
        rintro (c | c)
        · exact absurd (z1.2 c) (by decide)
        · exact absurd c (by decide)
      have sx : decide (x < 0) = s1 := by
        rcases q1.three with ⟨a, _⟩ | ⟨_, rfl, b⟩ | ⟨_, rfl, b⟩
        · exact absurd a (by decide)
        · exact decide_eq_false (by omega)
        · exact decide_eq_true b
      have sy : decide (y < 0) = s2 := by
        rcases q2.three with ⟨a, _⟩ | ⟨_, rfl, b⟩ | ⟨_, rfl, b⟩
        · exact absurd a (by decide)
        · exact decide_eq_false (by omega)
        · exact decide_eq_true b
      have hr2 : sgi (s1 != s2) TP = r := by
        have := (qt_inf hy0 hn i1).1 hr
        rw [sx, sy] at this
        exact this.symm
      have HRR := Lib.hid hr2
      clear i1 i2 z1 z2 q1 q2 hr hr2 sx sy hn hy0
      have xX70 := X7.a 0 (.int .i64 2) rfl
      have xX71 := X7.a 1 (.bool s1) rfl
      have xX72 := X7.a 2 (.int .u64 M1) rfl
      have xX73 := X7.a 3 (.int .i64 E1) rfl
      have xX80 := X8.a 0 (.int .i64 1) rfl
      have xX81 := X8.a 1 (.bool s2) rfl
      have xX82 := X8.a 2 (.int .u64 M2) rfl
      have xX83 := X8.a 3 (.int .i64 E2) rfl
      go_wp2_with fail
      refine (yInf (s := s1 != s2) HRR.out).mono ?_
      rintro ee w6 ⟨K3, s3, M3, E3, rfl, q3, B⟩
      clear xX70 xX71 xX72 xX73 xX80 xX81 xX82 xX83
      replace XR := XR.below B
      replace X7 := X7.below B
      replace X8 := X8.below B
      replace HB := Lib.hid (bt HB.out B)
      clear B
      have xXR0 := XR.a 0 (.int .i64 0) rfl
      have zXR0 := XR.frozen 0
      have xXR1 := XR.a 1 (.bool false) rfl
      have zXR1 := XR.frozen 1
      have xXR2 := XR.a 2 (.int .u64 0) rfl
      have zXR2 := XR.frozen 2
      have xXR3 := XR.a 3 (.int .i64 0) rfl
      have zXR3 := XR.frozen 3
      go_wp2
      clear xXR0 zXR0 xXR1 zXR1 xXR2 zXR2 xXR3 zXR3
      have SX := StN.mk4 XR (.int .i64 K3) (.bool s3) (.int .u64 M3) (.int .i64 E3)
      replace X7 := X7.stn SX (by omega)
      replace X8 := X8.stn SX (by omega)
      replace HB := Lib.hid (SX.below HB.out (by omega))
      replace XR := SX.box
      clear SX
      generalize (World.setCell (World.setCell (World.setCell (World.setCell w6 ⟨w.heap.size + 1 + 1, 0, none⟩ (.int .i64 K3)) ⟨w.heap.size + 1 + 1, 1, none⟩ (.bool s3)) ⟨w.heap.size + 1 + 1, 2, none⟩ (.int .u64 M3)) ⟨w.heap.size + 1 + 1, 3, none⟩ (.int .i64 E3)) = w7 at *
      have r0 := XR.cell 0
      have r1 := XR.cell 1
      have r2 := XR.cell 2
      have r3 := XR.cell 3
      exact bodyPost_ret (v := .agg #[.int .i64 K3, .bool s3, .int .u64 M3, .int .i64 E3]) (by simp [results, Tryz.results8, go_sem, r0, r1, r2, r3]) rfl ⟨_, _, _, _, rfl, q3, HB.out⟩
  · rcases kk2 with rfl | rfl | rfl
    · have hy0 : y ≠ 0 := fun c => absurd (z2.2 c) (by decide)
      have hr2 : r = 0 := (qt_zero hy0 (.inl (z1.1 rfl))).1 hr
      subst hr2
      clear i1 i2 z1 z2 q1 q2 hr hy0
      have xXR0 := XR.a 0 (.int .i64 0) rfl
      have zXR0 := XR.frozen 0
      have xXR1 := XR.a 1 (.bool false) rfl
      have zXR1 := XR.frozen 1
      have xXR2 := XR.a 2 (.int .u64 0) rfl
      have zXR2 := XR.frozen 2
      have xXR3 := XR.a 3 (.int .i64 0) rfl
      have zXR3 := XR.frozen 3
      have xX70 := X7.a 0 (.int .i64 0) rfl
      have xX71 := X7.a 1 (.bool s1) rfl
      have xX72 := X7.a 2 (.int .u64 M1) rfl
      have xX73 := X7.a 3 (.int .i64 E1) rfl
      have xX80 := X8.a 0 (.int .i64 2) rfl
      have xX81 := X8.a 1 (.bool s2) rfl
      have xX82 := X8.a 2 (.int .u64 M2) rfl
      have xX83 := X8.a 3 (.int .i64 E2) rfl
      go_wp2
      clear xXR0 zXR0 xXR1 zXR1 xXR2 zXR2 xXR3 zXR3 xX70 xX71 xX72 xX73 xX80 xX81 xX82 xX83
      have SX := StN.mk4 XR (.int .i64 0) (.bool false) (.int .u64 0) (.int .i64 0)
      replace X7 := X7.stn SX (by omega)
      replace X8 := X8.stn SX (by omega)
      replace HB := Lib.hid (SX.below HB.out (by omega))
      replace XR := SX.box
      clear SX
      generalize (World.setCell (World.setCell (World.setCell (World.setCell w5 ⟨w.heap.size + 1 + 1, 0, none⟩ (.int .i64 0)) ⟨w.heap.size + 1 + 1, 1, none⟩ (.bool false)) ⟨w.heap.size + 1 + 1, 2, none⟩ (.int .u64 0)) ⟨w.heap.size + 1 + 1, 3, none⟩ (.int .i64 0)) = w6 at *
      have r0 := XR.cell 0
      have r1 := XR.cell 1
      have r2 := XR.cell 2
      have r3 := XR.cell 3
      exact bodyPost_ret (v := .agg #[.int .i64 0, .bool false, .int .u64 0, .int .i64 0]) (by simp [results, Tryz.results8, go_sem, r0, r1, r2, r3]) rfl ⟨_, _, _, _, rfl, Fq.nought, HB.out⟩
    · have hr2 : sgi (!up) TP = r := by
        rw [z2.1 rfl] at hr
        exact (qt_none'.1 hr).symm
      have HRR := Lib.hid hr2
      clear i1 i2 z1 z2 q1 q2 hr hr2
      have xX70 := X7.a 0 (.int .i64 0) rfl
      have xX71 := X7.a 1 (.bool s1) rfl
      have xX72 := X7.a 2 (.int .u64 M1) rfl
      have xX73 := X7.a 3 (.int .i64 E1) rfl
      have xX80 := X8.a 0 (.int .i64 0) rfl
      have xX81 := X8.a 1 (.bool s2) rfl
      have xX82 := X8.a 2 (.int .u64 M2) rfl
      have xX83 := X8.a 3 (.int .i64 E2) rfl
      go_wp2_with fail
      refine (yInf (s := !up) HRR.out).mono ?_
      rintro ee w6 ⟨K3, s3, M3, E3, rfl, q3, B⟩
      clear xX70 xX71 xX72 xX73 xX80 xX81 xX82 xX83
      replace XR := XR.below B
      replace X7 := X7.below B
      replace X8 := X8.below B
      replace HB := Lib.hid (bt HB.out B)
      clear B
      have xXR0 := XR.a 0 (.int .i64 0) rfl
      have zXR0 := XR.frozen 0
      have xXR1 := XR.a 1 (.bool false) rfl
      have zXR1 := XR.frozen 1
      have xXR2 := XR.a 2 (.int .u64 0) rfl
      have zXR2 := XR.frozen 2
      have xXR3 := XR.a 3 (.int .i64 0) rfl
      have zXR3 := XR.frozen 3
      go_wp2
      clear xXR0 zXR0 xXR1 zXR1 xXR2 zXR2 xXR3 zXR3
      have SX := StN.mk4 XR (.int .i64 K3) (.bool s3) (.int .u64 M3) (.int .i64 E3)
      replace X7 := X7.stn SX (by omega)
      replace X8 := X8.stn SX (by omega)
      replace HB := Lib.hid (SX.below HB.out (by omega))
      replace XR := SX.box
      clear SX
      generalize (World.setCell (World.setCell (World.setCell (World.setCell w6 ⟨w.heap.size + 1 + 1, 0, none⟩ (.int .i64 K3)) ⟨w.heap.size + 1 + 1, 1, none⟩ (.bool s3)) ⟨w.heap.size + 1 + 1, 2, none⟩ (.int .u64 M3)) ⟨w.heap.size + 1 + 1, 3, none⟩ (.int .i64 E3)) = w7 at *
      have r0 := XR.cell 0
      have r1 := XR.cell 1
      have r2 := XR.cell 2
      have r3 := XR.cell 3
      exact bodyPost_ret (v := .agg #[.int .i64 K3, .bool s3, .int .u64 M3, .int .i64 E3]) (by simp [results, Tryz.results8, go_sem, r0, r1, r2, r3]) rfl ⟨_, _, _, _, rfl, q3, HB.out⟩
    · have hy0 : y ≠ 0 := fun c => absurd (z2.2 c) (by decide)
      have hr2 : r = 0 := (qt_zero hy0 (.inl (z1.1 rfl))).1 hr
      subst hr2
      clear i1 i2 z1 z2 q1 q2 hr hy0
      have xXR0 := XR.a 0 (.int .i64 0) rfl
      have zXR0 := XR.frozen 0
      have xXR1 := XR.a 1 (.bool false) rfl
      have zXR1 := XR.frozen 1
      have xXR2 := XR.a 2 (.int .u64 0) rfl
      have zXR2 := XR.frozen 2
      have xXR3 := XR.a 3 (.int .i64 0) rfl
      have zXR3 := XR.frozen 3
      have xX70 := X7.a 0 (.int .i64 0) rfl
      have xX71 := X7.a 1 (.bool s1) rfl
      have xX72 := X7.a 2 (.int .u64 M1) rfl
      have xX73 := X7.a 3 (.int .i64 E1) rfl
      have xX80 := X8.a 0 (.int .i64 1) rfl
      have xX81 := X8.a 1 (.bool s2) rfl
      have xX82 := X8.a 2 (.int .u64 M2) rfl
      have xX83 := X8.a 3 (.int .i64 E2) rfl
      go_wp2
      clear xXR0 zXR0 xXR1 zXR1 xXR2 zXR2 xXR3 zXR3 xX70 xX71 xX72 xX73 xX80 xX81 xX82 xX83
      have SX := StN.mk4 XR (.int .i64 0) (.bool false) (.int .u64 0) (.int .i64 0)
      replace X7 := X7.stn SX (by omega)
      replace X8 := X8.stn SX (by omega)
      replace HB := Lib.hid (SX.below HB.out (by omega))
      replace XR := SX.box
      clear SX
      generalize (World.setCell (World.setCell (World.setCell (World.setCell w5 ⟨w.heap.size + 1 + 1, 0, none⟩ (.int .i64 0)) ⟨w.heap.size + 1 + 1, 1, none⟩ (.bool false)) ⟨w.heap.size + 1 + 1, 2, none⟩ (.int .u64 0)) ⟨w.heap.size + 1 + 1, 3, none⟩ (.int .i64 0)) = w6 at *
      have r0 := XR.cell 0
      have r1 := XR.cell 1
      have r2 := XR.cell 2
      have r3 := XR.cell 3
      exact bodyPost_ret (v := .agg #[.int .i64 0, .bool false, .int .u64 0, .int .i64 0]) (by simp [results, Tryz.results8, go_sem, r0, r1, r2, r3]) rfl ⟨_, _, _, _, rfl, Fq.nought, HB.out⟩
  · rcases kk2 with rfl | rfl | rfl
    · have hy0 : y ≠ 0 := fun c => absurd (z2.2 c) (by decide)
      have hr2 : r = 0 := (qt_zero hy0 (.inr i2)).1 hr
      subst hr2
      clear i1 i2 z1 z2 q1 q2 hr hy0
      have xXR0 := XR.a 0 (.int .i64 0) rfl
      have zXR0 := XR.frozen 0
      have xXR1 := XR.a 1 (.bool false) rfl
      have zXR1 := XR.frozen 1
      have xXR2 := XR.a 2 (.int .u64 0) rfl
      have zXR2 := XR.frozen 2
      have xXR3 := XR.a 3 (.int .i64 0) rfl
      have zXR3 := XR.frozen 3
      have xX70 := X7.a 0 (.int .i64 1) rfl
      have xX71 := X7.a 1 (.bool s1) rfl
      have xX72 := X7.a 2 (.int .u64 M1) rfl
      have xX73 := X7.a 3 (.int .i64 E1) rfl
      have xX80 := X8.a 0 (.int .i64 2) rfl
      have xX81 := X8.a 1 (.bool s2) rfl
      have xX82 := X8.a 2 (.int .u64 M2) rfl
      have xX83 := X8.a 3 (.int .i64 E2) rfl
      go_wp2
      clear xXR0 zXR0 xXR1 zXR1 xXR2 zXR2 xXR3 zXR3 xX70 xX71 xX72 xX73 xX80 xX81 xX82 xX83
      have SX := StN.mk4 XR (.int .i64 0) (.bool false) (.int .u64 0) (.int .i64 0)
      replace X7 := X7.stn SX (by omega)
      replace X8 := X8.stn SX (by omega)
      replace HB := Lib.hid (SX.below HB.out (by omega))
      replace XR := SX.box
      clear SX
      generalize (World.setCell (World.setCell (World.setCell (World.setCell w5 ⟨w.heap.size + 1 + 1, 0, none⟩ (.int .i64 0)) ⟨w.heap.size + 1 + 1, 1, none⟩ (.bool false)) ⟨w.heap.size + 1 + 1, 2, none⟩ (.int .u64 0)) ⟨w.heap.size + 1 + 1, 3, none⟩ (.int .i64 0)) = w6 at *
      have r0 := XR.cell 0
      have r1 := XR.cell 1
      have r2 := XR.cell 2
      have r3 := XR.cell 3
      exact bodyPost_ret (v := .agg #[.int .i64 0, .bool false, .int .u64 0, .int .i64 0]) (by simp [results, Tryz.results8, go_sem, r0, r1, r2, r3]) rfl ⟨_, _, _, _, rfl, Fq.nought, HB.out⟩
    · have hr2 : sgi (!up) TP = r := by
        rw [z2.1 rfl] at hr
        exact (qt_none'.1 hr).symm
      have HRR := Lib.hid hr2
      clear i1 i2 z1 z2 q1 q2 hr hr2
      have xX70 := X7.a 0 (.int .i64 1) rfl
      have xX71 := X7.a 1 (.bool s1) rfl
      have xX72 := X7.a 2 (.int .u64 M1) rfl
      have xX73 := X7.a 3 (.int .i64 E1) rfl
      have xX80 := X8.a 0 (.int .i64 0) rfl
      have xX81 := X8.a 1 (.bool s2) rfl
      have xX82 := X8.a 2 (.int .u64 M2) rfl
      have xX83 := X8.a 3 (.int .i64 E2) rfl
      go_wp2_with fail
      refine (yInf (s := !up) HRR.out).mono ?_
      rintro ee w6 ⟨K3, s3, M3, E3, rfl, q3, B⟩
      clear xX70 xX71 xX72 xX73 xX80 xX81 xX82 xX83
      replace XR := XR.below B
      replace X7 := X7.below B
      replace X8 := X8.below B
      replace HB := Lib.hid (bt HB.out B)
      clear B
      have xXR0 := XR.a 0 (.int .i64 0) rfl
      have zXR0 := XR.frozen 0
      have xXR1 := XR.a 1 (.bool false) rfl
      have zXR1 := XR.frozen 1
      have xXR2 := XR.a 2 (.int .u64 0) rfl
      have zXR2 := XR.frozen 2
      have xXR3 := XR.a 3 (.int .i64 0) rfl
      have zXR3 := XR.frozen 3
      go_wp2
      clear xXR0 zXR0 xXR1 zXR1 xXR2 zXR2 xXR3 zXR3
      have SX := StN.mk4 XR (.int .i64 K3) (.bool s3) (.int .u64 M3) (.int .i64 E3)
      replace X7 := X7.stn SX (by omega)
      replace X8 := X8.stn SX (by omega)
      replace HB := Lib.hid (SX.below HB.out (by omega))
      replace XR := SX.box
      clear SX
      generalize (World.setCell (World.setCell (World.setCell (World.setCell w6 ⟨w.heap.size + 1 + 1, 0, none⟩ (.int .i64 K3)) ⟨w.heap.size + 1 + 1, 1, none⟩ (.bool s3)) ⟨w.heap.size + 1 + 1, 2, none⟩ (.int .u64 M3)) ⟨w.heap.size + 1 + 1, 3, none⟩ (.int .i64 E3)) = w7 at *
      have r0 := XR.cell 0
      have r1 := XR.cell 1
      have r2 := XR.cell 2
      have r3 := XR.cell 3
      exact bodyPost_ret (v := .agg #[.int .i64 K3, .bool s3, .int .u64 M3, .int .i64 E3]) (by simp [results, Tryz.results8, go_sem, r0, r1, r2, r3]) rfl ⟨_, _, _, _, rfl, q3, HB.out⟩
    · have hy0 : y ≠ 0 := fun c => absurd (z2.2 c) (by decide)
      have hn : ¬ (x = 0 ∨ infp y = true) := by
        rw [i2]
        rintro (c | c)
        · exact absurd (z1.2 c) (by decide)
        · exact absurd c (by decide)
      obtain ⟨a1, a2, a3, a4, _⟩ := fq_vr q1
      obtain ⟨b1, b2, b3, b4, _⟩ := fq_vr q2
      obtain ⟨α, v, u1, u2, u3, u4, u5, u6⟩ := exq_one (s := s1) a1 a2
      obtain ⟨β, v', t1, t2, t3, t4, t5, t6⟩ := exq_one (s := s2) b1 b2
      obtain ⟨r', hr'⟩ := sid_ex up (sgi (s1 != s2) ((α : Int) * 2 ^ (E1 - E2 + v - v' + (KK : Int)).toNat)) (show (0 : Int) < (β : Int) by omega)
      have hq := div_side q1 q2 u3 t3 t4 u6 t6 hr'
      have hrr := hr.uniq hq
      rw [← hrr] at hr'
      obtain ⟨V, hV⟩ : ∃ V : Int, (v : Int) = V := ⟨_, rfl⟩
      obtain ⟨V', hV'⟩ : ∃ V : Int, (v' : Int) = V := ⟨_, rfl⟩
      rw [hV] at u2
      rw [hV'] at t2
      rw [hV, hV'] at hr'
      have w1_ : 0 ≤ V ∧ V < 64 ∧ 0 ≤ V' ∧ V' < 64 := by omega
      obtain ⟨e, he⟩ : ∃ e, E1 - E2 + V - V' = e := ⟨_, rfl⟩
      rw [he] at hr'
      have HXA := Lib.hid u1
      have HXB := Lib.hid u2
      have HYA := Lib.hid t1
      have HYB := Lib.hid t2
      have HEA := Lib.hid (exb_one (s := s1) a1)
      have HEB := Lib.hid (exb_one (s := s2) b1)
      have HRR := Lib.hid hr'
      have HW1 : Hid (IntKind.i64.wrap (E1 - E2) = E1 - E2) := Lib.hid (IntWalk.i64_in _ (by omega))
      have HW2 : Hid (IntKind.i64.wrap (E1 - E2 + V) = E1 - E2 + V) := Lib.hid (IntWalk.i64_in _ (by omega))
      have HW3 : Hid (IntKind.i64.wrap (E1 - E2 + V - V') = e) := Lib.hid (by rw [he]; exact IntWalk.i64_in _ (by omega))
      have hb1 : -2200000 ≤ e := by omega
      have hb2 : e ≤ 2200000 := by omega
      have m1 : 0 ≤ M1 := by omega
      have m2 : 0 ≤ M2 := by omega
      clear i1 i2 z1 z2 hr hn hy0 a1 a3 a4 b1 b3 b4 u1 u2 u3 u5 u6 t1 t2 t3 t5 t6 hq hrr hr' he hV hV' w1_ q1 q2
      have xX70 := X7.a 0 (.int .i64 1) rfl
      have xX71 := X7.a 1 (.bool s1) rfl
      have xX72 := X7.a 2 (.int .u64 M1) rfl
      have xX73 := X7.a 3 (.int .i64 E1) rfl
      have xX80 := X8.a 0 (.int .i64 1) rfl
      have xX81 := X8.a 1 (.bool s2) rfl
      have xX82 := X8.a 2 (.int .u64 M2) rfl
      have xX83 := X8.a 3 (.int .i64 E2) rfl
      go_wp2_with fail
      refine (yExact0 m1 a2 HEA.out HXA.out HXB.out).mono ?_
      rintro ee w6 ⟨sa, Aa, na, ca, rfl, pa, ka, B⟩
      clear xX70 xX71 xX72 xX73 xX80 xX81 xX82 xX83
      replace XR := XR.below B
      replace X7 := X7.below B
      replace X8 := X8.below B
      replace HB := Lib.hid (bt HB.out B)
      clear B
      obtain ⟨ra, hsa⟩ := wn_rd pa u4
      subst hsa
      clear pa
      go_upto_region 10 with (fail)
      have lX9 := Nat.le_refl (World.heap w6).size
      have nX9XR := XR.lt
      have nX9X7 := X7.lt
      have nX9X8 := X8.lt
      replace XR := XR.below (bel1 _ (.cells #[.bool sa, .slice Aa na ca, .int .i64 V] 51))
      replace X7 := X7.below (bel1 _ (.cells #[.bool sa, .slice Aa na ca, .int .i64 V] 51))
      replace X8 := X8.below (bel1 _ (.cells #[.bool sa, .slice Aa na ca, .int .i64 V] 51))
      replace ra := ra.below (bel1 _ (.cells #[.bool sa, .slice Aa na ca, .int .i64 V] 51))
      replace HB := Lib.hid (bt HB.out (bel1 _ (.cells #[.bool sa, .slice Aa na ca, .int .i64 V] 51)))
      have X9 := Bo.new w6 #[.bool sa, .slice Aa na ca, .int .i64 V] 51
      generalize hWn : World.alloc w6 (.cells #[.bool sa, .slice Aa na ca, .int .i64 V] 51) = w7 at *
      clear hWn
      have xX70 := X7.a 0 (.int .i64 1) rfl
      have xX71 := X7.a 1 (.bool sa) rfl
      have xX72 := X7.a 2 (.int .u64 M1) rfl
      have xX73 := X7.a 3 (.int .i64 E1) rfl
      have xX80 := X8.a 0 (.int .i64 1) rfl
      have xX81 := X8.a 1 (.bool s2) rfl
      have xX82 := X8.a 2 (.int .u64 M2) rfl
      have xX83 := X8.a 3 (.int .i64 E2) rfl
      go_wp2_with fail
      refine (yExact0 m2 b2 HEB.out HYA.out HYB.out).mono ?_
      rintro ee w8 ⟨sb, Ab, nb, cb, rfl, pb, kb, B⟩
      clear xX70 xX71 xX72 xX73 xX80 xX81 xX82 xX83
      replace XR := XR.below B
      replace X7 := X7.below B
      replace X8 := X8.below B
      replace X9 := X9.below B
      replace ra := ra.below B
      replace HB := Lib.hid (bt HB.out B)
      clear B
      obtain ⟨rb, hsb⟩ := wn_rd pb t4
      subst hsb
      clear pb
      go_upto_region 11 with (fail)
      have lX11 := Nat.le_refl (World.heap w8).size
      have nX11XR := XR.lt
      have nX11X7 := X7.lt
      have nX11X8 := X8.lt
      have nX11X9 := X9.lt
      replace XR := XR.below (bel1 _ (.cells #[.bool sb, .slice Ab nb cb, .int .i64 V'] 51))
      replace X7 := X7.below (bel1 _ (.cells #[.bool sb, .slice Ab nb cb, .int .i64 V'] 51))
      replace X8 := X8.below (bel1 _ (.cells #[.bool sb, .slice Ab nb cb, .int .i64 V'] 51))
      replace X9 := X9.below (bel1 _ (.cells #[.bool sb, .slice Ab nb cb, .int .i64 V'] 51))
      replace ra := ra.below (bel1 _ (.cells #[.bool sb, .slice Ab nb cb, .int .i64 V'] 51))
      replace rb := rb.below (bel1 _ (.cells #[.bool sb, .slice Ab nb cb, .int .i64 V'] 51))
      replace HB := Lib.hid (bt HB.out (bel1 _ (.cells #[.bool sb, .slice Ab nb cb, .int .i64 V'] 51)))
      have X11 := Bo.new w8 #[.bool sb, .slice Ab nb cb, .int .i64 V'] 51
      generalize hWn : World.alloc w8 (.cells #[.bool sb, .slice Ab nb cb, .int .i64 V'] 51) = w9 at *
      clear hWn
      clear lX9 lX11
      have xX70 := X7.a 0 (.int .i64 1) rfl
      have xX71 := X7.a 1 (.bool sa) rfl
      have xX72 := X7.a 2 (.int .u64 M1) rfl
      have xX73 := X7.a 3 (.int .i64 E1) rfl
      have xX80 := X8.a 0 (.int .i64 1) rfl
      have xX81 := X8.a 1 (.bool sb) rfl
      have xX82 := X8.a 2 (.int .u64 M2) rfl
      have xX83 := X8.a 3 (.int .i64 E2) rfl
      have xX90 := X9.a 0 (.bool sa) rfl
      have xX91 := X9.a 1 (.slice Aa na ca) rfl
      have xX92 := X9.a 2 (.int .i64 V) rfl
      have xX110 := X11.a 0 (.bool sb) rfl
      have xX111 := X11.a 1 (.slice Ab nb cb) rfl
      have xX112 := X11.a 2 (.int .i64 V') rfl
      have hw1 := HW1.out
      have hw2 := HW2.out
      have hw3 := HW3.out
      go_wp2_with fail
      refine (jRatio0 ra rb (by omega) (by omega) hb1 hb2 t4 HRR.out).mono ?_
      rintro ee wA ⟨K3, s3, M3, E3, rfl, q3, B⟩
      clear xX70 xX71 xX72 xX73 xX80 xX81 xX82 xX83 xX90 xX91 xX92 xX110 xX111 xX112
      replace XR := XR.below B
      replace X7 := X7.below B
      replace X8 := X8.below B
      replace X9 := X9.below B
      replace X11 := X11.below B
      replace ra := ra.below B
      replace rb := rb.below B
      replace HB := Lib.hid (bt HB.out B)
      clear B
      clear hw1 hw2 hw3
      have xXR0 := XR.a 0 (.int .i64 0) rfl
      have zXR0 := XR.frozen 0
      have xXR1 := XR.a 1 (.bool false) rfl
      have zXR1 := XR.frozen 1
      have xXR2 := XR.a 2 (.int .u64 0) rfl
      have zXR2 := XR.frozen 2
      have xXR3 := XR.a 3 (.int .i64 0) rfl
      have zXR3 := XR.frozen 3
      go_wp2
      clear xXR0 zXR0 xXR1 zXR1 xXR2 zXR2 xXR3 zXR3
      have SX := StN.mk4 XR (.int .i64 K3) (.bool s3) (.int .u64 M3) (.int .i64 E3)
      replace X7 := X7.stn SX (by omega)
      replace X8 := X8.stn SX (by omega)
      replace X9 := X9.stn SX (by omega)
      replace X11 := X11.stn SX (by omega)
      replace HB := Lib.hid (SX.below HB.out (by omega))
      replace XR := SX.box
      clear SX
      generalize (World.setCell (World.setCell (World.setCell (World.setCell wA ⟨w.heap.size + 1 + 1, 0, none⟩ (.int .i64 K3)) ⟨w.heap.size + 1 + 1, 1, none⟩ (.bool s3)) ⟨w.heap.size + 1 + 1, 2, none⟩ (.int .u64 M3)) ⟨w.heap.size + 1 + 1, 3, none⟩ (.int .i64 E3)) = wB at *
      have r0 := XR.cell 0
      have r1 := XR.cell 1
      have r2 := XR.cell 2
      have r3 := XR.cell 3
      exact bodyPost_ret (v := .agg #[.int .i64 K3, .bool s3, .int .u64 M3, .int .i64 E3]) (by simp [results, Tryz.results8, go_sem, r0, r1, r2, r3]) rfl ⟨_, _, _, _, rfl, q3, HB.out⟩
end Go.Proofs.YtpmakljahhhnfaaGreatDoor

/-
  What the document's Root of layer 7 does.
-/
namespace Go.Proofs.YtpmakljahhhnfaaGreatDoor
open Go.RowKit
set_option linter.unusedVariables false
set_option linter.unusedSimpArgs false
set_option maxRecDepth 100000

/-- The root's place, and whether there is one. -/
def Ro (up : Bool) (x r : Int) (t : Bool) : Prop := if x < 0 then r = 0 ∧ t = false else if x = 0 ∨ infp x = true then r = x ∧ t = true else Rt up (vr x * 2 ^ KK) r ∧ t = true
theorem ro_neg {up : Bool} {x r : Int} {t : Bool} (h : x < 0) : Ro up x r t ↔ (r = 0 ∧ t = false) := by
  unfold Ro
  rw [if_pos h]
theorem ro_it {up : Bool} {x r : Int} {t : Bool} (h : ¬ x < 0) (h2 : x = 0 ∨ infp x = true) : Ro up x r t ↔ (r = x ∧ t = true) := by
  unfold Ro
  rw [if_neg h, if_pos h2]
theorem ro_fin {up : Bool} {x r : Int} {t : Bool} (h : ¬ x < 0) (h2 : ¬ (x = 0 ∨ infp x = true)) : Ro up x r t ↔ (Rt up (vr x * 2 ^ KK) r ∧ t = true) := by
  unfold Ro
  rw [if_neg h, if_neg h2]
theorem tmod_two (e : Int) : Int.tmod e 2 = 0 ↔ e % 2 = 0 := by
  rw [← Int.dvd_iff_tmod_eq_zero, Int.dvd_iff_emod_eq_zero]
theorem stk_le {s d : Nat} {X k : Nat} (h : s * s + d = X) (hX : X < 2 ^ k) : stk s d < 2 ^ (k + 2) := by
  have h1 : s ≤ X := by
    rcases Nat.eq_zero_or_pos s with e | e
    · omega
    · have := Nat.le_mul_of_pos_right s e
      omega
  have h2 : stk s d ≤ 2 * s + 1 := by
    unfold stk
    split <;> omega
  have h3 : 2 ^ (k + 2) = 2 ^ k * 4 := by rw [Nat.pow_add]
  omega
theorem rt_big {α n : Nat} (h : 0 < α) (hn : 140 ≤ n) : 9223372036854775808 ≤ rt (α * 2 ^ n) := by
  rcases Nat.lt_or_ge (rt (α * 2 ^ n)) 9223372036854775808 with c | c
  · exfalso
    have h1 := (rt_spec (α * 2 ^ n)).2
    have h2 : (rt (α * 2 ^ n) + 1) * (rt (α * 2 ^ n) + 1) ≤ 2 ^ 63 * 2 ^ 63 := Nat.mul_le_mul (by omega) (by omega)
    have h3 : 1 * 2 ^ 140 ≤ α * 2 ^ n := Nat.mul_le_mul h (Nat.pow_le_pow_right (by decide) hn)
    omega
  · exact c
set_option maxHeartbeats 8000000 in
theorem jRoot {w : World} {D M E : Int} {s : Bool} {up t : Bool} {x r : Int} (hM : M < 18446744073709551616) (hx : rk D s M E = x) (hr : Ro up x r t) : Calls Tryz.prog 11 #[.agg #[.int .i64 D, .bool s, .int .u64 M, .int .i64 E], .bool up] w (PNB w r t) := by
  have HX := Lib.hid hx
  clear hx
  go_enter Tryz.func11, Tryz.ntmps11
  go_upto_region 1 with (fail)
  have X2 := (Bo.newAt w (g := w.heap.size) (by simp) #[.int .i64 D, .bool s, .int .u64 M, .int .i64 E] 24).below (bel1 _ (.cells #[.int .i64 0, .bool false, .int .u64 0, .int .i64 0] 24))
  have XR := (Bo.newAt (w.alloc (.cells #[.int .i64 D, .bool s, .int .u64 M, .int .i64 E] 24)) (g := w.heap.size + 1) (by simp) #[.int .i64 0, .bool false, .int .u64 0, .int .i64 0] 24)
  have HB := Lib.hid (bel2 w (.cells #[.int .i64 D, .bool s, .int .u64 M, .int .i64 E] 24) (.cells #[.int .i64 0, .bool false, .int .u64 0, .int .i64 0] 24))
  generalize hW1 : ((w.alloc (.cells #[.int .i64 D, .bool s, .int .u64 M, .int .i64 E] 24)).alloc (.cells #[.int .i64 0, .bool false, .int .u64 0, .int .i64 0] 24)) = w1 at *
  clear hW1
  have xX20 := X2.a 0 (.int .i64 D) rfl
  have xX21 := X2.a 1 (.bool s) rfl
  have xX22 := X2.a 2 (.int .u64 M) rfl
  have xX23 := X2.a 3 (.int .i64 E) rfl
  go_wp2_with fail
  refine (gFair hM HX.out).mono ?_
  rintro ee w2 ⟨K1, s1, M1, E1, rfl, q1, B⟩
  clear xX20 xX21 xX22 xX23
  replace X2 := X2.below B
  replace XR := XR.below B
  replace HB := Lib.hid (bt HB.out B)
  clear B
  go_upto_region 2 with (fail)
  have lX6 := Nat.le_refl (World.heap w2).size
  have nX6X2 := X2.lt
  have nX6XR := XR.lt
  replace X2 := X2.below (bel1 _ (.cells #[.int .i64 K1, .bool s1, .int .u64 M1, .int .i64 E1] 24))
  replace XR := XR.below (bel1 _ (.cells #[.int .i64 K1, .bool s1, .int .u64 M1, .int .i64 E1] 24))
  replace HB := Lib.hid (bt HB.out (bel1 _ (.cells #[.int .i64 K1, .bool s1, .int .u64 M1, .int .i64 E1] 24)))
  have X6 := Bo.new w2 #[.int .i64 K1, .bool s1, .int .u64 M1, .int .i64 E1] 24
  generalize hWn : World.alloc w2 (.cells #[.int .i64 K1, .bool s1, .int .u64 M1, .int .i64 E1] 24) = w3 at *
  clear hWn
  clear lX6 HX hM
  have i1 := fq_inf q1
  have z1 := q1.zero_iff
  have kk1 : K1 = 2 ∨ K1 = 0 ∨ K1 = 1 := by rcases q1.cases with ⟨h, _⟩ | ⟨h, _⟩ | ⟨h, _⟩ <;> omega
  have hsx : K1 ≠ 0 → decide (x < 0) = s1 := fun h0 => by
    rcases q1.three with ⟨a, _⟩ | ⟨_, rfl, b⟩ | ⟨_, rfl, b⟩
    · exact absurd a h0
    · exact decide_eq_false (by omega)
    · exact decide_eq_true b
  rcases kk1 with rfl | rfl | rfl
  · by_cases hs : s1 = true
    · subst hs
      have hx0 : x < 0 := of_decide_eq_true (hsx (by decide))
      obtain ⟨rfl, rfl⟩ := (ro_neg hx0).1 hr
      clear hr hx0 i1 z1 hsx q1
      have xXR0 := XR.a 0 (.int .i64 0) rfl
      have zXR0 := XR.frozen 0
      have xXR1 := XR.a 1 (.bool false) rfl
      have zXR1 := XR.frozen 1
      have xXR2 := XR.a 2 (.int .u64 0) rfl
      have zXR2 := XR.frozen 2
      have xXR3 := XR.a 3 (.int .i64 0) rfl
      have zXR3 := XR.frozen 3
      have xX60 := X6.a 0 (.int .i64 2) rfl
      have xX61 := X6.a 1 (.bool true) rfl
      have xX62 := X6.a 2 (.int .u64 M1) rfl
      have xX63 := X6.a 3 (.int .i64 E1) rfl
      go_wp2
      clear xXR0 zXR0 xXR1 zXR1 xXR2 zXR2 xXR3 zXR3 xX60 xX61 xX62 xX63
      have SX := StN.mk4 XR (.int .i64 0) (.bool false) (.int .u64 0) (.int .i64 0)
      replace X6 := X6.stn SX (by omega)
      replace HB := Lib.hid (SX.below HB.out (by omega))
      replace XR := SX.box
      clear SX
      generalize (World.setCell (World.setCell (World.setCell (World.setCell w3 ⟨w.heap.size + 1, 0, none⟩ (.int .i64 0)) ⟨w.heap.size + 1, 1, none⟩ (.bool false)) ⟨w.heap.size + 1, 2, none⟩ (.int .u64 0)) ⟨w.heap.size + 1, 3, none⟩ (.int .i64 0)) = w4 at *
      have r0 := XR.cell 0
      have r1 := XR.cell 1
      have r2 := XR.cell 2
      have r3 := XR.cell 3
      exact bodyPost_ret (v := .tuple #[.agg #[.int .i64 0, .bool false, .int .u64 0, .int .i64 0], .bool false]) (by simp [results, Tryz.results11, go_sem, r0, r1, r2, r3]) rfl ⟨_, _, _, _, rfl, Fq.nought, HB.out⟩
    · have hs : s1 = false := by simpa using hs
      subst hs
      have hx0 : ¬ x < 0 := of_decide_eq_false (hsx (by decide))
      have hx1 : x = 0 ∨ infp x = true := .inr i1
      obtain ⟨rfl, rfl⟩ := (ro_it hx0 hx1).1 hr
      clear hr hx0 hx1 i1 z1 hsx
      have xXR0 := XR.a 0 (.int .i64 0) rfl
      have zXR0 := XR.frozen 0
      have xXR1 := XR.a 1 (.bool false) rfl
      have zXR1 := XR.frozen 1
      have xXR2 := XR.a 2 (.int .u64 0) rfl
      have zXR2 := XR.frozen 2
      have xXR3 := XR.a 3 (.int .i64 0) rfl
      have zXR3 := XR.frozen 3
      have xX60 := X6.a 0 (.int .i64 2) rfl
      have xX61 := X6.a 1 (.bool false) rfl
      have xX62 := X6.a 2 (.int .u64 M1) rfl
      have xX63 := X6.a 3 (.int .i64 E1) rfl
      go_wp2
      clear xXR0 zXR0 xXR1 zXR1 xXR2 zXR2 xXR3 zXR3 xX60 xX61 xX62 xX63
      have SX := StN.mk4 XR (.int .i64 2) (.bool false) (.int .u64 M1) (.int .i64 E1)
      replace X6 := X6.stn SX (by omega)
      replace HB := Lib.hid (SX.below HB.out (by omega))
      replace XR := SX.box
      clear SX
      generalize (World.setCell (World.setCell (World.setCell (World.setCell w3 ⟨w.heap.size + 1, 0, none⟩ (.int .i64 2)) ⟨w.heap.size + 1, 1, none⟩ (.bool false)) ⟨w.heap.size + 1, 2, none⟩ (.int .u64 M1)) ⟨w.heap.size + 1, 3, none⟩ (.int .i64 E1)) = w4 at *
      have r0 := XR.cell 0
      have r1 := XR.cell 1
      have r2 := XR.cell 2
      have r3 := XR.cell 3
      exact bodyPost_ret (v := .tuple #[.agg #[.int .i64 2, .bool false, .int .u64 M1, .int .i64 E1], .bool true]) (by simp [results, Tryz.results11, go_sem, r0, r1, r2, r3]) rfl ⟨_, _, _, _, rfl, q1, HB.out⟩
  · have hx0 : ¬ x < 0 := by have := z1.1 rfl; omega
    have hx1 : x = 0 ∨ infp x = true := .inl (z1.1 rfl)
    obtain ⟨rfl, rfl⟩ := (ro_it hx0 hx1).1 hr
    clear hr hx0 hx1 i1 z1 hsx
    have xXR0 := XR.a 0 (.int .i64 0) rfl
    have zXR0 := XR.frozen 0
    have xXR1 := XR.a 1 (.bool false) rfl
    have zXR1 := XR.frozen 1
    have xXR2 := XR.a 2 (.int .u64 0) rfl
    have zXR2 := XR.frozen 2
    have xXR3 := XR.a 3 (.int .i64 0) rfl
    have zXR3 := XR.frozen 3
    have xX60 := X6.a 0 (.int .i64 0) rfl
    have xX61 := X6.a 1 (.bool s1) rfl
    have xX62 := X6.a 2 (.int .u64 M1) rfl
    have xX63 := X6.a 3 (.int .i64 E1) rfl
    go_wp2
    clear xXR0 zXR0 xXR1 zXR1 xXR2 zXR2 xXR3 zXR3 xX60 xX61 xX62 xX63
    have SX := StN.mk4 XR (.int .i64 0) (.bool s1) (.int .u64 M1) (.int .i64 E1)
    replace X6 := X6.stn SX (by omega)
    replace HB := Lib.hid (SX.below HB.out (by omega))
    replace XR := SX.box
    clear SX
    generalize (World.setCell (World.setCell (World.setCell (World.setCell w3 ⟨w.heap.size + 1, 0, none⟩ (.int .i64 0)) ⟨w.heap.size + 1, 1, none⟩ (.bool s1)) ⟨w.heap.size + 1, 2, none⟩ (.int .u64 M1)) ⟨w.heap.size + 1, 3, none⟩ (.int .i64 E1)) = w4 at *
    have r0 := XR.cell 0
    have r1 := XR.cell 1
    have r2 := XR.cell 2
    have r3 := XR.cell 3
    exact bodyPost_ret (v := .tuple #[.agg #[.int .i64 0, .bool s1, .int .u64 M1, .int .i64 E1], .bool true]) (by simp [results, Tryz.results11, go_sem, r0, r1, r2, r3]) rfl ⟨_, _, _, _, rfl, q1, HB.out⟩
  · by_cases hs : s1 = true
    · subst hs
      have hx0 : x < 0 := of_decide_eq_true (hsx (by decide))
      obtain ⟨rfl, rfl⟩ := (ro_neg hx0).1 hr
      clear hr hx0 i1 z1 hsx q1
      have xXR0 := XR.a 0 (.int .i64 0) rfl
      have zXR0 := XR.frozen 0
      have xXR1 := XR.a 1 (.bool false) rfl
      have zXR1 := XR.frozen 1
      have xXR2 := XR.a 2 (.int .u64 0) rfl
      have zXR2 := XR.frozen 2
      have xXR3 := XR.a 3 (.int .i64 0) rfl
      have zXR3 := XR.frozen 3
      have xX60 := X6.a 0 (.int .i64 1) rfl
      have xX61 := X6.a 1 (.bool true) rfl
      have xX62 := X6.a 2 (.int .u64 M1) rfl
      have xX63 := X6.a 3 (.int .i64 E1) rfl
      go_wp2
      clear xXR0 zXR0 xXR1 zXR1 xXR2 zXR2 xXR3 zXR3 xX60 xX61 xX62 xX63
      have SX := StN.mk4 XR (.int .i64 0) (.bool false) (.int .u64 0) (.int .i64 0)
      replace X6 := X6.stn SX (by omega)
      replace HB := Lib.hid (SX.below HB.out (by omega))
      replace XR := SX.box
      clear SX
      generalize (World.setCell (World.setCell (World.setCell (World.setCell w3 ⟨w.heap.size + 1, 0, none⟩ (.int .i64 0)) ⟨w.heap.size + 1, 1, none⟩ (.bool false)) ⟨w.heap.size + 1, 2, none⟩ (.int .u64 0)) ⟨w.heap.size + 1, 3, none⟩ (.int .i64 0)) = w4 at *
      have r0 := XR.cell 0
      have r1 := XR.cell 1
      have r2 := XR.cell 2
      have r3 := XR.cell 3
      exact bodyPost_ret (v := .tuple #[.agg #[.int .i64 0, .bool false, .int .u64 0, .int .i64 0], .bool false]) (by simp [results, Tryz.results11, go_sem, r0, r1, r2, r3]) rfl ⟨_, _, _, _, rfl, Fq.nought, HB.out⟩
    · have hs : s1 = false := by simpa using hs
      subst hs
      have hx0 : ¬ x < 0 := of_decide_eq_false (hsx (by decide))
      have hx1 : ¬ (x = 0 ∨ infp x = true) := by
        rw [i1]
        rintro (c | c)
        · exact absurd (z1.2 c) (by decide)
        · exact absurd c (by decide)
      obtain ⟨hr2, ht⟩ := (ro_fin hx0 hx1).1 hr
      subst ht
      obtain ⟨a1, a2, a3, a4, _⟩ := fq_vr q1
      obtain ⟨α, v, u1, u2, u3, u4, u5, u6⟩ := exq_one (s := false) a1 a2
      rw [wsg_f] at u1
      obtain ⟨V, hV⟩ : ∃ V : Int, (v : Int) = V := ⟨_, rfl⟩
      rw [hV] at u2
      have w1_ : 0 ≤ V ∧ V < 64 := by omega
      obtain ⟨e, he⟩ : ∃ e, V + E1 = e := ⟨_, rfl⟩
      have HXA := Lib.hid u1
      have HXB := Lib.hid u2
      have HEA := Lib.hid (exb_one (s := false) a1)
      have HW1 : Hid (IntKind.i64.wrap (V + E1) = e) := Lib.hid (by rw [he]; exact IntWalk.i64_in _ (by omega))
      have m1 : 0 ≤ M1 := by omega
      have eb : -1100000 ≤ e ∧ e ≤ 1100000 := by omega
      have key : ∀ n : Nat, (n = 140 ∨ n = 141) → ∀ f : Int, 2 * f = e - n → ∀ S d : Nat, rt (α * 2 ^ n) = S → S * S + d = α * 2 ^ n → rnd up (mk ((stk S d : Nat) : Int) (f - 1)).1 (mk ((stk S d : Nat) : Int) (f - 1)).2 = r := by
        intro n hn f hf S d hS hd
        obtain ⟨κ, hκ⟩ : ∃ κ : Nat, κ = 500000 := ⟨_, rfl⟩
        have hsp := rt_spec (α * 2 ^ n)
        rw [hS] at hsp
        have hX : α * 2 ^ n < 2 ^ 205 := by
          have l1 : α * 2 ^ n < 2 ^ 64 * 2 ^ n := Nat.mul_lt_mul_of_pos_right u5 (Nat.pow_pos (by decide))
          rw [← Nat.pow_add] at l1
          exact Nat.lt_of_lt_of_le l1 (Nat.pow_le_pow_right (by decide) (by omega))
        have hst := Nat.lt_of_lt_of_le (stk_le hd hX) (Nat.pow_le_pow_right (show 0 < 2 by decide) (show 205 + 2 ≤ κ by omega))
        have hb : 9223372036854775808 ≤ S := by rw [← hS]; exact rt_big u4 (by omega)
        have hside := root_side (N := α) (e := e) up hd hsp.2 hb hf hκ hst (by omega) (by omega) (by omega) (by omega)
        have hfin := root_fin (up := up) q1 u3 u6 (by rw [show E1 + (v : Int) + 2 * (KK : Int) = e + 2 * (KK : Int) by omega]; exact hside)
        exact hfin.uniq hr2
      have HKEY := Lib.hid key
      clear key hr hr2 hx0 hx1 i1 z1 hsx a1 a3 a4 u1 u2 u3 u5 u6 hV w1_ he q1
      have xX60 := X6.a 0 (.int .i64 1) rfl
      have xX61 := X6.a 1 (.bool false) rfl
      have xX62 := X6.a 2 (.int .u64 M1) rfl
      have xX63 := X6.a 3 (.int .i64 E1) rfl
      go_wp2_with fail
      refine (yExact0 m1 a2 HEA.out HXA.out HXB.out).mono ?_
      rintro ee w4 ⟨sa, Aa, na, ca, rfl, pa, ka, B⟩
      clear xX60 xX61 xX62 xX63
      replace XR := XR.below B
      replace X6 := X6.below B
      replace HB := Lib.hid (bt HB.out B)
      clear B
      obtain ⟨ra, hsa⟩ := wn_rd (s := false) (by rw [wsg_f]; exact pa) u4
      subst hsa
      clear pa
      go_upto_region 7 with (fail)
      have lX7 := Nat.le_refl (World.heap w4).size
      have nX7XR := XR.lt
      have nX7X6 := X6.lt
      replace XR := XR.below (bel1 _ (.cells #[.bool false, .slice Aa na ca, .int .i64 V] 51))
      replace X6 := X6.below (bel1 _ (.cells #[.bool false, .slice Aa na ca, .int .i64 V] 51))
      replace ra := ra.below (bel1 _ (.cells #[.bool false, .slice Aa na ca, .int .i64 V] 51))
      replace HB := Lib.hid (bt HB.out (bel1 _ (.cells #[.bool false, .slice Aa na ca, .int .i64 V] 51)))
      have X7 := Bo.new w4 #[.bool false, .slice Aa na ca, .int .i64 V] 51
      generalize hWn : World.alloc w4 (.cells #[.bool false, .slice Aa na ca, .int .i64 V] 51) = w5 at *
      clear hWn
      clear lX7
      have xX60 := X6.a 0 (.int .i64 1) rfl
      have xX61 := X6.a 1 (.bool false) rfl
      have xX62 := X6.a 2 (.int .u64 M1) rfl
      have xX63 := X6.a 3 (.int .i64 E1) rfl
      have xX70 := X7.a 0 (.bool false) rfl
      have xX71 := X7.a 1 (.slice Aa na ca) rfl
      have xX72 := X7.a 2 (.int .i64 V) rfl
      have hw1 := HW1.out
      go_upto_region 9 with (fail)
      clear hw1
      clear xX60 xX61 xX62 xX63 xX70 xX71 xX72
      by_cases hpar : e % 2 = 0
      · obtain ⟨f, hf⟩ : ∃ f : Int, 2 * f = e - 140 := ⟨(e - 140) / 2, by omega⟩
        obtain ⟨S, hS⟩ : ∃ S, rt (α * 2 ^ 140) = S := ⟨_, rfl⟩
        obtain ⟨d, hd⟩ : ∃ d, S * S + d = α * 2 ^ 140 := ⟨α * 2 ^ 140 - S * S, by have := (rt_spec (α * 2 ^ 140)).1; rw [hS] at this; omega⟩
        have hk := HKEY.out 140 (by decide) f (by omega) S d hS hd
        obtain ⟨T, hT⟩ : ∃ T, stk S d = T := ⟨_, rfl⟩
        rw [hT] at hk
        obtain ⟨P, hP⟩ : ∃ P, mk (T : Int) (f - 1) = P := ⟨_, rfl⟩
        rw [hP] at hk
        have hPn : mk P.1 P.2 = P := by rw [← hP]; exact mk_nf _ _
        have HRR := Lib.hid (show rnd up (mk P.1 P.2).1 (mk P.1 P.2).2 = r by rw [hPn]; exact hk)
        have HP1 : Hid ((mk (sg false T) (f - 1)).1 = P.1) := Lib.hid (by rw [sg_false, hP])
        have HP2 : Hid ((mk (sg false T) (f - 1)).2 = P.2) := Lib.hid (by rw [sg_false, hP])
        obtain ⟨X, hX⟩ : ∃ X, α * 2 ^ 140 = X := ⟨_, rfl⟩
        rw [hX] at hS hd
        have HX2 : Hid (α * 2 ^ (140 : Int).toNat = X) := Lib.hid hX
        have HS := Lib.hid hS
        obtain ⟨b, hb⟩ : ∃ b, decide (S * S = X) = b := ⟨_, rfl⟩
        have HBB := Lib.hid hb
        have HCT : Hid (decide (d ≠ 0) = !b) := Lib.hid (by
          rw [← hb]
          by_cases c : d = 0
          · rw [decide_eq_true (show S * S = X by omega), c]
            rfl
          · rw [decide_eq_false (show ¬ S * S = X by omega), decide_eq_true c]
            rfl)
        have HT2 := Lib.hid hT
        have hrem : Int.tmod e 2 = 0 := by exact (tmod_two e).2 hpar
        have hrem2 : (Int.tmod e 2 == 0) = true := by
          rw [hrem]
          rfl
        have HW2 : Hid (IntKind.i64.wrap (e - 140) = e - 140) := Lib.hid (IntWalk.i64_in _ (by omega))
        have HQ : Hid (Int.tdiv (e - 140) 2 = f) := Lib.hid (by rw [← hf]; exact Int.mul_tdiv_cancel_left _ (by decide))
        have HW3 : Hid (IntKind.i64.wrap (f - 1) = f - 1) := Lib.hid (IntWalk.i64_in _ (by omega))
        have HW4 : Hid (IntKind.i64.wrap f = f) := Lib.hid (IntWalk.i64_in _ (by omega))
        clear HKEY hk hP hPn hX hS hd hb hT hf
        have xX60 := X6.a 0 (.int .i64 1) rfl
        have xX61 := X6.a 1 (.bool false) rfl
        have xX62 := X6.a 2 (.int .u64 M1) rfl
        have xX63 := X6.a 3 (.int .i64 E1) rfl
        have xX70 := X7.a 0 (.bool false) rfl
        have xX71 := X7.a 1 (.slice Aa na ca) rfl
        have xX72 := X7.a 2 (.int .i64 V) rfl
        go_upto_region 11 with (fail)
        go_wp2_with fail
        refine (rShlN (z := 140) ra (by omega) (by decide) (by decide) HX2.out).mono ?_
        rintro ee w6 ⟨A3, n3, c3, rfl, p3, k3, B⟩
        clear xX60 xX61 xX62 xX63 xX70 xX71 xX72
        replace XR := XR.below B
        replace X6 := X6.below B
        replace X7 := X7.below B
        replace ra := ra.below B
        replace HB := Lib.hid (bt HB.out B)
        clear B
        clear ra
        have hn3 : n3 ≤ 100 := by
          have : (140 : Int).toNat / 32 = 4 := rfl
          omega
        go_wp2_with fail
        refine (rRoot p3.rd (by omega) HS.out HBB.out).mono ?_
        rintro ee w7 ⟨A4, n4, c4, rfl, p4, k4, B⟩
        replace XR := XR.below B
        replace X6 := X6.below B
        replace X7 := X7.below B
        replace p3 := p3.below B
        replace HB := Lib.hid (bt HB.out B)
        clear B
        clear p3
        go_wp2_with fail
        refine (jSticky (d := d) (cut := !b) p4.rd (by omega) HCT.out HT2.out).mono ?_
        rintro ee w8 ⟨A5, n5, c5, rfl, p5, k5, B⟩
        replace XR := XR.below B
        replace X6 := X6.below B
        replace X7 := X7.below B
        replace p4 := p4.below B
        replace HB := Lib.hid (bt HB.out B)
        clear B
        clear p4
        go_wp2_with fail
        refine (qMake false p5.rd).mono ?_
        rintro ee w9 ⟨s6, A6, n6, c6, rfl, p6, k6, B⟩
        replace XR := XR.below B
        replace X6 := X6.below B
        replace X7 := X7.below B
        replace p5 := p5.below B
        replace HB := Lib.hid (bt HB.out B)
        clear B
        clear p5
        have hw2 := HW2.out
        have hq := HQ.out
        have hw3 := HW3.out
        have hw4 := HW4.out
        go_wp2_with fail
        refine (q3Make p6.wr (by omega) HP1.out HP2.out).mono ?_
        rintro ee wA ⟨s8, A8, n8, c8, rfl, p8, k8, B⟩
        replace XR := XR.below B
        replace X6 := X6.below B
        replace X7 := X7.below B
        replace p6 := p6.below B
        replace HB := Lib.hid (bt HB.out B)
        clear B
        clear p6 hw2 hq hw3 hw4
        go_wp2_with fail
        refine (yRound p8.wr (by omega) rfl rfl HRR.out).mono ?_
        rintro ee wB ⟨K9, s9, M9, E9, rfl, q9, B⟩
        replace XR := XR.below B
        replace X6 := X6.below B
        replace X7 := X7.below B
        replace p8 := p8.below B
        replace HB := Lib.hid (bt HB.out B)
        clear B
        have xXR0 := XR.a 0 (.int .i64 0) rfl
        have zXR0 := XR.frozen 0
        have xXR1 := XR.a 1 (.bool false) rfl
        have zXR1 := XR.frozen 1
        have xXR2 := XR.a 2 (.int .u64 0) rfl
        have zXR2 := XR.frozen 2
        have xXR3 := XR.a 3 (.int .i64 0) rfl
        have zXR3 := XR.frozen 3
        go_wp2
        clear xXR0 zXR0 xXR1 zXR1 xXR2 zXR2 xXR3 zXR3
        have SX := StN.mk4 XR (.int .i64 K9) (.bool s9) (.int .u64 M9) (.int .i64 E9)
        replace X6 := X6.stn SX (by omega)
        replace X7 := X7.stn SX (by omega)
        replace HB := Lib.hid (SX.below HB.out (by omega))
        replace XR := SX.box
        clear SX
        generalize (World.setCell (World.setCell (World.setCell (World.setCell wB ⟨w.heap.size + 1, 0, none⟩ (.int .i64 K9)) ⟨w.heap.size + 1, 1, none⟩ (.bool s9)) ⟨w.heap.size + 1, 2, none⟩ (.int .u64 M9)) ⟨w.heap.size + 1, 3, none⟩ (.int .i64 E9)) = wC at *
        have r0 := XR.cell 0
        have r1 := XR.cell 1
        have r2 := XR.cell 2
        have r3 := XR.cell 3
        exact bodyPost_ret (v := .tuple #[.agg #[.int .i64 K9, .bool s9, .int .u64 M9, .int .i64 E9], .bool true]) (by simp [results, Tryz.results11, go_sem, r0, r1, r2, r3]) rfl ⟨_, _, _, _, rfl, q9, HB.out⟩
      · obtain ⟨f, hf⟩ : ∃ f : Int, 2 * f = e - 141 := ⟨(e - 141) / 2, by omega⟩
        obtain ⟨S, hS⟩ : ∃ S, rt (α * 2 ^ 141) = S := ⟨_, rfl⟩
        obtain ⟨d, hd⟩ : ∃ d, S * S + d = α * 2 ^ 141 := ⟨α * 2 ^ 141 - S * S, by have := (rt_spec (α * 2 ^ 141)).1; rw [hS] at this; omega⟩
        have hk := HKEY.out 141 (by decide) f (by omega) S d hS hd
        obtain ⟨T, hT⟩ : ∃ T, stk S d = T := ⟨_, rfl⟩
        rw [hT] at hk
        obtain ⟨P, hP⟩ : ∃ P, mk (T : Int) (f - 1) = P := ⟨_, rfl⟩
        rw [hP] at hk
        have hPn : mk P.1 P.2 = P := by rw [← hP]; exact mk_nf _ _
        have HRR := Lib.hid (show rnd up (mk P.1 P.2).1 (mk P.1 P.2).2 = r by rw [hPn]; exact hk)
        have HP1 : Hid ((mk (sg false T) (f - 1)).1 = P.1) := Lib.hid (by rw [sg_false, hP])
        have HP2 : Hid ((mk (sg false T) (f - 1)).2 = P.2) := Lib.hid (by rw [sg_false, hP])
        obtain ⟨X, hX⟩ : ∃ X, α * 2 ^ 141 = X := ⟨_, rfl⟩
        rw [hX] at hS hd
        have HX2 : Hid (α * 2 ^ (141 : Int).toNat = X) := Lib.hid hX
        have HS := Lib.hid hS
        obtain ⟨b, hb⟩ : ∃ b, decide (S * S = X) = b := ⟨_, rfl⟩
        have HBB := Lib.hid hb
        have HCT : Hid (decide (d ≠ 0) = !b) := Lib.hid (by
          rw [← hb]
          by_cases c : d = 0
          · rw [decide_eq_true (show S * S = X by omega), c]
            rfl
          · rw [decide_eq_false (show ¬ S * S = X by omega), decide_eq_true c]
            rfl)
        have HT2 := Lib.hid hT
        have hrem : Int.tmod e 2 = Int.tmod e 2 := by rfl
        have hrem2 : (Int.tmod e 2 == 0) = false := by
          have : Int.tmod e 2 ≠ 0 := fun c => hpar ((tmod_two e).1 c)
          simpa using this
        have HW2 : Hid (IntKind.i64.wrap (e - 141) = e - 141) := Lib.hid (IntWalk.i64_in _ (by omega))
        have HQ : Hid (Int.tdiv (e - 141) 2 = f) := Lib.hid (by rw [← hf]; exact Int.mul_tdiv_cancel_left _ (by decide))
        have HW3 : Hid (IntKind.i64.wrap (f - 1) = f - 1) := Lib.hid (IntWalk.i64_in _ (by omega))
        have HW4 : Hid (IntKind.i64.wrap f = f) := Lib.hid (IntWalk.i64_in _ (by omega))
        clear HKEY hk hP hPn hX hS hd hb hT hf hrem
        have xX60 := X6.a 0 (.int .i64 1) rfl
        have xX61 := X6.a 1 (.bool false) rfl
        have xX62 := X6.a 2 (.int .u64 M1) rfl
        have xX63 := X6.a 3 (.int .i64 E1) rfl
        have xX70 := X7.a 0 (.bool false) rfl
        have xX71 := X7.a 1 (.slice Aa na ca) rfl
        have xX72 := X7.a 2 (.int .i64 V) rfl
        go_upto_region 11 with (fail)
        go_wp2_with fail
        refine (rShlN (z := 141) ra (by omega) (by decide) (by decide) HX2.out).mono ?_
        rintro ee w6 ⟨A3, n3, c3, rfl, p3, k3, B⟩
        clear xX60 xX61 xX62 xX63 xX70 xX71 xX72
        replace XR := XR.below B
        replace X6 := X6.below B
        replace X7 := X7.below B
        replace ra := ra.below B
        replace HB := Lib.hid (bt HB.out B)
        clear B
        clear ra
        have hn3 : n3 ≤ 100 := by
          have : (141 : Int).toNat / 32 = 4 := rfl
          omega
        go_wp2_with fail
        refine (rRoot p3.rd (by omega) HS.out HBB.out).mono ?_
        rintro ee w7 ⟨A4, n4, c4, rfl, p4, k4, B⟩
        replace XR := XR.below B
        replace X6 := X6.below B
        replace X7 := X7.below B
        replace p3 := p3.below B
        replace HB := Lib.hid (bt HB.out B)
        clear B
        clear p3
        go_wp2_with fail
        refine (jSticky (d := d) (cut := !b) p4.rd (by omega) HCT.out HT2.out).mono ?_
        rintro ee w8 ⟨A5, n5, c5, rfl, p5, k5, B⟩
        replace XR := XR.below B
        replace X6 := X6.below B
        replace X7 := X7.below B
        replace p4 := p4.below B
        replace HB := Lib.hid (bt HB.out B)
        clear B
        clear p4
        go_wp2_with fail
        refine (qMake false p5.rd).mono ?_
        rintro ee w9 ⟨s6, A6, n6, c6, rfl, p6, k6, B⟩
        replace XR := XR.below B
        replace X6 := X6.below B
        replace X7 := X7.below B
        replace p5 := p5.below B
        replace HB := Lib.hid (bt HB.out B)
        clear B
        clear p5
        have hw2 := HW2.out
        have hq := HQ.out
        have hw3 := HW3.out
        have hw4 := HW4.out
        go_wp2_with fail
        refine (q3Make p6.wr (by omega) HP1.out HP2.out).mono ?_
        rintro ee wA ⟨s8, A8, n8, c8, rfl, p8, k8, B⟩
        replace XR := XR.below B
        replace X6 := X6.below B
        replace X7 := X7.below B
        replace p6 := p6.below B
        replace HB := Lib.hid (bt HB.out B)
        clear B
        clear p6 hw2 hq hw3 hw4
        go_wp2_with fail
        refine (yRound p8.wr (by omega) rfl rfl HRR.out).mono ?_
        rintro ee wB ⟨K9, s9, M9, E9, rfl, q9, B⟩
        replace XR := XR.below B
        replace X6 := X6.below B
        replace X7 := X7.below B
        replace p8 := p8.below B
        replace HB := Lib.hid (bt HB.out B)
        clear B
        have xXR0 := XR.a 0 (.int .i64 0) rfl
        have zXR0 := XR.frozen 0
        have xXR1 := XR.a 1 (.bool false) rfl
        have zXR1 := XR.frozen 1
        have xXR2 := XR.a 2 (.int .u64 0) rfl
        have zXR2 := XR.frozen 2
        have xXR3 := XR.a 3 (.int .i64 0) rfl
        have zXR3 := XR.frozen 3
        go_wp2
        clear xXR0 zXR0 xXR1 zXR1 xXR2 zXR2 xXR3 zXR3
        have SX := StN.mk4 XR (.int .i64 K9) (.bool s9) (.int .u64 M9) (.int .i64 E9)
        replace X6 := X6.stn SX (by omega)
        replace X7 := X7.stn SX (by omega)
        replace HB := Lib.hid (SX.below HB.out (by omega))
        replace XR := SX.box
        clear SX
        generalize (World.setCell (World.setCell (World.setCell (World.setCell wB ⟨w.heap.size + 1, 0, none⟩ (.int .i64 K9)) ⟨w.heap.size + 1, 1, none⟩ (.bool s9)) ⟨w.heap.size + 1, 2, none⟩ (.int .u64 M9)) ⟨w.heap.size + 1, 3, none⟩ (.int .i64 E9)) = wC at *
        have r0 := XR.cell 0
        have r1 := XR.cell 1
        have r2 := XR.cell 2
        have r3 := XR.cell 3
        exact bodyPost_ret (v := .tuple #[.agg #[.int .i64 K9, .bool s9, .int .u64 M9, .int .i64 E9], .bool true]) (by simp [results, Tryz.results11, go_sem, r0, r1, r2, r3]) rfl ⟨_, _, _, _, rfl, q9, HB.out⟩
end Go.Proofs.YtpmakljahhhnfaaGreatDoor

/-
  What the statements of layer 7 rest on: quotients and roots beside the exact ones, squares of whole numbers, decimals in order. Plain arithmetic; no Go text.
-/
namespace Go.Proofs.YtpmakljahhhnfaaGreatDoor
open Go.RowKit
set_option linter.unusedVariables false

theorem sid_zero (up : Bool) : Sid up 0 1 0 := sid_exact (by decide) (by decide) (by decide) (by rw [Int.mul_one]; rfl)
theorem sid_huge (up : Bool) : Sid up (vr 19342822337206103650074624) 1 19342822337206103650074624 := sid_exact (by decide) (by decide) (by decide) (Int.mul_one _)
theorem fit_pos {h : Nat} {y : Int} (hh : h ≤ 1000000) (f : Fit h (ep y)) (h0 : 0 < y) (y2 : y < 19342822337206103650074625) : (2 : Int) ^ (KK - h) ≤ vr y := by
  have hk := KK_eq
  have hv := ep_vl (r := y) (by omega) y2
  have hp := vr_pos h0
  rw [← hv] at hp ⊢
  have lo := f.lo
  unfold vl at hp ⊢
  have h1 : 0 < (ep y).1 := by
    rcases Int.lt_or_le 0 (ep y).1 with q | q
    · exact q
    · exfalso
      have := Int.mul_le_mul_of_nonneg_right q (Int.le_of_lt (p2pos ((ep y).2 + (KK : Int)).toNat))
      rw [Int.zero_mul] at this
      omega
  have h2 := p2_le (show KK - h ≤ ((ep y).2 + (KK : Int)).toNat by omega)
  have h3 := Int.mul_le_mul_of_nonneg_right (show (1 : Int) ≤ (ep y).1 by omega) (Int.le_of_lt (p2pos ((ep y).2 + (KK : Int)).toNat))
  rw [Int.one_mul] at h3
  omega
/-- The quotients of a number that is not below nought by one above it. -/
theorem qt_holds {x y r t : Int} (hx : 0 ≤ x) (x2 : x < 19342822337206103650074625) (hy : 0 < y) (y2 : y < 19342822337206103650074625) (fx : Fit 1600 (ep x)) (fy : Fit 1600 (ep y)) (h : Qt false x y r) (k : Qt true x y t) :
    0 ≤ r ∧ r < 19342822337206103650074625 ∧ 0 ≤ t ∧ t < 19342822337206103650074625 ∧ vr r * vr y ≤ vr x * 2 ^ KK ∧ vr x * 2 ^ KK ≤ vr t * vr y ∧ (t = r ∨ t = r + 1) := by
  have hk := KK_eq
  have ix := infp_fin (show -19342822337206103650074625 < x by omega) x2
  have iy := infp_fin (show -19342822337206103650074625 < y by omega) y2
  by_cases h0 : x = 0
  · subst h0
    rw [(qt_zero (by omega) (.inl rfl)).1 h, (qt_zero (by omega) (.inl rfl)).1 k, show vr 0 = 0 from rfl, Int.zero_mul, Int.zero_mul]
    exact ⟨by decide, by decide, by decide, by decide, by decide, by decide, .inl rfl⟩
  · have hn : ¬ (x = 0 ∨ infp y = true) := by
      rw [iy]
      rintro (c | c)
      · exact h0 c
      · cases c
    have a := (qt_fin (by omega) hn ix).1 h
    have b := (qt_fin (by omega) hn ix).1 k
    rw [decide_eq_false (show ¬ y < 0 by omega), wsg_f, wsg_f] at a b
    have hB := vr_pos hy
    have hX := vr_pos (x := x) (by omega)
    have p1 := fit_pos (by decide) fy hy y2
    obtain ⟨_, p2⟩ := vl_lt (by decide) fx
    rw [ep_vl (by omega) x2] at p2
    have p3 := huge_ge (h := 3200) (by decide)
    have hA0 : 0 < vr x * 2 ^ KK := Int.mul_pos hX (p2pos _)
    have hAB : vr x * 2 ^ KK * 1 ≤ vr 19342822337206103650074624 * vr y := by
      rw [Int.mul_one]
      have l1 : vr x * 2 ^ KK ≤ 2 ^ 1600 * 2 ^ KK * 2 ^ KK := Int.mul_le_mul_of_nonneg_right (Int.le_of_lt p2) (Int.le_of_lt (p2pos _))
      have l2 : (2 : Int) ^ 3200 * 2 ^ KK * 2 ^ (KK - 1600) ≤ vr 19342822337206103650074624 * vr y := Int.mul_le_mul p3 p1 (Int.le_of_lt (p2pos _)) (by have := p2pos 3200; have := p2pos KK; exact Int.le_trans (Int.le_of_lt (Int.mul_pos (p2pos 3200) (p2pos KK))) p3)
      have l3 : (2 : Int) ^ 3200 * 2 ^ KK * 2 ^ (KK - 1600) = 2 ^ 1600 * 2 ^ KK * 2 ^ KK := by
        rw [← Int.pow_add, ← Int.pow_add, ← Int.pow_add, ← Int.pow_add]
        have ex : 3200 + KK + (KK - 1600) = 1600 + KK + KK := by omega
        rw [ex]
      omega
    have r1 := a.mono hB (by decide) (sid_huge false) hAB
    have t1 := b.mono hB (by decide) (sid_huge true) hAB
    have r0 := (sid_zero false).mono (by decide) hB a (by rw [Int.zero_mul, Int.mul_one]; omega)
    have t0 := (sid_zero true).mono (by decide) hB b (by rw [Int.zero_mul, Int.mul_one]; omega)
    rcases sid_two hB a b with ⟨e, e1, _, _⟩ | ⟨e, e1, e2⟩
    · subst e
      exact ⟨r0, by omega, t0, by omega, by omega, by omega, .inl rfl⟩
    · exact ⟨r0, by omega, t0, by omega, Int.le_of_lt (e1 (by omega)), Int.le_of_lt (e2 (by omega)), .inr e⟩
/-- The root of a whole number's square. -/
theorem rt_square {up : Bool} {n : Int} (h0 : 0 < n) (h1 : n ≤ 1000000000) : Rt up (vr (opl (n * n)) * 2 ^ KK) (opl n) := by
  have hn : n * n ≤ 1000000000 * 1000000000 := Int.mul_le_mul h1 h1 (by omega) (by decide)
  have hp : 0 < n * n := Int.mul_pos h0 h0
  obtain ⟨o1, o2⟩ := opl_pos h0 (by omega)
  refine rt_exact o1 o2 ?_
  rw [opl_vr (n := n) (by omega) (by omega), opl_vr (n := n * n) (by omega) (by omega), Int.mul_assoc n, ← Int.mul_assoc (2 ^ KK) n, Int.mul_comm (2 ^ KK) n, Int.mul_assoc n (2 ^ KK), ← Int.mul_assoc n n, Int.mul_assoc (n * n)]
end Go.Proofs.YtpmakljahhhnfaaGreatDoor

/-
  Contracts and words that the statement's proof rests on, several texts in one: Ki.
-/
import Derived.Test.YtpmakljahhhnfaaGreatDoorYAan
import Derived.Test.YtpmakljahhhnfaaGreatDoorYAas
/-
  What num.Round and Exact do, and the document's limbs and Exact.
-/
namespace Go.Proofs.YtpmakljahhhnfaaGreatDoor
open Go.RowKit
set_option linter.unusedVariables false
set_option linter.unusedSimpArgs false
set_option maxRecDepth 100000

theorem nx_sgi (s : Bool) {x : Int} (h0 : 0 ≤ x) (h1 : x ≤ 19342822337206103650074624) : nx (!s) (sgi s x) = sgi s (x + 1) := by
  have := TP_eq
  unfold nx
  cases s
  · show min TP (x + 1) = x + 1
    omega
  · show max (-TP) (-x - 1) = -(x + 1)
    omega
theorem nx_lo {a : Nat} {E : Int} (s : Bool) (h : ext a E = false) : nx (!s) (sgi s (lo a E)) = sgi s (hi a E) := by
  obtain ⟨h1, h2⟩ := lo_bd a E
  have hh : hi a E = lo a E + 1 := by
    unfold hi
    rw [h, if_neg (by decide)]
  rw [hh, nx_sgi s h1 h2]
theorem pick_t (s : Bool) (x y : Int) (b : Bool) (h : b = true) : sgi s (if b = true then x else y) = sgi s x := by rw [if_pos h]
theorem pick_f (s : Bool) (x y : Int) (b : Bool) (h : b = false) : sgi s (if b = true then x else y) = sgi s y := by rw [h, if_neg (by decide)]
theorem rnd_ext {up : Bool} {N E : Int} (h : ext N.natAbs E = true) : rnd up N E = sgi (decide (N < 0)) (lo N.natAbs E) := by
  unfold rnd hi
  rw [if_pos h]
  cases hb : (up != decide (N < 0))
  · exact pick_f _ _ _ _ rfl
  · exact pick_t _ _ _ _ rfl
theorem rnd_same {up s : Bool} {N E : Int} (hs : s = decide (N < 0)) (h : s = up) : rnd up N E = sgi s (lo N.natAbs E) := by
  unfold rnd
  rw [← hs, h]
  exact pick_f _ _ _ _ (by cases up <;> rfl)
theorem rnd_diff {s : Bool} {N E : Int} (hs : s = decide (N < 0)) : rnd (!s) N E = sgi s (hi N.natAbs E) := by
  unfold rnd
  rw [← hs]
  exact pick_t _ _ _ _ (by cases s <;> rfl)
set_option maxHeartbeats 4000000 in
theorem nround_y {w : World} {A : Option Addr} {n c : Nat} {s up : Bool} {z e N E r : Int} (hT : Tab w) (h : Wr w s A n c z) (hn : n ≤ 100000) (hN : (mk z e).1 = N) (hE : (mk z e).2 = E) (hr : rnd up N E = r) (hm : mayD s n z.natAbs e = true) :
    Calls Tryz.prog 54 #[.agg #[.bool s, .slice A n c, .int .i64 e], .bool up] w (PN w r) := by
  obtain ⟨b1, b2⟩ := mk_bd z e
  rw [hE] at b1 b2
  have HM := Lib.hid hm
  have HR := Lib.hid hr
  obtain ⟨hwn, hmk⟩ := mayD_true h hm
  obtain rfl : z = N := by rw [← hN, hmk]
  obtain rfl : e = E := by rw [← hE, hmk]
  have HSG := Lib.hid hwn.2
  have hd := hwn.1.rd
  clear hm hr hN hE hmk hwn
  go_enter Tryz.func54, Tryz.ntmps54
  go_upto_region 1 with (fail)
  have X1 := (Bo.newAt w (g := w.heap.size) (by simp) #[.bool s, .slice A n c, .int .i64 e] 51).below (bel1 _ (.cells #[.int .i64 0, .bool false, .int .u64 0, .int .i64 0] 24))
  have XR := (Bo.newAt (w.alloc (.cells #[.bool s, .slice A n c, .int .i64 e] 51)) (g := w.heap.size + 1) (by simp) #[.int .i64 0, .bool false, .int .u64 0, .int .i64 0] 24)
  have HB := Lib.hid (bel2 w (.cells #[.bool s, .slice A n c, .int .i64 e] 51) (.cells #[.int .i64 0, .bool false, .int .u64 0, .int .i64 0] 24))
  replace hT := hT.below HB.out
  replace h := h.below HB.out
  replace hd := hd.below HB.out
  generalize hW1 : ((w.alloc (.cells #[.bool s, .slice A n c, .int .i64 e] 51)).alloc (.cells #[.int .i64 0, .bool false, .int .u64 0, .int .i64 0] 24)) = w1 at *
  clear hW1
  have xX10 := X1.a 0 (.bool s) rfl
  have xX11 := X1.a 1 (.slice A n c) rfl
  have xX12 := X1.a 2 (.int .i64 e) rfl
  go_wp2_with fail
  refine (dMay h.rd HM.out).mono ?_
  rintro ee w2 ⟨rfl, B⟩
  clear xX10 xX11 xX12
  replace X1 := X1.below B
  replace XR := XR.below B
  replace hT := hT.below B
  replace h := h.below B
  replace hd := hd.below B
  replace HB := Lib.hid (bt HB.out B)
  clear B
  obtain ⟨x, hx⟩ : ∃ x, sgi s (lo z.natAbs e) = x := ⟨_, rfl⟩
  obtain ⟨t, ht⟩ : ∃ t, ext z.natAbs e = t := ⟨_, rfl⟩
  have HX := Lib.hid hx
  have HT := Lib.hid ht
  clear hx ht
  have xX10 := X1.a 0 (.bool s) rfl
  have xX11 := X1.a 1 (.slice A n c) rfl
  have xX12 := X1.a 2 (.int .i64 e) rfl
  go_wp2_with fail
  refine (nCut hd hn b1 b2 HX.out HT.out).mono ?_
  rintro ee w5 ⟨K2, s2, M2, E2, rfl, q2, B⟩
  clear xX10 xX11 xX12
  replace X1 := X1.below B
  replace XR := XR.below B
  replace hd := hd.below B
  replace HB := Lib.hid (bt HB.out B)
  clear B
  clear hd
  go_upto_region 4 with (fail)
  have lX5 := Nat.le_refl (World.heap w5).size
  have nX5X1 := X1.lt
  have nX5XR := XR.lt
  replace X1 := X1.below (bel1 _ (.cells #[.int .i64 K2, .bool s2, .int .u64 M2, .int .i64 E2] 24))
  replace XR := XR.below (bel1 _ (.cells #[.int .i64 K2, .bool s2, .int .u64 M2, .int .i64 E2] 24))
  replace HB := Lib.hid (bt HB.out (bel1 _ (.cells #[.int .i64 K2, .bool s2, .int .u64 M2, .int .i64 E2] 24)))
  have X5 := Bo.new w5 #[.int .i64 K2, .bool s2, .int .u64 M2, .int .i64 E2] 24
  generalize hWn : World.alloc w5 (.cells #[.int .i64 K2, .bool s2, .int .u64 M2, .int .i64 E2] 24) = w6 at *
  clear hWn
  clear lX5
  by_cases ht : t = true
  · subst ht
    obtain rfl : x = r := by rw [← HX.out, ← HR.out, rnd_ext HT.out, HSG.out]
    have xXR0 := XR.a 0 (.int .i64 0) rfl
    have zXR0 := XR.frozen 0
    have xXR1 := XR.a 1 (.bool false) rfl
    have zXR1 := XR.frozen 1
    have xXR2 := XR.a 2 (.int .u64 0) rfl
    have zXR2 := XR.frozen 2
    have xXR3 := XR.a 3 (.int .i64 0) rfl
    have zXR3 := XR.frozen 3
    have xX10 := X1.a 0 (.bool s) rfl
    have xX11 := X1.a 1 (.slice A n c) rfl
    have xX12 := X1.a 2 (.int .i64 e) rfl
    have xX50 := X5.a 0 (.int .i64 K2) rfl
    have xX51 := X5.a 1 (.bool s2) rfl
    have xX52 := X5.a 2 (.int .u64 M2) rfl
    have xX53 := X5.a 3 (.int .i64 E2) rfl
    go_wp2
    clear xXR0 zXR0 xXR1 zXR1 xXR2 zXR2 xXR3 zXR3 xX10 xX11 xX12 xX50 xX51 xX52 xX53
    have SX := StN.mk4 XR (.int .i64 K2) (.bool s2) (.int .u64 M2) (.int .i64 E2)
    replace X1 := X1.stn SX (by omega)
    replace X5 := X5.stn SX (by omega)
    replace HB := Lib.hid (SX.below HB.out (by omega))
    replace XR := SX.box
    clear SX
    generalize (World.setCell (World.setCell (World.setCell (World.setCell w6 ⟨w.heap.size + 1, 0, none⟩ (.int .i64 K2)) ⟨w.heap.size + 1, 1, none⟩ (.bool s2)) ⟨w.heap.size + 1, 2, none⟩ (.int .u64 M2)) ⟨w.heap.size + 1, 3, none⟩ (.int .i64 E2)) = w7 at *
    have r0 := XR.cell 0
    have r1 := XR.cell 1
    have r2 := XR.cell 2
    have r3 := XR.cell 3
    exact bodyPost_ret (v := .agg #[.int .i64 K2, .bool s2, .int .u64 M2, .int .i64 E2]) (by simp [results, Tryz.results54, go_sem, r0, r1, r2, r3]) rfl ⟨_, _, _, _, rfl, q2, HB.out⟩
  · have ht : t = false := by simpa using ht
    subst ht
    by_cases hs : s = up
    · obtain rfl : x = r := by rw [← HX.out, ← HR.out, rnd_same HSG.out hs]
      subst hs
      have xXR0 := XR.a 0 (.int .i64 0) rfl
      have zXR0 := XR.frozen 0
      have xXR1 := XR.a 1 (.bool false) rfl
      have zXR1 := XR.frozen 1
      have xXR2 := XR.a 2 (.int .u64 0) rfl
      have zXR2 := XR.frozen 2
      have xXR3 := XR.a 3 (.int .i64 0) rfl
      have zXR3 := XR.frozen 3
      have xX10 := X1.a 0 (.bool s) rfl
      have xX11 := X1.a 1 (.slice A n c) rfl
      have xX12 := X1.a 2 (.int .i64 e) rfl
      have xX50 := X5.a 0 (.int .i64 K2) rfl
      have xX51 := X5.a 1 (.bool s2) rfl
      have xX52 := X5.a 2 (.int .u64 M2) rfl
      have xX53 := X5.a 3 (.int .i64 E2) rfl
      go_wp2
      clear xXR0 zXR0 xXR1 zXR1 xXR2 zXR2 xXR3 zXR3 xX10 xX11 xX12 xX50 xX51 xX52 xX53
      have SX := StN.mk4 XR (.int .i64 K2) (.bool s2) (.int .u64 M2) (.int .i64 E2)
      replace X1 := X1.stn SX (by omega)
      replace X5 := X5.stn SX (by omega)
      replace HB := Lib.hid (SX.below HB.out (by omega))
      replace XR := SX.box
      clear SX
      generalize (World.setCell (World.setCell (World.setCell (World.setCell w6 ⟨w.heap.size + 1, 0, none⟩ (.int .i64 K2)) ⟨w.heap.size + 1, 1, none⟩ (.bool s2)) ⟨w.heap.size + 1, 2, none⟩ (.int .u64 M2)) ⟨w.heap.size + 1, 3, none⟩ (.int .i64 E2)) = w7 at *
      have r0 := XR.cell 0
      have r1 := XR.cell 1
      have r2 := XR.cell 2
      have r3 := XR.cell 3
      exact bodyPost_ret (v := .agg #[.int .i64 K2, .bool s2, .int .u64 M2, .int .i64 E2]) (by simp [results, Tryz.results54, go_sem, r0, r1, r2, r3]) rfl ⟨_, _, _, _, rfl, q2, HB.out⟩
    · obtain rfl : (!s) = up := by cases s <;> cases up <;> first | rfl | exact absurd rfl hs
      clear hs
      have e2 : (s == !s) = false := by cases s <;> rfl
      have HRR : Hid (nx (!s) (rk K2 s2 M2 E2) = r) := Lib.hid (by rw [q2.rk, ← HX.out, nx_lo s HT.out, ← HR.out, rnd_diff HSG.out])
      have xX10 := X1.a 0 (.bool s) rfl
      have xX11 := X1.a 1 (.slice A n c) rfl
      have xX12 := X1.a 2 (.int .i64 e) rfl
      have xX50 := X5.a 0 (.int .i64 K2) rfl
      have xX51 := X5.a 1 (.bool s2) rfl
      have xX52 := X5.a 2 (.int .u64 M2) rfl
      have xX53 := X5.a 3 (.int .i64 E2) rfl
      go_wp2_with fail
      refine (nNext q2.top HRR.out).mono ?_
      rintro ee w7 ⟨K3, s3, M3, E3, rfl, q3, B⟩
      clear xX10 xX11 xX12 xX50 xX51 xX52 xX53
      replace X1 := X1.below B
      replace XR := XR.below B
      replace X5 := X5.below B
      replace HB := Lib.hid (bt HB.out B)
      clear B
      have xXR0 := XR.a 0 (.int .i64 0) rfl
      have zXR0 := XR.frozen 0
      have xXR1 := XR.a 1 (.bool false) rfl
      have zXR1 := XR.frozen 1
      have xXR2 := XR.a 2 (.int .u64 0) rfl
      have zXR2 := XR.frozen 2
      have xXR3 := XR.a 3 (.int .i64 0) rfl
      have zXR3 := XR.frozen 3
      have xX10 := X1.a 0 (.bool s) rfl
      have xX11 := X1.a 1 (.slice A n c) rfl
      have xX12 := X1.a 2 (.int .i64 e) rfl
      have xX50 := X5.a 0 (.int .i64 K2) rfl
      have xX51 := X5.a 1 (.bool s2) rfl
      have xX52 := X5.a 2 (.int .u64 M2) rfl
      have xX53 := X5.a 3 (.int .i64 E2) rfl
      go_wp2
      clear xXR0 zXR0 xXR1 zXR1 xXR2 zXR2 xXR3 zXR3 xX10 xX11 xX12 xX50 xX51 xX52 xX53
      have SX := StN.mk4 XR (.int .i64 K3) (.bool s3) (.int .u64 M3) (.int .i64 E3)
      replace X1 := X1.stn SX (by omega)
      replace X5 := X5.stn SX (by omega)
      replace HB := Lib.hid (SX.below HB.out (by omega))
      replace XR := SX.box
      clear SX
      generalize (World.setCell (World.setCell (World.setCell (World.setCell w7 ⟨w.heap.size + 1, 0, none⟩ (.int .i64 K3)) ⟨w.heap.size + 1, 1, none⟩ (.bool s3)) ⟨w.heap.size + 1, 2, none⟩ (.int .u64 M3)) ⟨w.heap.size + 1, 3, none⟩ (.int .i64 E3)) = w8 at *
      have r0 := XR.cell 0
      have r1 := XR.cell 1
      have r2 := XR.cell 2
      have r3 := XR.cell 3
      exact bodyPost_ret (v := .agg #[.int .i64 K3, .bool s3, .int .u64 M3, .int .i64 E3]) (by simp [results, Tryz.results54, go_sem, r0, r1, r2, r3]) rfl ⟨_, _, _, _, rfl, q3, HB.out⟩
set_option maxHeartbeats 4000000 in
theorem nround_n {w : World} {A : Option Addr} {n c : Nat} {s up : Bool} {z e N E r : Int} (hT : Tab w) (h : Wr w s A n c z) (hn : n ≤ 100000) (hN : (mk z e).1 = N) (hE : (mk z e).2 = E) (hr : rnd up N E = r) (hm : mayD s n z.natAbs e = false) :
    Calls Tryz.prog 54 #[.agg #[.bool s, .slice A n c, .int .i64 e], .bool up] w (PN w r) := by
  obtain ⟨b1, b2⟩ := mk_bd z e
  rw [hE] at b1 b2
  have HM := Lib.hid hm
  have HR := Lib.hid hr
  have HN := Lib.hid hN
  have HE := Lib.hid hE
  clear hm hr hN hE
  go_enter Tryz.func54, Tryz.ntmps54
  go_upto_region 1 with (fail)
  have X1 := (Bo.newAt w (g := w.heap.size) (by simp) #[.bool s, .slice A n c, .int .i64 e] 51).below (bel1 _ (.cells #[.int .i64 0, .bool false, .int .u64 0, .int .i64 0] 24))
  have XR := (Bo.newAt (w.alloc (.cells #[.bool s, .slice A n c, .int .i64 e] 51)) (g := w.heap.size + 1) (by simp) #[.int .i64 0, .bool false, .int .u64 0, .int .i64 0] 24)
  have HB := Lib.hid (bel2 w (.cells #[.bool s, .slice A n c, .int .i64 e] 51) (.cells #[.int .i64 0, .bool false, .int .u64 0, .int .i64 0] 24))
  replace hT := hT.below HB.out
  replace h := h.below HB.out
  generalize hW1 : ((w.alloc (.cells #[.bool s, .slice A n c, .int .i64 e] 51)).alloc (.cells #[.int .i64 0, .bool false, .int .u64 0, .int .i64 0] 24)) = w1 at *
  clear hW1
  have xX10 := X1.a 0 (.bool s) rfl
  have xX11 := X1.a 1 (.slice A n c) rfl
  have xX12 := X1.a 2 (.int .i64 e) rfl
  go_wp2_with fail
  refine (dMay h.rd HM.out).mono ?_
  rintro ee w2 ⟨rfl, B⟩
  clear xX10 xX11 xX12
  replace X1 := X1.below B
  replace XR := XR.below B
  replace hT := hT.below B
  replace h := h.below B
  replace HB := Lib.hid (bt HB.out B)
  clear B
  have xX10 := X1.a 0 (.bool s) rfl
  have xX11 := X1.a 1 (.slice A n c) rfl
  have xX12 := X1.a 2 (.int .i64 e) rfl
  go_wp2_with fail
  refine (dMake hT h hn HN.out HE.out).mono ?_
  rintro ee w3 ⟨s1, A1, n1, c1, rfl, p1, k1, B⟩
  clear xX10 xX11 xX12
  replace X1 := X1.below B
  replace XR := XR.below B
  replace hT := hT.below B
  replace h := h.below B
  replace HB := Lib.hid (bt HB.out B)
  clear B
  have xX10 := X1.a 0 (.bool s) rfl
  have zX10 := X1.frozen 0
  have xX11 := X1.a 1 (.slice A n c) rfl
  have zX11 := X1.frozen 1
  have xX12 := X1.a 2 (.int .i64 e) rfl
  have zX12 := X1.frozen 2
  go_upto_region 3 with (fail)
  clear xX10 zX10 xX11 zX11 xX12 zX12
  have SX := StN.mk3 X1 (.bool s1) (.slice A1 n1 c1) (.int .i64 E)
  replace XR := XR.stn SX (by omega)
  replace p1 := p1.stn SX (by simp [no32])
  replace HB := Lib.hid (SX.below HB.out (by omega))
  replace X1 := SX.box
  clear SX
  generalize (World.setCell (World.setCell (World.setCell w3 ⟨w.heap.size, 0, none⟩ (.bool s1)) ⟨w.heap.size, 1, none⟩ (.slice A1 n1 c1)) ⟨w.heap.size, 2, none⟩ (.int .i64 E)) = w4 at *
  have HSG := Lib.hid p1.2
  have hd := p1.1.rd
  have hn1 : n1 ≤ 100000 := by omega
  clear p1
  obtain ⟨x, hx⟩ : ∃ x, sgi s1 (lo N.natAbs E) = x := ⟨_, rfl⟩
  obtain ⟨t, ht⟩ : ∃ t, ext N.natAbs E = t := ⟨_, rfl⟩
  have HX := Lib.hid hx
  have HT := Lib.hid ht
  clear hx ht
  have xX10 := X1.a 0 (.bool s1) rfl
  have xX11 := X1.a 1 (.slice A1 n1 c1) rfl
  have xX12 := X1.a 2 (.int .i64 E) rfl
  go_wp2_with fail
  refine (nCut hd hn1 b1 b2 HX.out HT.out).mono ?_
  rintro ee w5 ⟨K2, s2, M2, E2, rfl, q2, B⟩
  clear xX10 xX11 xX12
  replace X1 := X1.below B
  replace XR := XR.below B
  replace hd := hd.below B
  replace HB := Lib.hid (bt HB.out B)
  clear B
  clear hd
  go_upto_region 4 with (fail)
  have lX5 := Nat.le_refl (World.heap w5).size
  have nX5X1 := X1.lt
  have nX5XR := XR.lt
  replace X1 := X1.below (bel1 _ (.cells #[.int .i64 K2, .bool s2, .int .u64 M2, .int .i64 E2] 24))
  replace XR := XR.below (bel1 _ (.cells #[.int .i64 K2, .bool s2, .int .u64 M2, .int .i64 E2] 24))
  replace HB := Lib.hid (bt HB.out (bel1 _ (.cells #[.int .i64 K2, .bool s2, .int .u64 M2, .int .i64 E2] 24)))
  have X5 := Bo.new w5 #[.int .i64 K2, .bool s2, .int .u64 M2, .int .i64 E2] 24
  generalize hWn : World.alloc w5 (.cells #[.int .i64 K2, .bool s2, .int .u64 M2, .int .i64 E2] 24) = w6 at *
  clear hWn
  clear lX5
  by_cases ht : t = true
  · subst ht
    obtain rfl : x = r := by rw [← HX.out, ← HR.out, rnd_ext HT.out, HSG.out]
    have xXR0 := XR.a 0 (.int .i64 0) rfl
    have zXR0 := XR.frozen 0
    have xXR1 := XR.a 1 (.bool false) rfl
    have zXR1 := XR.frozen 1
    have xXR2 := XR.a 2 (.int .u64 0) rfl
    have zXR2 := XR.frozen 2
    have xXR3 := XR.a 3 (.int .i64 0) rfl
    have zXR3 := XR.frozen 3
    have xX10 := X1.a 0 (.bool s1) rfl
    have xX11 := X1.a 1 (.slice A1 n1 c1) rfl
    have xX12 := X1.a 2 (.int .i64 E) rfl
    have xX50 := X5.a 0 (.int .i64 K2) rfl
    have xX51 := X5.a 1 (.bool s2) rfl
    have xX52 := X5.a 2 (.int .u64 M2) rfl
    have xX53 := X5.a 3 (.int .i64 E2) rfl
    go_wp2
    clear xXR0 zXR0 xXR1 zXR1 xXR2 zXR2 xXR3 zXR3 xX10 xX11 xX12 xX50 xX51 xX52 xX53
    have SX := StN.mk4 XR (.int .i64 K2) (.bool s2) (.int .u64 M2) (.int .i64 E2)
    replace X1 := X1.stn SX (by omega)
    replace X5 := X5.stn SX (by omega)
    replace HB := Lib.hid (SX.below HB.out (by omega))
    replace XR := SX.box
    clear SX
    generalize (World.setCell (World.setCell (World.setCell (World.setCell w6 ⟨w.heap.size + 1, 0, none⟩ (.int .i64 K2)) ⟨w.heap.size + 1, 1, none⟩ (.bool s2)) ⟨w.heap.size + 1, 2, none⟩ (.int .u64 M2)) ⟨w.heap.size + 1, 3, none⟩ (.int .i64 E2)) = w7 at *
    have r0 := XR.cell 0
    have r1 := XR.cell 1
    have r2 := XR.cell 2
    have r3 := XR.cell 3
    exact bodyPost_ret (v := .agg #[.int .i64 K2, .bool s2, .int .u64 M2, .int .i64 E2]) (by simp [results, Tryz.results54, go_sem, r0, r1, r2, r3]) rfl ⟨_, _, _, _, rfl, q2, HB.out⟩
  · have ht : t = false := by simpa using ht
    subst ht
    by_cases hs : s1 = up
    · obtain rfl : x = r := by rw [← HX.out, ← HR.out, rnd_same HSG.out hs]
      subst hs
      have xXR0 := XR.a 0 (.int .i64 0) rfl
      have zXR0 := XR.frozen 0
      have xXR1 := XR.a 1 (.bool false) rfl
      have zXR1 := XR.frozen 1
      have xXR2 := XR.a 2 (.int .u64 0) rfl
      have zXR2 := XR.frozen 2
      have xXR3 := XR.a 3 (.int .i64 0) rfl
      have zXR3 := XR.frozen 3
      have xX10 := X1.a 0 (.bool s1) rfl
      have xX11 := X1.a 1 (.slice A1 n1 c1) rfl
      have xX12 := X1.a 2 (.int .i64 E) rfl
      have xX50 := X5.a 0 (.int .i64 K2) rfl
      have xX51 := X5.a 1 (.bool s2) rfl
      have xX52 := X5.a 2 (.int .u64 M2) rfl
      have xX53 := X5.a 3 (.int .i64 E2) rfl
      go_wp2
      clear xXR0 zXR0 xXR1 zXR1 xXR2 zXR2 xXR3 zXR3 xX10 xX11 xX12 xX50 xX51 xX52 xX53
      have SX := StN.mk4 XR (.int .i64 K2) (.bool s2) (.int .u64 M2) (.int .i64 E2)
      replace X1 := X1.stn SX (by omega)
      replace X5 := X5.stn SX (by omega)
      replace HB := Lib.hid (SX.below HB.out (by omega))
      replace XR := SX.box
      clear SX
      generalize (World.setCell (World.setCell (World.setCell (World.setCell w6 ⟨w.heap.size + 1, 0, none⟩ (.int .i64 K2)) ⟨w.heap.size + 1, 1, none⟩ (.bool s2)) ⟨w.heap.size + 1, 2, none⟩ (.int .u64 M2)) ⟨w.heap.size + 1, 3, none⟩ (.int .i64 E2)) = w7 at *
      have r0 := XR.cell 0
      have r1 := XR.cell 1
      have r2 := XR.cell 2
      have r3 := XR.cell 3
      exact bodyPost_ret (v := .agg #[.int .i64 K2, .bool s2, .int .u64 M2, .int .i64 E2]) (by simp [results, Tryz.results54, go_sem, r0, r1, r2, r3]) rfl ⟨_, _, _, _, rfl, q2, HB.out⟩
    · obtain rfl : (!s1) = up := by cases s1 <;> cases up <;> first | rfl | exact absurd rfl hs
      clear hs
      have e2 : (s1 == !s1) = false := by cases s1 <;> rfl
      have HRR : Hid (nx (!s1) (rk K2 s2 M2 E2) = r) := Lib.hid (by rw [q2.rk, ← HX.out, nx_lo s1 HT.out, ← HR.out, rnd_diff HSG.out])
      have xX10 := X1.a 0 (.bool s1) rfl
      have xX11 := X1.a 1 (.slice A1 n1 c1) rfl
      have xX12 := X1.a 2 (.int .i64 E) rfl
      have xX50 := X5.a 0 (.int .i64 K2) rfl
      have xX51 := X5.a 1 (.bool s2) rfl
      have xX52 := X5.a 2 (.int .u64 M2) rfl
      have xX53 := X5.a 3 (.int .i64 E2) rfl
      go_wp2_with fail
      refine (nNext q2.top HRR.out).mono ?_
      rintro ee w7 ⟨K3, s3, M3, E3, rfl, q3, B⟩
      clear xX10 xX11 xX12 xX50 xX51 xX52 xX53
      replace X1 := X1.below B
      replace XR := XR.below B
      replace X5 := X5.below B
      replace HB := Lib.hid (bt HB.out B)
      clear B
      have xXR0 := XR.a 0 (.int .i64 0) rfl
      have zXR0 := XR.frozen 0
      have xXR1 := XR.a 1 (.bool false) rfl
      have zXR1 := XR.frozen 1
      have xXR2 := XR.a 2 (.int .u64 0) rfl
      have zXR2 := XR.frozen 2
      have xXR3 := XR.a 3 (.int .i64 0) rfl
      have zXR3 := XR.frozen 3
      have xX10 := X1.a 0 (.bool s1) rfl
      have xX11 := X1.a 1 (.slice A1 n1 c1) rfl
      have xX12 := X1.a 2 (.int .i64 E) rfl
      have xX50 := X5.a 0 (.int .i64 K2) rfl
      have xX51 := X5.a 1 (.bool s2) rfl
      have xX52 := X5.a 2 (.int .u64 M2) rfl
      have xX53 := X5.a 3 (.int .i64 E2) rfl
      go_wp2
      clear xXR0 zXR0 xXR1 zXR1 xXR2 zXR2 xXR3 zXR3 xX10 xX11 xX12 xX50 xX51 xX52 xX53
      have SX := StN.mk4 XR (.int .i64 K3) (.bool s3) (.int .u64 M3) (.int .i64 E3)
      replace X1 := X1.stn SX (by omega)
      replace X5 := X5.stn SX (by omega)
      replace HB := Lib.hid (SX.below HB.out (by omega))
      replace XR := SX.box
      clear SX
      generalize (World.setCell (World.setCell (World.setCell (World.setCell w7 ⟨w.heap.size + 1, 0, none⟩ (.int .i64 K3)) ⟨w.heap.size + 1, 1, none⟩ (.bool s3)) ⟨w.heap.size + 1, 2, none⟩ (.int .u64 M3)) ⟨w.heap.size + 1, 3, none⟩ (.int .i64 E3)) = w8 at *
      have r0 := XR.cell 0
      have r1 := XR.cell 1
      have r2 := XR.cell 2
      have r3 := XR.cell 3
      exact bodyPost_ret (v := .agg #[.int .i64 K3, .bool s3, .int .u64 M3, .int .i64 E3]) (by simp [results, Tryz.results54, go_sem, r0, r1, r2, r3]) rfl ⟨_, _, _, _, rfl, q3, HB.out⟩
theorem nRound {w : World} {A : Option Addr} {n c : Nat} {s up : Bool} {z e N E r : Int} (hT : Tab w) (h : Wr w s A n c z) (hn : n ≤ 100000) (hN : (mk z e).1 = N) (hE : (mk z e).2 = E) (hr : rnd up N E = r) :
    Calls Tryz.prog 54 #[.agg #[.bool s, .slice A n c, .int .i64 e], .bool up] w (PN w r) := by
  cases hm : mayD s n z.natAbs e
  · exact nround_n hT h hn hN hE hr hm
  · exact nround_y hT h hn hN hE hr hm
/-- A dyadic number and a truth are answered. -/
def PDB (w : World) (N E : Int) (t : Bool) (e : Ending) (w' : World) : Prop := ∃ s A n c, e = .returned (.tuple #[.agg #[.bool s, .slice A n c, .int .i64 E], .bool t]) ∧ Wn w' s A n c N ∧ n ≤ 2 ∧ Below w.heap.size w w'
def exb (D : Int) (s : Bool) (M E : Int) : Bool := decide (MayQ D s M E) && !(D == 2)
def exq (D : Int) (s : Bool) (M E : Int) : Int × Int := if exb D s M E = true then mk (sgi s M) E else (0, 0)
def Jo.Fact.rd (a K : Nat) : Jo.Fact := ⟨fun v w => ∃ A n c, v = .slice A n c ∧ Rd w A n c a ∧ n ≤ K, fun v w w' h b => by
  obtain ⟨A, n, c, e, h, k⟩ := h
  exact ⟨A, n, c, e, h.below b, k⟩⟩
theorem lit_rdk (W : World) {X Y a : Nat} (hX : X < 4294967296) (hY : Y < 4294967296) (ha : Y + 4294967296 * X = a) : Rd (W.alloc (.cells #[.int .u32 (Y : Int), .int .u32 (X : Int)] 41)) (some ⟨W.heap.size, 0, none⟩) 2 2 a :=
  ⟨_, _, lit2 W Y X hY hX, by simp [val]; omega⟩
theorem sg_toNat {s : Bool} {M : Int} (h : 0 ≤ M) : sg s M.toNat = sgi s M := by
  have : ((M.toNat : Nat) : Int) = M := by omega
  unfold sg sgi
  rw [this]
set_option maxHeartbeats 4000000 in
theorem yexact_a {w : World} {D M E : Int} {s : Bool} (hm : decide (MayQ D s M E) = false) : Calls Tryz.prog 27 #[.agg #[.int .i64 D, .bool s, .int .u64 M, .int .i64 E]] w (PDB w 0 0 false) := by
  have HM := Lib.hid hm
  clear hm
  go_enter Tryz.func27, Tryz.ntmps27
  go_upto_region 1 with (fail)
  have X1 := (Bo.newAt w (g := w.heap.size) (by simp) #[.int .i64 D, .bool s, .int .u64 M, .int .i64 E] 24).below (bel1 _ (.cells #[.bool false, .slice none 0 0, .int .i64 0] 51))
  have XR := (Bo.newAt (w.alloc (.cells #[.int .i64 D, .bool s, .int .u64 M, .int .i64 E] 24)) (g := w.heap.size + 1) (by simp) #[.bool false, .slice none 0 0, .int .i64 0] 51)
  have HB := Lib.hid (bel2 w (.cells #[.int .i64 D, .bool s, .int .u64 M, .int .i64 E] 24) (.cells #[.bool false, .slice none 0 0, .int .i64 0] 51))
  generalize hW1 : ((w.alloc (.cells #[.int .i64 D, .bool s, .int .u64 M, .int .i64 E] 24)).alloc (.cells #[.bool false, .slice none 0 0, .int .i64 0] 51)) = w1 at *
  clear hW1
  have xX10 := X1.a 0 (.int .i64 D) rfl
  have xX11 := X1.a 1 (.bool s) rfl
  have xX12 := X1.a 2 (.int .u64 M) rfl
  have xX13 := X1.a 3 (.int .i64 E) rfl
  go_wp2_with fail
  refine (yMay HM.out).mono ?_
  rintro ee w2 ⟨rfl, B⟩
  clear xX10 xX11 xX12 xX13
  replace X1 := X1.below B
  replace XR := XR.below B
  replace HB := Lib.hid (bt HB.out B)
  clear B
  have xXR0 := XR.a 0 (.bool false) rfl
  have zXR0 := XR.frozen 0
  have xXR1 := XR.a 1 (.slice none 0 0) rfl
  have zXR1 := XR.frozen 1
  have xXR2 := XR.a 2 (.int .i64 0) rfl
  have zXR2 := XR.frozen 2
  have xX10 := X1.a 0 (.int .i64 D) rfl
  have xX11 := X1.a 1 (.bool s) rfl
  have xX12 := X1.a 2 (.int .u64 M) rfl
  have xX13 := X1.a 3 (.int .i64 E) rfl
  go_wp2
  clear xXR0 zXR0 xXR1 zXR1 xXR2 zXR2 xX10 xX11 xX12 xX13
  have SX := StN.mk3 XR (.bool false) (.slice none 0 0) (.int .i64 0)
  replace X1 := X1.stn SX (by omega)
  replace HB := Lib.hid (SX.below HB.out (by omega))
  replace XR := SX.box
  clear SX
  generalize (World.setCell (World.setCell (World.setCell w2 ⟨w.heap.size + 1, 0, none⟩ (.bool false)) ⟨w.heap.size + 1, 1, none⟩ (.slice none 0 0)) ⟨w.heap.size + 1, 2, none⟩ (.int .i64 0)) = w3 at *
  have r0 := XR.cell 0
  have r1 := XR.cell 1
  have r2 := XR.cell 2
  exact bodyPost_ret (v := .tuple #[.agg #[.bool false, .slice none 0 0, .int .i64 0], .bool false]) (by simp [results, Tryz.results27, go_sem, r0, r1, r2]) rfl ⟨_, _, _, _, rfl, Wn.zero, by decide, HB.out⟩
set_option maxHeartbeats 4000000 in
theorem yexact_b {w : World} {D M E : Int} {s : Bool} (hm : decide (MayQ D s M E) = true) (hd : D = 2) : Calls Tryz.prog 27 #[.agg #[.int .i64 D, .bool s, .int .u64 M, .int .i64 E]] w (PDB w 0 0 false) := by
  have HM := Lib.hid hm
  clear hm
  subst hd
  go_enter Tryz.func27, Tryz.ntmps27
  go_upto_region 1 with (fail)
  have X1 := (Bo.newAt w (g := w.heap.size) (by simp) #[.int .i64 2, .bool s, .int .u64 M, .int .i64 E] 24).below (bel1 _ (.cells #[.bool false, .slice none 0 0, .int .i64 0] 51))
  have XR := (Bo.newAt (w.alloc (.cells #[.int .i64 2, .bool s, .int .u64 M, .int .i64 E] 24)) (g := w.heap.size + 1) (by simp) #[.bool false, .slice none 0 0, .int .i64 0] 51)
  have HB := Lib.hid (bel2 w (.cells #[.int .i64 2, .bool s, .int .u64 M, .int .i64 E] 24) (.cells #[.bool false, .slice none 0 0, .int .i64 0] 51))
  generalize hW1 : ((w.alloc (.cells #[.int .i64 2, .bool s, .int .u64 M, .int .i64 E] 24)).alloc (.cells #[.bool false, .slice none 0 0, .int .i64 0] 51)) = w1 at *
  clear hW1
  have xX10 := X1.a 0 (.int .i64 2) rfl
  have xX11 := X1.a 1 (.bool s) rfl
  have xX12 := X1.a 2 (.int .u64 M) rfl
  have xX13 := X1.a 3 (.int .i64 E) rfl
  go_wp2_with fail
  refine (yMay HM.out).mono ?_
  rintro ee w2 ⟨rfl, B⟩
  clear xX10 xX11 xX12 xX13
  replace X1 := X1.below B
  replace XR := XR.below B
  replace HB := Lib.hid (bt HB.out B)
  clear B
  have xXR0 := XR.a 0 (.bool false) rfl
  have zXR0 := XR.frozen 0
  have xXR1 := XR.a 1 (.slice none 0 0) rfl
  have zXR1 := XR.frozen 1
  have xXR2 := XR.a 2 (.int .i64 0) rfl
  have zXR2 := XR.frozen 2
  have xX10 := X1.a 0 (.int .i64 2) rfl
  have xX11 := X1.a 1 (.bool s) rfl
  have xX12 := X1.a 2 (.int .u64 M) rfl
  have xX13 := X1.a 3 (.int .i64 E) rfl
  go_wp2
  clear xXR0 zXR0 xXR1 zXR1 xXR2 zXR2 xX10 xX11 xX12 xX13
  have SX := StN.mk3 XR (.bool false) (.slice none 0 0) (.int .i64 0)
  replace X1 := X1.stn SX (by omega)
  replace HB := Lib.hid (SX.below HB.out (by omega))
  replace XR := SX.box
  clear SX
  generalize (World.setCell (World.setCell (World.setCell w2 ⟨w.heap.size + 1, 0, none⟩ (.bool false)) ⟨w.heap.size + 1, 1, none⟩ (.slice none 0 0)) ⟨w.heap.size + 1, 2, none⟩ (.int .i64 0)) = w3 at *
  have r0 := XR.cell 0
  have r1 := XR.cell 1
  have r2 := XR.cell 2
  exact bodyPost_ret (v := .tuple #[.agg #[.bool false, .slice none 0 0, .int .i64 0], .bool false]) (by simp [results, Tryz.results27, go_sem, r0, r1, r2]) rfl ⟨_, _, _, _, rfl, Wn.zero, by decide, HB.out⟩
set_option maxHeartbeats 4000000 in
theorem yexact_z {w : World} {s : Bool} {M E : Int} (hm : decide (MayQ 0 s M E) = true) : Calls Tryz.prog 27 #[.agg #[.int .i64 0, .bool s, .int .u64 M, .int .i64 E]] w (PDB w 0 0 true) := by
  have HM := Lib.hid hm
  clear hm
  go_enter Tryz.func27, Tryz.ntmps27
  go_upto_region 1 with (fail)
  have X1 := (Bo.newAt w (g := w.heap.size) (by simp) #[.int .i64 0, .bool s, .int .u64 M, .int .i64 E] 24).below (bel1 _ (.cells #[.bool false, .slice none 0 0, .int .i64 0] 51))
  have XR := (Bo.newAt (w.alloc (.cells #[.int .i64 0, .bool s, .int .u64 M, .int .i64 E] 24)) (g := w.heap.size + 1) (by simp) #[.bool false, .slice none 0 0, .int .i64 0] 51)
  have HB := Lib.hid (bel2 w (.cells #[.int .i64 0, .bool s, .int .u64 M, .int .i64 E] 24) (.cells #[.bool false, .slice none 0 0, .int .i64 0] 51))
  generalize hW1 : ((w.alloc (.cells #[.int .i64 0, .bool s, .int .u64 M, .int .i64 E] 24)).alloc (.cells #[.bool false, .slice none 0 0, .int .i64 0] 51)) = w1 at *
  clear hW1
  have xX10 := X1.a 0 (.int .i64 0) rfl
  have xX11 := X1.a 1 (.bool s) rfl
  have xX12 := X1.a 2 (.int .u64 M) rfl
  have xX13 := X1.a 3 (.int .i64 E) rfl
  go_wp2_with fail
  refine (yMay HM.out).mono ?_
  rintro ee w2 ⟨rfl, B⟩
  clear xX10 xX11 xX12 xX13
  replace X1 := X1.below B
  replace XR := XR.below B
  replace HB := Lib.hid (bt HB.out B)
  clear B
  have xXR0 := XR.a 0 (.bool false) rfl
  have zXR0 := XR.frozen 0
  have xXR1 := XR.a 1 (.slice none 0 0) rfl
  have zXR1 := XR.frozen 1
  have xXR2 := XR.a 2 (.int .i64 0) rfl
  have zXR2 := XR.frozen 2
  have xX10 := X1.a 0 (.int .i64 0) rfl
  have xX11 := X1.a 1 (.bool s) rfl
  have xX12 := X1.a 2 (.int .u64 M) rfl
  have xX13 := X1.a 3 (.int .i64 E) rfl
  go_wp2
  clear xXR0 zXR0 xXR1 zXR1 xXR2 zXR2 xX10 xX11 xX12 xX13
  have SX := StN.mk3 XR (.bool false) (.slice none 0 0) (.int .i64 0)
  replace X1 := X1.stn SX (by omega)
  replace HB := Lib.hid (SX.below HB.out (by omega))
  replace XR := SX.box
  clear SX
  generalize (World.setCell (World.setCell (World.setCell w2 ⟨w.heap.size + 1, 0, none⟩ (.bool false)) ⟨w.heap.size + 1, 1, none⟩ (.slice none 0 0)) ⟨w.heap.size + 1, 2, none⟩ (.int .i64 0)) = w3 at *
  have r0 := XR.cell 0
  have r1 := XR.cell 1
  have r2 := XR.cell 2
  exact bodyPost_ret (v := .tuple #[.agg #[.bool false, .slice none 0 0, .int .i64 0], .bool true]) (by simp [results, Tryz.results27, go_sem, r0, r1, r2]) rfl ⟨_, _, _, _, rfl, Wn.zero, by decide, HB.out⟩
/-- The limbs of a word are answered. -/
def PR (w : World) (a : Nat) (e : Ending) (w' : World) : Prop := ∃ A n c, e = .returned (.slice A n c) ∧ Rd w' A n c a ∧ n ≤ 2 ∧ Below w.heap.size w w'
set_option maxHeartbeats 1000000 in
theorem yLimbs {w : World} {M : Int} (h0 : 0 ≤ M) (hM : M < 18446744073709551616) : Calls Tryz.prog 57 #[.int .u64 M] w (PR w M.toNat) := by
  obtain ⟨X, hX⟩ : ∃ X : Nat, M / 4294967296 = X := ⟨(M / 4294967296).toNat, by omega⟩
  obtain ⟨Y, hY⟩ : ∃ Y : Nat, M % 4294967296 = Y := ⟨(M % 4294967296).toNat, by omega⟩
  have hx : X < 4294967296 := by omega
  have hy : Y < 4294967296 := by omega
  have ha : Y + 4294967296 * X = M.toNat := by omega
  have w1 : IntKind.u32.wrap (X : Int) = X := IntWalk.u32_in _ (by omega)
  have w2 : IntKind.u32.wrap (Y : Int) = Y := IntWalk.u32_in _ (by omega)
  go_enter Tryz.func57, Tryz.ntmps57
  go_wp2
  go_ret
  exact ⟨_, 2, 2, rfl, lit_rdk w hx hy ha, by decide, bel1 _ _⟩
set_option maxHeartbeats 4000000 in
theorem yexact_m {w : World} {D M E : Int} {s : Bool} {N F : Int} (h0 : 0 ≤ M) (hM : M < 18446744073709551616) (hm : decide (MayQ D s M E) = true) (hd : D ≠ 2) (hz : D ≠ 0) (hN : (mk (sgi s M) E).1 = N) (hE : (mk (sgi s M) E).2 = F) : Calls Tryz.prog 27 #[.agg #[.int .i64 D, .bool s, .int .u64 M, .int .i64 E]] w (PDB w N F true) := by
  have HM := Lib.hid hm
  have HN := Lib.hid hN
  have HE := Lib.hid hE
  have e2 : (D == 2) = false := by simpa using hd
  have e0 : (D == 0) = false := by simpa using hz
  obtain ⟨X, hX⟩ : ∃ X : Nat, M / 4294967296 = X := ⟨(M / 4294967296).toNat, by omega⟩
  obtain ⟨Y, hY⟩ : ∃ Y : Nat, M % 4294967296 = Y := ⟨(M % 4294967296).toNat, by omega⟩
  have hx : X < 4294967296 := by omega
  have hy : Y < 4294967296 := by omega
  have ha : Y + 4294967296 * X = M.toNat := by omega
  have HX := Lib.hid hX
  have HY : Hid (IntKind.u32.wrap M = (Y : Int)) := Lib.hid (by
    show M % 4294967296 = (Y : Int)
    exact hY)
  have HX2 : Hid (IntKind.u32.wrap (X : Int) = (X : Int)) := Lib.hid (IntWalk.u32_in _ (by omega))
  have HS : Hid (sg s M.toNat = sgi s M) := Lib.hid (sg_toNat h0)
  clear hm hN hE hX hY
  go_enter Tryz.func27, Tryz.ntmps27
  go_upto_region 1 with (fail)
  have X1 := (Bo.newAt w (g := w.heap.size) (by simp) #[.int .i64 D, .bool s, .int .u64 M, .int .i64 E] 24).below (bel1 _ (.cells #[.bool false, .slice none 0 0, .int .i64 0] 51))
  have XR := (Bo.newAt (w.alloc (.cells #[.int .i64 D, .bool s, .int .u64 M, .int .i64 E] 24)) (g := w.heap.size + 1) (by simp) #[.bool false, .slice none 0 0, .int .i64 0] 51)
  have HB := Lib.hid (bel2 w (.cells #[.int .i64 D, .bool s, .int .u64 M, .int .i64 E] 24) (.cells #[.bool false, .slice none 0 0, .int .i64 0] 51))
  generalize hW1 : ((w.alloc (.cells #[.int .i64 D, .bool s, .int .u64 M, .int .i64 E] 24)).alloc (.cells #[.bool false, .slice none 0 0, .int .i64 0] 51)) = w1 at *
  clear hW1
  have xX10 := X1.a 0 (.int .i64 D) rfl
  have xX11 := X1.a 1 (.bool s) rfl
  have xX12 := X1.a 2 (.int .u64 M) rfl
  have xX13 := X1.a 3 (.int .i64 E) rfl
  go_wp2_with fail
  refine (yMay HM.out).mono ?_
  rintro ee w2 ⟨rfl, B⟩
  clear xX10 xX11 xX12 xX13
  replace X1 := X1.below B
  replace XR := XR.below B
  replace HB := Lib.hid (bt HB.out B)
  clear B
  have xX10 := X1.a 0 (.int .i64 D) rfl
  have xX11 := X1.a 1 (.bool s) rfl
  have xX12 := X1.a 2 (.int .u64 M) rfl
  have xX13 := X1.a 3 (.int .i64 E) rfl
  go_upto_region 6 with (fail)
  clear xX10 xX11 xX12 xX13
  refine Jo.region_joint (T := [0, 1, 2, 3, 4, 5, 6, 7, 8]) (ds := [some 19, some 20, some 21, some 22, some 23, some 24, some 25, some 26, some 27, none, some 3]) (ls := [[], [0], [], [2], [3], [1, 4], [], [6], [5, 7], [], []]) (k := 11) (L := [(some 19, 0), (some 20, 1), (some 21, 2), (some 22, 3), (some 23, 4), (some 24, 5), (some 25, 6), (some 26, 7), (some 27, 8)]) (fuel := 2) (J := fun wj => Below (World.heap w2).size w2 wj)
    (F := [Jo.Fact.eq (.pointer (some ⟨w.heap.size, 1, none⟩)), Jo.Fact.eq (.bool s), Jo.Fact.eq (.pointer (some ⟨w.heap.size, 2, none⟩)), Jo.Fact.eq (.int .u64 M), Jo.Fact.rd M.toNat 2, Jo.Fact.wn (sgi s M) 2, Jo.Fact.eq (.pointer (some ⟨w.heap.size, 3, none⟩)), Jo.Fact.eq (.int .i64 E), Jo.Fact.dy N F 2, Jo.Fact.any, Jo.Fact.any])
    (by kernel_rfl) (by kernel_rfl) (by decide) rfl rfl (fun _ _ h b => bt h b) ((Below.refl _ _).drew) ?_ (fun vs w3 hJ hd => ?_)
  · refine Jo.jd 0 (some 19) [] (Jo.Fact.eq (.pointer (some ⟨w.heap.size, 1, none⟩))) rfl rfl rfl rfl (fun vs wj hJ hd K hK => ?_) ?_
    · simp only [Jo.putl, Jo.ze, Act.put, Jo.za, Jo.zb, Jo.zc] at hK ⊢
      clear hd
      go_simp
      exact hK.out _ _ rfl (Below.refl _ _)
    refine Jo.jd 1 (some 20) [(some 19, 0)] (Jo.Fact.eq (.bool s)) rfl rfl rfl rfl (fun vs wj hJ hd K hK => ?_) ?_
    · simp only [Jo.putl, Jo.zd, Jo.ze, Act.put, Jo.za, Jo.zb, Jo.zc] at hK ⊢
      rw [show vs 0 = _ from hd 0 (by decide)] at hK ⊢
      clear hd
      have xX11 := (X1.below hJ).a 1 (.bool s) rfl
      go_simp
      exact hK.out _ _ rfl (Below.refl _ _)
    refine Jo.jd 2 (some 21) [] (Jo.Fact.eq (.pointer (some ⟨w.heap.size, 2, none⟩))) rfl rfl rfl rfl (fun vs wj hJ hd K hK => ?_) ?_
    · simp only [Jo.putl, Jo.ze, Act.put, Jo.za, Jo.zb, Jo.zc] at hK ⊢
      clear hd
      go_simp
      exact hK.out _ _ rfl (Below.refl _ _)
    refine Jo.jd 3 (some 22) [(some 21, 2)] (Jo.Fact.eq (.int .u64 M)) rfl rfl rfl rfl (fun vs wj hJ hd K hK => ?_) ?_
    · simp only [Jo.putl, Jo.zd, Jo.ze, Act.put, Jo.za, Jo.zb, Jo.zc] at hK ⊢
      rw [show vs 2 = _ from hd 2 (by decide)] at hK ⊢
      clear hd
      have xX12 := (X1.below hJ).a 2 (.int .u64 M) rfl
      go_simp
      exact hK.out _ _ rfl (Below.refl _ _)
    refine Jo.jd 4 (some 23) [(some 22, 3)] (Jo.Fact.rd M.toNat 2) rfl rfl rfl rfl (fun vs wj hJ hd K hK => ?_) ?_
    · simp only [Jo.putl, Jo.zd, Jo.ze, Act.put, Jo.za, Jo.zb, Jo.zc] at hK ⊢
      rw [show vs 3 = _ from hd 3 (by decide)] at hK ⊢
      clear hd
      go_simp
      refine (yLimbs h0 hM).mono ?_
      rintro ee wk ⟨A3, n3, c3, rfl, p3, k3, B⟩
      exact hK.out _ _ ⟨A3, n3, c3, rfl, p3, k3⟩ B
    refine Jo.jd 5 (some 24) [(some 20, 1), (some 23, 4)] (Jo.Fact.wn (sgi s M) 2) rfl rfl rfl rfl (fun vs wj hJ hd K hK => ?_) ?_
    · have d4 : (Jo.Fact.rd M.toNat 2).P (vs 4) wj := hd 4 (by decide)
      simp only [Jo.putl, Jo.zd, Jo.ze, Act.put, Jo.za, Jo.zb, Jo.zc] at hK ⊢
      rw [show vs 1 = _ from hd 1 (by decide)] at hK ⊢
      clear hd
      generalize vs 4 = u4 at hK d4 ⊢
      obtain ⟨A3, n3, c3, rfl, p3, k3⟩ := d4
      go_simp
      refine (qMake s p3).mono ?_
      rintro ee wk ⟨s4, A4, n4, c4, rfl, p4, k4, B⟩
      exact hK.out _ _ ⟨s4, A4, n4, c4, rfl, HS.out ▸ p4, by omega⟩ B
    refine Jo.jd 6 (some 25) [] (Jo.Fact.eq (.pointer (some ⟨w.heap.size, 3, none⟩))) rfl rfl rfl rfl (fun vs wj hJ hd K hK => ?_) ?_
    · simp only [Jo.putl, Jo.ze, Act.put, Jo.za, Jo.zb, Jo.zc] at hK ⊢
      clear hd
      go_simp
      exact hK.out _ _ rfl (Below.refl _ _)
    refine Jo.jd 7 (some 26) [(some 25, 6)] (Jo.Fact.eq (.int .i64 E)) rfl rfl rfl rfl (fun vs wj hJ hd K hK => ?_) ?_
    · simp only [Jo.putl, Jo.zd, Jo.ze, Act.put, Jo.za, Jo.zb, Jo.zc] at hK ⊢
      rw [show vs 6 = _ from hd 6 (by decide)] at hK ⊢
      clear hd
      have xX13 := (X1.below hJ).a 3 (.int .i64 E) rfl
      go_simp
      exact hK.out _ _ rfl (Below.refl _ _)
    refine Jo.jd 8 (some 27) [(some 24, 5), (some 26, 7)] (Jo.Fact.dy N F 2) rfl rfl rfl rfl (fun vs wj hJ hd K hK => ?_) ?_
    · have d5 : (Jo.Fact.wn (sgi s M) 2).P (vs 5) wj := hd 5 (by decide)
      simp only [Jo.putl, Jo.zd, Jo.ze, Act.put, Jo.za, Jo.zb, Jo.zc] at hK ⊢
      rw [show vs 7 = _ from hd 7 (by decide)] at hK ⊢
      clear hd
      generalize vs 5 = u5 at hK d5 ⊢
      obtain ⟨s4, A4, n4, c4, rfl, p4, k4⟩ := d5
      go_simp
      refine (q3Make p4.wr (by omega) HN.out HE.out).mono ?_
      rintro ee wk ⟨s5, A5, n5, c5, rfl, p5, k5, B⟩
      exact hK.out _ _ ⟨s5, A5, n5, c5, rfl, p5, by omega⟩ B
    exact Jo.Steps.nil
  have d4 : (Jo.Fact.rd M.toNat 2).P (vs 4) w3 := hd 4 (by decide)
  have d5 : (Jo.Fact.wn (sgi s M) 2).P (vs 5) w3 := hd 5 (by decide)
  have d8 : (Jo.Fact.dy N F 2).P (vs 8) w3 := hd 8 (by decide)
  simp only [Jo.putl, Jo.zd, Jo.ze, Act.put, Jo.za, Jo.zb, Jo.zc]
  rw [show vs 1 = _ from hd 1 (by decide), show vs 3 = _ from hd 3 (by decide), show vs 7 = _ from hd 7 (by decide)]
  clear hd
  generalize vs 4 = u4 at d4 ⊢
  generalize vs 5 = u5 at d5 ⊢
  generalize vs 8 = u8 at d8 ⊢
  obtain ⟨A3, n3, c3, rfl, _, _⟩ := d4
  obtain ⟨s4, A4, n4, c4, rfl, _, _⟩ := d5
  obtain ⟨s5, A5, n5, c5, rfl, p5, k5⟩ := d8
  replace X1 := X1.below hJ
  replace XR := XR.below hJ
  replace HB := Lib.hid (bt HB.out hJ)
  have xXR0 := XR.a 0 (.bool false) rfl
  have zXR0 := XR.frozen 0
  have xXR1 := XR.a 1 (.slice none 0 0) rfl
  have zXR1 := XR.frozen 1
  have xXR2 := XR.a 2 (.int .i64 0) rfl
  have zXR2 := XR.frozen 2
  refine Jo.jnext (i := 9) (o := ⟨none, _, _, _, _, _⟩) (by kernel_rfl) rfl (fun K hK => ?_)
  go_simp
  refine hK.out _ _ ?_
  clear hK K xXR0 zXR0 xXR1 zXR1 xXR2 zXR2
  have SX := StN.mk3 XR (.bool s5) (.slice A5 n5 c5) (.int .i64 F)
  replace X1 := X1.stn SX (by omega)
  replace p5 := p5.stn SX (by simp [no32])
  replace HB := Lib.hid (SX.below HB.out (by omega))
  replace XR := SX.box
  clear SX
  generalize (World.setCell (World.setCell (World.setCell w3 ⟨w.heap.size + 1, 0, none⟩ (.bool s5)) ⟨w.heap.size + 1, 1, none⟩ (.slice A5 n5 c5)) ⟨w.heap.size + 1, 2, none⟩ (.int .i64 F)) = w4 at *
  refine Jo.jnext (i := 10) (o := ⟨some 3, _, _, _, _, _⟩) (by kernel_rfl) rfl (fun K hK => ?_)
  go_simp
  refine hK.out _ _ ?_
  clear hK K
  refine Jo.jdone (by kernel_rfl) ?_
  go_wp2
  have r0 := XR.cell 0
  have r1 := XR.cell 1
  have r2 := XR.cell 2
  exact bodyPost_ret (v := .tuple #[.agg #[.bool s5, .slice A5 n5 c5, .int .i64 F], .bool true]) (by simp [results, Tryz.results27, go_sem, r0, r1, r2]) rfl ⟨_, _, _, _, rfl, p5, k5, HB.out⟩
theorem yExact0 {w : World} {t : Bool} {D M E : Int} {s : Bool} {N F : Int} (h0 : 0 ≤ M) (hM : M < 18446744073709551616) (hq : exb D s M E = t) (hN : (exq D s M E).1 = N) (hE : (exq D s M E).2 = F) : Calls Tryz.prog 27 #[.agg #[.int .i64 D, .bool s, .int .u64 M, .int .i64 E]] w (PDB w N F t) := by
  unfold exq at hN hE
  rw [hq] at hN hE
  unfold exb at hq
  cases hm : decide (MayQ D s M E)
  · rw [hm, Bool.false_and] at hq
    subst hq
    subst hN
    subst hE
    exact yexact_a hm
  · rw [hm, Bool.true_and] at hq
    by_cases hd : D = 2
    · have e : (D == 2) = true := by simpa using hd
      rw [e] at hq
      subst hq
      subst hN
      subst hE
      exact yexact_b hm hd
    · have e : (D == 2) = false := by simpa using hd
      rw [e] at hq
      obtain rfl : true = t := hq
      rw [if_pos rfl] at hN hE
      by_cases hz : D = 0
      · subst hz
        have e1 : s = false ∧ M = 0 ∧ E = 0 := by
          have := of_decide_eq_true hm
          unfold MayQ at this
          simpa using this
        obtain ⟨rfl, rfl, rfl⟩ := e1
        have e2 : mk (sgi false 0) 0 = (0, 0) := mk_zero 0
        rw [e2] at hN hE
        subst hN
        subst hE
        exact yexact_z hm
      · exact yexact_m h0 hM hm hd hz hN hE
end Go.Proofs.YtpmakljahhhnfaaGreatDoor

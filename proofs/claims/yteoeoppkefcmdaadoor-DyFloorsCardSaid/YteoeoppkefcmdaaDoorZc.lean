/-
  Contracts and words that the statements' proofs rest on, several texts in one: Eg, Eh, Ei, Ej, Ek.
-/
import Derived.Test.YteoeoppkefcmdaaDoorZa
import Derived.Test.YteoeoppkefcmdaaDoorZb
/-
  What dy.plus does: the sum of two numbers in normal form.
-/
namespace Go.Proofs.YteoeoppkefcmdaaDoor
open Go.RowKit
set_option linter.unusedVariables false

set_option maxHeartbeats 2000000 in
theorem dplus_l {w : World} {A B : Option Addr} {n c m d : Nat} {s t : Bool} {N2 E1 E2 : Int} (hT : Tab w) (h : Wn w s A n c 0) (k : Wn w t B m d N2) (hm : m ≤ 100000) (HN : Hid ((mk N2 E2).1 = N2)) (HE : Hid ((mk N2 E2).2 = E2)) :
    Calls Tryd.prog 49 #[.agg #[.bool s, .slice A n c, .int .i64 E1], .agg #[.bool t, .slice B m d, .int .i64 E2]] w (D1 w m N2 E2) := by
  go_enter Tryd.func49, Tryd.ntmps49
  go_upto_region 1 with (fail)
  have X1 := (Bo.newAt w (g := w.heap.size) (by simp) #[.bool s, .slice A n c, .int .i64 E1] 27).below (bel2 _ (.cells #[.bool t, .slice B m d, .int .i64 E2] 27) (.cells #[.bool false, .slice none 0 0, .int .i64 0] 27))
  have X2 := (Bo.newAt (w.alloc (.cells #[.bool s, .slice A n c, .int .i64 E1] 27)) (g := w.heap.size + 1) (by simp) #[.bool t, .slice B m d, .int .i64 E2] 27).below (bel1 _ (.cells #[.bool false, .slice none 0 0, .int .i64 0] 27))
  have XR := (Bo.newAt ((w.alloc (.cells #[.bool s, .slice A n c, .int .i64 E1] 27)).alloc (.cells #[.bool t, .slice B m d, .int .i64 E2] 27)) (g := w.heap.size + 1 + 1) (by simp) #[.bool false, .slice none 0 0, .int .i64 0] 27)
  have HB := Lib.hid (bel3 w (.cells #[.bool s, .slice A n c, .int .i64 E1] 27) (.cells #[.bool t, .slice B m d, .int .i64 E2] 27) (.cells #[.bool false, .slice none 0 0, .int .i64 0] 27))
  replace hT := hT.below HB.out
  replace h := h.below HB.out
  replace k := k.below HB.out
  generalize hW1 : (((w.alloc (.cells #[.bool s, .slice A n c, .int .i64 E1] 27)).alloc (.cells #[.bool t, .slice B m d, .int .i64 E2] 27)).alloc (.cells #[.bool false, .slice none 0 0, .int .i64 0] 27)) = w1 at *
  clear hW1
  have xX10 := X1.at (i := 0) (v := .bool s) rfl
  have xX11 := X1.at (i := 1) (v := .slice A n c) rfl
  have xX12 := X1.at (i := 2) (v := .int .i64 E1) rfl
  go_wp2_with fail
  refine (wSign (r := 0) h.wr (cmpI_eq rfl)).mono ?_
  rintro ee w2 ⟨rfl, B⟩
  clear xX10 xX11 xX12
  replace X1 := X1.below B
  replace X2 := X2.below B
  replace XR := XR.below B
  replace hT := hT.below B
  replace h := h.below B
  replace k := k.below B
  replace HB := Lib.hid (bt HB.out B)
  clear B
  have xX20 := X2.at (i := 0) (v := .bool t) rfl
  have xX21 := X2.at (i := 1) (v := .slice B m d) rfl
  have xX22 := X2.at (i := 2) (v := .int .i64 E2) rfl
  go_wp2_with fail
  refine (dMake hT k.wr (by omega) HN.out HE.out).mono ?_
  rintro ee w4 ⟨s4, A4, n4, c4, rfl, p4, k4, B⟩
  clear xX20 xX21 xX22
  replace X1 := X1.below B
  replace X2 := X2.below B
  replace XR := XR.below B
  replace hT := hT.below B
  replace h := h.below B
  replace k := k.below B
  replace HB := Lib.hid (bt HB.out B)
  clear B
  have xXR0 := XR.at (i := 0) (v := .bool false) rfl
  have zXR0 := XR.frozen 0
  have xXR1 := XR.at (i := 1) (v := .slice none 0 0) rfl
  have zXR1 := XR.frozen 1
  have xXR2 := XR.at (i := 2) (v := .int .i64 0) rfl
  have zXR2 := XR.frozen 2
  go_wp2
  clear xXR0 zXR0 xXR1 zXR1 xXR2 zXR2
  have SX := StN.mk3 XR (.bool s4) (.slice A4 n4 c4) (.int .i64 E2)
  replace X1 := X1.stn SX (by omega)
  replace X2 := X2.stn SX (by omega)
  replace p4 := p4.stn SX (by simp [no32])
  replace HB := Lib.hid (SX.below HB.out (by omega))
  replace XR := SX.box
  clear SX
  generalize (World.setCell (World.setCell (World.setCell w4 ⟨w.heap.size + 1 + 1, 0, none⟩ (.bool s4)) ⟨w.heap.size + 1 + 1, 1, none⟩ (.slice A4 n4 c4)) ⟨w.heap.size + 1 + 1, 2, none⟩ (.int .i64 E2)) = w5 at *
  have r0 := XR.cell 0
  have r1 := XR.cell 1
  have r2 := XR.cell 2
  exact bodyPost_ret (v := .agg #[.bool s4, .slice A4 n4 c4, .int .i64 E2]) (by simp [results, Tryd.results49, go_sem, r0, r1, r2]) rfl ⟨s4, A4, n4, c4, rfl, p4, k4, HB.out⟩

set_option maxHeartbeats 2000000 in
theorem dplus_r {w : World} {A B : Option Addr} {n c m d : Nat} {s t : Bool} {N1 E1 E2 : Int} (hT : Tab w) (h : Wn w s A n c N1) (k : Wn w t B m d 0) (hn : n ≤ 100000) (h1 : N1 ≠ 0) (HN : Hid ((mk N1 E1).1 = N1)) (HE : Hid ((mk N1 E1).2 = E1)) :
    Calls Tryd.prog 49 #[.agg #[.bool s, .slice A n c, .int .i64 E1], .agg #[.bool t, .slice B m d, .int .i64 E2]] w (D1 w n N1 E1) := by
  obtain ⟨σ, hσ⟩ : ∃ x, cmpI N1 0 = x := ⟨_, rfl⟩
  have q1 : (σ == 0) = false := by
    have : σ ≠ 0 := fun e => h1 (cmpI_zero.1 (hσ.trans e))
    simpa using this
  have HS := Lib.hid hσ
  clear hσ h1
  go_enter Tryd.func49, Tryd.ntmps49
  go_upto_region 1 with (fail)
  have X1 := (Bo.newAt w (g := w.heap.size) (by simp) #[.bool s, .slice A n c, .int .i64 E1] 27).below (bel2 _ (.cells #[.bool t, .slice B m d, .int .i64 E2] 27) (.cells #[.bool false, .slice none 0 0, .int .i64 0] 27))
  have X2 := (Bo.newAt (w.alloc (.cells #[.bool s, .slice A n c, .int .i64 E1] 27)) (g := w.heap.size + 1) (by simp) #[.bool t, .slice B m d, .int .i64 E2] 27).below (bel1 _ (.cells #[.bool false, .slice none 0 0, .int .i64 0] 27))
  have XR := (Bo.newAt ((w.alloc (.cells #[.bool s, .slice A n c, .int .i64 E1] 27)).alloc (.cells #[.bool t, .slice B m d, .int .i64 E2] 27)) (g := w.heap.size + 1 + 1) (by simp) #[.bool false, .slice none 0 0, .int .i64 0] 27)
  have HB := Lib.hid (bel3 w (.cells #[.bool s, .slice A n c, .int .i64 E1] 27) (.cells #[.bool t, .slice B m d, .int .i64 E2] 27) (.cells #[.bool false, .slice none 0 0, .int .i64 0] 27))
  replace hT := hT.below HB.out
  replace h := h.below HB.out
  replace k := k.below HB.out
  generalize hW1 : (((w.alloc (.cells #[.bool s, .slice A n c, .int .i64 E1] 27)).alloc (.cells #[.bool t, .slice B m d, .int .i64 E2] 27)).alloc (.cells #[.bool false, .slice none 0 0, .int .i64 0] 27)) = w1 at *
  clear hW1
  have xX10 := X1.at (i := 0) (v := .bool s) rfl
  have xX11 := X1.at (i := 1) (v := .slice A n c) rfl
  have xX12 := X1.at (i := 2) (v := .int .i64 E1) rfl
  go_wp2_with fail
  refine (wSign h.wr HS.out).mono ?_
  rintro ee w2 ⟨rfl, B⟩
  clear xX10 xX11 xX12
  replace X1 := X1.below B
  replace X2 := X2.below B
  replace XR := XR.below B
  replace hT := hT.below B
  replace h := h.below B
  replace k := k.below B
  replace HB := Lib.hid (bt HB.out B)
  clear B
  have xX20 := X2.at (i := 0) (v := .bool t) rfl
  have xX21 := X2.at (i := 1) (v := .slice B m d) rfl
  have xX22 := X2.at (i := 2) (v := .int .i64 E2) rfl
  go_wp2_with fail
  refine (wSign (r := 0) k.wr (cmpI_eq rfl)).mono ?_
  rintro ee w3 ⟨rfl, B⟩
  clear xX20 xX21 xX22
  replace X1 := X1.below B
  replace X2 := X2.below B
  replace XR := XR.below B
  replace hT := hT.below B
  replace h := h.below B
  replace k := k.below B
  replace HB := Lib.hid (bt HB.out B)
  clear B
  have xX10 := X1.at (i := 0) (v := .bool s) rfl
  have xX11 := X1.at (i := 1) (v := .slice A n c) rfl
  have xX12 := X1.at (i := 2) (v := .int .i64 E1) rfl
  go_wp2_with fail
  refine (dMake hT h.wr (by omega) HN.out HE.out).mono ?_
  rintro ee w4 ⟨s4, A4, n4, c4, rfl, p4, k4, B⟩
  clear xX10 xX11 xX12
  replace X1 := X1.below B
  replace X2 := X2.below B
  replace XR := XR.below B
  replace hT := hT.below B
  replace h := h.below B
  replace k := k.below B
  replace HB := Lib.hid (bt HB.out B)
  clear B
  have xXR0 := XR.at (i := 0) (v := .bool false) rfl
  have zXR0 := XR.frozen 0
  have xXR1 := XR.at (i := 1) (v := .slice none 0 0) rfl
  have zXR1 := XR.frozen 1
  have xXR2 := XR.at (i := 2) (v := .int .i64 0) rfl
  have zXR2 := XR.frozen 2
  go_wp2
  clear xXR0 zXR0 xXR1 zXR1 xXR2 zXR2
  have SX := StN.mk3 XR (.bool s4) (.slice A4 n4 c4) (.int .i64 E1)
  replace X1 := X1.stn SX (by omega)
  replace X2 := X2.stn SX (by omega)
  replace p4 := p4.stn SX (by simp [no32])
  replace HB := Lib.hid (SX.below HB.out (by omega))
  replace XR := SX.box
  clear SX
  generalize (World.setCell (World.setCell (World.setCell w4 ⟨w.heap.size + 1 + 1, 0, none⟩ (.bool s4)) ⟨w.heap.size + 1 + 1, 1, none⟩ (.slice A4 n4 c4)) ⟨w.heap.size + 1 + 1, 2, none⟩ (.int .i64 E1)) = w5 at *
  have r0 := XR.cell 0
  have r1 := XR.cell 1
  have r2 := XR.cell 2
  exact bodyPost_ret (v := .agg #[.bool s4, .slice A4 n4 c4, .int .i64 E1]) (by simp [results, Tryd.results49, go_sem, r0, r1, r2]) rfl ⟨s4, A4, n4, c4, rfl, p4, k4, HB.out⟩

set_option maxHeartbeats 4000000 in
theorem dplus_up {w : World} {A B : Option Addr} {n c m d : Nat} {s t : Bool} {N1 N2 E1 E2 N E : Int} (hT : Tab w) (h : Wn w s A n c N1) (k : Wn w t B m d N2) (hn : n ≤ 20000) (hm : m ≤ 20000) (h1 : N1 ≠ 0) (h2 : N2 ≠ 0) (hle : E1 ≤ E2) (hf1 : E1 - E2 ≤ 640000) (hf2 : E2 - E1 ≤ 640000)
    (HN : Hid ((mk (N1 * ((2 ^ (E1 - E1).toNat : Nat) : Int) + N2 * ((2 ^ (E2 - E1).toNat : Nat) : Int)) E1).1 = N)) (HE : Hid ((mk (N1 * ((2 ^ (E1 - E1).toNat : Nat) : Int) + N2 * ((2 ^ (E2 - E1).toNat : Nat) : Int)) E1).2 = E)) :
    Calls Tryd.prog 49 #[.agg #[.bool s, .slice A n c, .int .i64 E1], .agg #[.bool t, .slice B m d, .int .i64 E2]] w (D1 w (n + m + 20010) N E) := by
  obtain ⟨σ, hσ⟩ : ∃ x, cmpI N1 0 = x := ⟨_, rfl⟩
  have q1 : (σ == 0) = false := by
    have : σ ≠ 0 := fun e => h1 (cmpI_zero.1 (hσ.trans e))
    simpa using this
  have HS := Lib.hid hσ
  obtain ⟨τ, hτ⟩ : ∃ x, cmpI N2 0 = x := ⟨_, rfl⟩
  have q2 : (τ == 0) = false := by
    have : τ ≠ 0 := fun e => h2 (cmpI_zero.1 (hτ.trans e))
    simpa using this
  have HS2 := Lib.hid hτ
  clear hσ hτ h1 h2
  have lt : decide (E2 < E1) = false := by simp; omega
  have HL := Lib.hid lt
  clear lt
  go_enter Tryd.func49, Tryd.ntmps49
  go_upto_region 1 with (fail)
  have X1 := (Bo.newAt w (g := w.heap.size) (by simp) #[.bool s, .slice A n c, .int .i64 E1] 27).below (bel2 _ (.cells #[.bool t, .slice B m d, .int .i64 E2] 27) (.cells #[.bool false, .slice none 0 0, .int .i64 0] 27))
  have X2 := (Bo.newAt (w.alloc (.cells #[.bool s, .slice A n c, .int .i64 E1] 27)) (g := w.heap.size + 1) (by simp) #[.bool t, .slice B m d, .int .i64 E2] 27).below (bel1 _ (.cells #[.bool false, .slice none 0 0, .int .i64 0] 27))
  have XR := (Bo.newAt ((w.alloc (.cells #[.bool s, .slice A n c, .int .i64 E1] 27)).alloc (.cells #[.bool t, .slice B m d, .int .i64 E2] 27)) (g := w.heap.size + 1 + 1) (by simp) #[.bool false, .slice none 0 0, .int .i64 0] 27)
  have HB := Lib.hid (bel3 w (.cells #[.bool s, .slice A n c, .int .i64 E1] 27) (.cells #[.bool t, .slice B m d, .int .i64 E2] 27) (.cells #[.bool false, .slice none 0 0, .int .i64 0] 27))
  replace hT := hT.below HB.out
  replace h := h.below HB.out
  replace k := k.below HB.out
  generalize hW1 : (((w.alloc (.cells #[.bool s, .slice A n c, .int .i64 E1] 27)).alloc (.cells #[.bool t, .slice B m d, .int .i64 E2] 27)).alloc (.cells #[.bool false, .slice none 0 0, .int .i64 0] 27)) = w1 at *
  clear hW1
  have xX10 := X1.at (i := 0) (v := .bool s) rfl
  have xX11 := X1.at (i := 1) (v := .slice A n c) rfl
  have xX12 := X1.at (i := 2) (v := .int .i64 E1) rfl
  go_wp2_with fail
  refine (wSign h.wr HS.out).mono ?_
  rintro ee w2 ⟨rfl, B⟩
  clear xX10 xX11 xX12
  replace X1 := X1.below B
  replace X2 := X2.below B
  replace XR := XR.below B
  replace hT := hT.below B
  replace h := h.below B
  replace k := k.below B
  replace HB := Lib.hid (bt HB.out B)
  clear B
  have xX20 := X2.at (i := 0) (v := .bool t) rfl
  have xX21 := X2.at (i := 1) (v := .slice B m d) rfl
  have xX22 := X2.at (i := 2) (v := .int .i64 E2) rfl
  go_wp2_with fail
  refine (wSign k.wr HS2.out).mono ?_
  rintro ee w3 ⟨rfl, B⟩
  clear xX20 xX21 xX22
  replace X1 := X1.below B
  replace X2 := X2.below B
  replace XR := XR.below B
  replace hT := hT.below B
  replace h := h.below B
  replace k := k.below B
  replace HB := Lib.hid (bt HB.out B)
  clear B
  have xX10 := X1.at (i := 0) (v := .bool s) rfl
  have xX11 := X1.at (i := 1) (v := .slice A n c) rfl
  have xX12 := X1.at (i := 2) (v := .int .i64 E1) rfl
  have xX20 := X2.at (i := 0) (v := .bool t) rfl
  have xX21 := X2.at (i := 1) (v := .slice B m d) rfl
  have xX22 := X2.at (i := 2) (v := .int .i64 E2) rfl
  go_upto_region 6 with (fail)
  clear xX10 xX11 xX12 xX20 xX21 xX22
  refine Jo.region_joint (T := [0, 1, 2, 3, 4, 5, 6, 7, 8]) (ds := [some 29, some 30, some 31, some 32, some 33, some 34, some 35, some 36, some 37, none]) (ls := [[], [], [0, 1], [], [], [3, 4], [2, 5], [], [6, 7], []]) (k := 10) (L := [(some 29, 0), (some 30, 1), (some 31, 2), (some 32, 3), (some 33, 4), (some 34, 5), (some 35, 6), (some 36, 7), (some 37, 8)]) (fuel := 1) (J := fun wj => Below (World.heap w3).size w3 wj)
    (F := [Jo.Fact.eq (.agg #[.bool s, .slice A n c, .int .i64 E1]), Jo.Fact.eq (.int .i64 E1), Jo.Fact.wn (N1 * ((2 ^ (E1 - E1).toNat : Nat) : Int)) (n + (E1 - E1).toNat / 32 + 1), Jo.Fact.eq (.agg #[.bool t, .slice B m d, .int .i64 E2]), Jo.Fact.eq (.int .i64 E1), Jo.Fact.wn (N2 * ((2 ^ (E2 - E1).toNat : Nat) : Int)) (m + (E2 - E1).toNat / 32 + 1), Jo.Fact.wn (N1 * ((2 ^ (E1 - E1).toNat : Nat) : Int) + N2 * ((2 ^ (E2 - E1).toNat : Nat) : Int)) (n + m + 20010), Jo.Fact.eq (.int .i64 E1), Jo.Fact.dy N E (n + m + 20010), Jo.Fact.any])
    (by kernel_rfl) (by kernel_rfl) (by decide) rfl rfl (fun _ _ h b => bt h b) ((Below.refl _ _).drew) ?_ (fun vs w4 hJ hd => ?_)
  · refine Jo.jcons (i := 0) (o := ⟨some 29, _, _, _, _, _⟩) (di := some 29) (L := []) (f := Jo.Fact.eq (.agg #[.bool s, .slice A n c, .int .i64 E1])) rfl rfl rfl rfl (fun vs wj hJ hd K hK => ?_) ?_
    · clear hd
      simp only [Jo.putl, List.foldl_nil, Act.put, List.setIfInBounds_toArray, List.set_cons_zero, List.set_cons_succ] at hK ⊢
      have xX10 : World.cell? wj ⟨w.heap.size, 0, none⟩ = some (.bool s) := (X1.below hJ).cell 0
      have xX11 : World.cell? wj ⟨w.heap.size, 1, none⟩ = some (.slice A n c) := (X1.below hJ).cell 1
      have xX12 : World.cell? wj ⟨w.heap.size, 2, none⟩ = some (.int .i64 E1) := (X1.below hJ).cell 2
      go_simp
      exact hK.out _ _ rfl (Below.refl _ _)
    refine Jo.jcons (i := 1) (o := ⟨some 30, _, _, _, _, _⟩) (di := some 30) (L := []) (f := Jo.Fact.eq (.int .i64 E1)) rfl rfl rfl rfl (fun vs wj hJ hd K hK => ?_) ?_
    · clear hd
      simp only [Jo.putl, List.foldl_nil, Act.put, List.setIfInBounds_toArray, List.set_cons_zero, List.set_cons_succ] at hK ⊢
      go_simp
      exact hK.out _ _ rfl (Below.refl _ _)
    refine Jo.jcons (i := 2) (o := ⟨some 31, _, _, _, _, _⟩) (di := some 31) (L := [(some 29, 0), (some 30, 1)]) (f := Jo.Fact.wn (N1 * ((2 ^ (E1 - E1).toNat : Nat) : Int)) (n + (E1 - E1).toNat / 32 + 1)) rfl rfl rfl rfl (fun vs wj hJ hd K hK => ?_) ?_
    · have d0 : (Jo.Fact.eq (.agg #[.bool s, .slice A n c, .int .i64 E1])).P (vs 0) wj := hd 0 (by decide)
      have d1 : (Jo.Fact.eq (.int .i64 E1)).P (vs 1) wj := hd 1 (by decide)
      clear hd
      simp only [Jo.putl, List.foldl_cons, List.foldl_nil, Act.put, List.setIfInBounds_toArray, List.set_cons_zero, List.set_cons_succ] at hK ⊢
      generalize vs 0 = u0 at hK d0 ⊢
      generalize vs 1 = u1 at hK d1 ⊢
      replace d0 : u0 = _ := d0
      subst d0
      replace d1 : u1 = _ := d1
      subst d1
      go_simp
      refine (dTimes (h.below hJ) (by omega) (by omega) (by omega) rfl).mono ?_
      rintro ee wk ⟨s5, A5, n5, c5, rfl, p5, k5, B⟩
      exact hK.out _ _ ⟨s5, A5, n5, c5, rfl, p5, k5⟩ B
    refine Jo.jcons (i := 3) (o := ⟨some 32, _, _, _, _, _⟩) (di := some 32) (L := []) (f := Jo.Fact.eq (.agg #[.bool t, .slice B m d, .int .i64 E2])) rfl rfl rfl rfl (fun vs wj hJ hd K hK => ?_) ?_
    · clear hd
      simp only [Jo.putl, List.foldl_nil, Act.put, List.setIfInBounds_toArray, List.set_cons_zero, List.set_cons_succ] at hK ⊢
      have xX20 : World.cell? wj ⟨w.heap.size + 1, 0, none⟩ = some (.bool t) := (X2.below hJ).cell 0
      have xX21 : World.cell? wj ⟨w.heap.size + 1, 1, none⟩ = some (.slice B m d) := (X2.below hJ).cell 1
      have xX22 : World.cell? wj ⟨w.heap.size + 1, 2, none⟩ = some (.int .i64 E2) := (X2.below hJ).cell 2
      go_simp
      exact hK.out _ _ rfl (Below.refl _ _)
    refine Jo.jcons (i := 4) (o := ⟨some 33, _, _, _, _, _⟩) (di := some 33) (L := []) (f := Jo.Fact.eq (.int .i64 E1)) rfl rfl rfl rfl (fun vs wj hJ hd K hK => ?_) ?_
    · clear hd
      simp only [Jo.putl, List.foldl_nil, Act.put, List.setIfInBounds_toArray, List.set_cons_zero, List.set_cons_succ] at hK ⊢
      go_simp
      exact hK.out _ _ rfl (Below.refl _ _)
    refine Jo.jcons (i := 5) (o := ⟨some 34, _, _, _, _, _⟩) (di := some 34) (L := [(some 32, 3), (some 33, 4)]) (f := Jo.Fact.wn (N2 * ((2 ^ (E2 - E1).toNat : Nat) : Int)) (m + (E2 - E1).toNat / 32 + 1)) rfl rfl rfl rfl (fun vs wj hJ hd K hK => ?_) ?_
    · have d3 : (Jo.Fact.eq (.agg #[.bool t, .slice B m d, .int .i64 E2])).P (vs 3) wj := hd 3 (by decide)
      have d4 : (Jo.Fact.eq (.int .i64 E1)).P (vs 4) wj := hd 4 (by decide)
      clear hd
      simp only [Jo.putl, List.foldl_cons, List.foldl_nil, Act.put, List.setIfInBounds_toArray, List.set_cons_zero, List.set_cons_succ] at hK ⊢
      generalize vs 3 = u3 at hK d3 ⊢
      generalize vs 4 = u4 at hK d4 ⊢
      replace d3 : u3 = _ := d3
      subst d3
      replace d4 : u4 = _ := d4
      subst d4
      go_simp
      refine (dTimes (k.below hJ) (by omega) (by omega) (by omega) rfl).mono ?_
      rintro ee wk ⟨s6, A6, n6, c6, rfl, p6, k6, B⟩
      exact hK.out _ _ ⟨s6, A6, n6, c6, rfl, p6, k6⟩ B
    refine Jo.jcons (i := 6) (o := ⟨some 35, _, _, _, _, _⟩) (di := some 35) (L := [(some 31, 2), (some 34, 5)]) (f := Jo.Fact.wn (N1 * ((2 ^ (E1 - E1).toNat : Nat) : Int) + N2 * ((2 ^ (E2 - E1).toNat : Nat) : Int)) (n + m + 20010)) rfl rfl rfl rfl (fun vs wj hJ hd K hK => ?_) ?_
    · have d2 : (Jo.Fact.wn (N1 * ((2 ^ (E1 - E1).toNat : Nat) : Int)) (n + (E1 - E1).toNat / 32 + 1)).P (vs 2) wj := hd 2 (by decide)
      have d5 : (Jo.Fact.wn (N2 * ((2 ^ (E2 - E1).toNat : Nat) : Int)) (m + (E2 - E1).toNat / 32 + 1)).P (vs 5) wj := hd 5 (by decide)
      clear hd
      simp only [Jo.putl, List.foldl_cons, List.foldl_nil, Act.put, List.setIfInBounds_toArray, List.set_cons_zero, List.set_cons_succ] at hK ⊢
      generalize vs 2 = u2 at hK d2 ⊢
      generalize vs 5 = u5 at hK d5 ⊢
      obtain ⟨s5, A5, n5, c5, rfl, p5, k5⟩ := d2
      obtain ⟨s6, A6, n6, c6, rfl, p6, k6⟩ := d5
      go_simp
      refine (wAdd p5.wr p6.wr (by omega) (by omega) rfl).mono ?_
      rintro ee wk ⟨s7, A7, n7, c7, rfl, p7, k7, B⟩
      exact hK.out _ _ ⟨s7, A7, n7, c7, rfl, p7, by omega⟩ B
    refine Jo.jcons (i := 7) (o := ⟨some 36, _, _, _, _, _⟩) (di := some 36) (L := []) (f := Jo.Fact.eq (.int .i64 E1)) rfl rfl rfl rfl (fun vs wj hJ hd K hK => ?_) ?_
    · clear hd
      simp only [Jo.putl, List.foldl_nil, Act.put, List.setIfInBounds_toArray, List.set_cons_zero, List.set_cons_succ] at hK ⊢
      go_simp
      exact hK.out _ _ rfl (Below.refl _ _)
    refine Jo.jcons (i := 8) (o := ⟨some 37, _, _, _, _, _⟩) (di := some 37) (L := [(some 35, 6), (some 36, 7)]) (f := Jo.Fact.dy N E (n + m + 20010)) rfl rfl rfl rfl (fun vs wj hJ hd K hK => ?_) ?_
    · have d6 : (Jo.Fact.wn (N1 * ((2 ^ (E1 - E1).toNat : Nat) : Int) + N2 * ((2 ^ (E2 - E1).toNat : Nat) : Int)) (n + m + 20010)).P (vs 6) wj := hd 6 (by decide)
      have d7 : (Jo.Fact.eq (.int .i64 E1)).P (vs 7) wj := hd 7 (by decide)
      clear hd
      simp only [Jo.putl, List.foldl_cons, List.foldl_nil, Act.put, List.setIfInBounds_toArray, List.set_cons_zero, List.set_cons_succ] at hK ⊢
      generalize vs 6 = u6 at hK d6 ⊢
      generalize vs 7 = u7 at hK d7 ⊢
      obtain ⟨s7, A7, n7, c7, rfl, p7, k7⟩ := d6
      replace d7 : u7 = _ := d7
      subst d7
      go_simp
      refine (dMake (hT.below hJ) p7.wr (by omega) HN.out HE.out).mono ?_
      rintro ee wk ⟨s4, A4, n4, c4, rfl, p4, k4, B⟩
      exact hK.out _ _ ⟨s4, A4, n4, c4, rfl, p4, Nat.le_trans k4 k7⟩ B
    exact Jo.Steps.nil
  have d0 : (Jo.Fact.eq (.agg #[.bool s, .slice A n c, .int .i64 E1])).P (vs 0) w4 := hd 0 (by decide)
  have d1 : (Jo.Fact.eq (.int .i64 E1)).P (vs 1) w4 := hd 1 (by decide)
  have d2 : (Jo.Fact.wn (N1 * ((2 ^ (E1 - E1).toNat : Nat) : Int)) (n + (E1 - E1).toNat / 32 + 1)).P (vs 2) w4 := hd 2 (by decide)
  have d3 : (Jo.Fact.eq (.agg #[.bool t, .slice B m d, .int .i64 E2])).P (vs 3) w4 := hd 3 (by decide)
  have d4 : (Jo.Fact.eq (.int .i64 E1)).P (vs 4) w4 := hd 4 (by decide)
  have d5 : (Jo.Fact.wn (N2 * ((2 ^ (E2 - E1).toNat : Nat) : Int)) (m + (E2 - E1).toNat / 32 + 1)).P (vs 5) w4 := hd 5 (by decide)
  have d6 : (Jo.Fact.wn (N1 * ((2 ^ (E1 - E1).toNat : Nat) : Int) + N2 * ((2 ^ (E2 - E1).toNat : Nat) : Int)) (n + m + 20010)).P (vs 6) w4 := hd 6 (by decide)
  have d7 : (Jo.Fact.eq (.int .i64 E1)).P (vs 7) w4 := hd 7 (by decide)
  have d8 : (Jo.Fact.dy N E (n + m + 20010)).P (vs 8) w4 := hd 8 (by decide)
  clear hd
  simp only [Jo.putl, List.foldl_cons, List.foldl_nil, Act.put, List.setIfInBounds_toArray, List.set_cons_zero, List.set_cons_succ]
  generalize vs 0 = u0 at d0 ⊢
  generalize vs 1 = u1 at d1 ⊢
  generalize vs 2 = u2 at d2 ⊢
  generalize vs 3 = u3 at d3 ⊢
  generalize vs 4 = u4 at d4 ⊢
  generalize vs 5 = u5 at d5 ⊢
  generalize vs 6 = u6 at d6 ⊢
  generalize vs 7 = u7 at d7 ⊢
  generalize vs 8 = u8 at d8 ⊢
  clear vs
  replace d0 : u0 = _ := d0
  subst d0
  replace d1 : u1 = _ := d1
  subst d1
  obtain ⟨s5, A5, n5, c5, rfl, _, _⟩ := d2
  replace d3 : u3 = _ := d3
  subst d3
  replace d4 : u4 = _ := d4
  subst d4
  obtain ⟨s6, A6, n6, c6, rfl, _, _⟩ := d5
  obtain ⟨s7, A7, n7, c7, rfl, _, _⟩ := d6
  replace d7 : u7 = _ := d7
  subst d7
  obtain ⟨s4, A4, n4, c4, rfl, p4, k4⟩ := d8
  replace X1 := X1.below hJ
  replace X2 := X2.below hJ
  replace XR := XR.below hJ
  replace hT := hT.below hJ
  replace h := h.below hJ
  replace k := k.below hJ
  replace HB := Lib.hid (bt HB.out hJ)
  have xXR0 := XR.at (i := 0) (v := .bool false) rfl
  have zXR0 := XR.frozen 0
  have xXR1 := XR.at (i := 1) (v := .slice none 0 0) rfl
  have zXR1 := XR.frozen 1
  have xXR2 := XR.at (i := 2) (v := .int .i64 0) rfl
  have zXR2 := XR.frozen 2
  refine Jo.jnext (i := 9) (o := ⟨none, _, _, _, _, _⟩) (by kernel_rfl) rfl (fun K hK => ?_)
  go_simp
  refine hK.out _ _ ?_
  clear hK K xXR0 zXR0 xXR1 zXR1 xXR2 zXR2
  have SX := StN.mk3 XR (.bool s4) (.slice A4 n4 c4) (.int .i64 E)
  replace X1 := X1.stn SX (by omega)
  replace X2 := X2.stn SX (by omega)
  replace p4 := p4.stn SX (by simp [no32])
  replace HB := Lib.hid (SX.below HB.out (by omega))
  replace XR := SX.box
  clear SX
  generalize (World.setCell (World.setCell (World.setCell w4 ⟨w.heap.size + 1 + 1, 0, none⟩ (.bool s4)) ⟨w.heap.size + 1 + 1, 1, none⟩ (.slice A4 n4 c4)) ⟨w.heap.size + 1 + 1, 2, none⟩ (.int .i64 E)) = w5 at *
  refine Jo.jdone (by kernel_rfl) ?_
  go_wp2
  have r0 := XR.cell 0
  have r1 := XR.cell 1
  have r2 := XR.cell 2
  exact bodyPost_ret (v := .agg #[.bool s4, .slice A4 n4 c4, .int .i64 E]) (by simp [results, Tryd.results49, go_sem, r0, r1, r2]) rfl ⟨s4, A4, n4, c4, rfl, p4, k4, HB.out⟩

set_option maxHeartbeats 4000000 in
theorem dplus_dn {w : World} {A B : Option Addr} {n c m d : Nat} {s t : Bool} {N1 N2 E1 E2 N E : Int} (hT : Tab w) (h : Wn w s A n c N1) (k : Wn w t B m d N2) (hn : n ≤ 20000) (hm : m ≤ 20000) (h1 : N1 ≠ 0) (h2 : N2 ≠ 0) (hle : E2 < E1) (hf1 : E1 - E2 ≤ 640000) (hf2 : E2 - E1 ≤ 640000)
    (HN : Hid ((mk (N1 * ((2 ^ (E1 - E2).toNat : Nat) : Int) + N2 * ((2 ^ (E2 - E2).toNat : Nat) : Int)) E2).1 = N)) (HE : Hid ((mk (N1 * ((2 ^ (E1 - E2).toNat : Nat) : Int) + N2 * ((2 ^ (E2 - E2).toNat : Nat) : Int)) E2).2 = E)) :
    Calls Tryd.prog 49 #[.agg #[.bool s, .slice A n c, .int .i64 E1], .agg #[.bool t, .slice B m d, .int .i64 E2]] w (D1 w (n + m + 20010) N E) := by
  obtain ⟨σ, hσ⟩ : ∃ x, cmpI N1 0 = x := ⟨_, rfl⟩
  have q1 : (σ == 0) = false := by
    have : σ ≠ 0 := fun e => h1 (cmpI_zero.1 (hσ.trans e))
    simpa using this
  have HS := Lib.hid hσ
  obtain ⟨τ, hτ⟩ : ∃ x, cmpI N2 0 = x := ⟨_, rfl⟩
  have q2 : (τ == 0) = false := by
    have : τ ≠ 0 := fun e => h2 (cmpI_zero.1 (hτ.trans e))
    simpa using this
  have HS2 := Lib.hid hτ
  clear hσ hτ h1 h2
  have lt : decide (E2 < E1) = true := by simp; omega
  have HL := Lib.hid lt
  clear lt
  go_enter Tryd.func49, Tryd.ntmps49
  go_upto_region 1 with (fail)
  have X1 := (Bo.newAt w (g := w.heap.size) (by simp) #[.bool s, .slice A n c, .int .i64 E1] 27).below (bel2 _ (.cells #[.bool t, .slice B m d, .int .i64 E2] 27) (.cells #[.bool false, .slice none 0 0, .int .i64 0] 27))
  have X2 := (Bo.newAt (w.alloc (.cells #[.bool s, .slice A n c, .int .i64 E1] 27)) (g := w.heap.size + 1) (by simp) #[.bool t, .slice B m d, .int .i64 E2] 27).below (bel1 _ (.cells #[.bool false, .slice none 0 0, .int .i64 0] 27))
  have XR := (Bo.newAt ((w.alloc (.cells #[.bool s, .slice A n c, .int .i64 E1] 27)).alloc (.cells #[.bool t, .slice B m d, .int .i64 E2] 27)) (g := w.heap.size + 1 + 1) (by simp) #[.bool false, .slice none 0 0, .int .i64 0] 27)
  have HB := Lib.hid (bel3 w (.cells #[.bool s, .slice A n c, .int .i64 E1] 27) (.cells #[.bool t, .slice B m d, .int .i64 E2] 27) (.cells #[.bool false, .slice none 0 0, .int .i64 0] 27))
  replace hT := hT.below HB.out
  replace h := h.below HB.out
  replace k := k.below HB.out
  generalize hW1 : (((w.alloc (.cells #[.bool s, .slice A n c, .int .i64 E1] 27)).alloc (.cells #[.bool t, .slice B m d, .int .i64 E2] 27)).alloc (.cells #[.bool false, .slice none 0 0, .int .i64 0] 27)) = w1 at *
  clear hW1
  have xX10 := X1.at (i := 0) (v := .bool s) rfl
  have xX11 := X1.at (i := 1) (v := .slice A n c) rfl
  have xX12 := X1.at (i := 2) (v := .int .i64 E1) rfl
  go_wp2_with fail
  refine (wSign h.wr HS.out).mono ?_
  rintro ee w2 ⟨rfl, B⟩
  clear xX10 xX11 xX12
  replace X1 := X1.below B
  replace X2 := X2.below B
  replace XR := XR.below B
  replace hT := hT.below B
  replace h := h.below B
  replace k := k.below B
  replace HB := Lib.hid (bt HB.out B)
  clear B
  have xX20 := X2.at (i := 0) (v := .bool t) rfl
  have xX21 := X2.at (i := 1) (v := .slice B m d) rfl
  have xX22 := X2.at (i := 2) (v := .int .i64 E2) rfl
  go_wp2_with fail
  refine (wSign k.wr HS2.out).mono ?_
  rintro ee w3 ⟨rfl, B⟩
  clear xX20 xX21 xX22
  replace X1 := X1.below B
  replace X2 := X2.below B
  replace XR := XR.below B
  replace hT := hT.below B
  replace h := h.below B
  replace k := k.below B
  replace HB := Lib.hid (bt HB.out B)
  clear B
  have xX10 := X1.at (i := 0) (v := .bool s) rfl
  have xX11 := X1.at (i := 1) (v := .slice A n c) rfl
  have xX12 := X1.at (i := 2) (v := .int .i64 E1) rfl
  have xX20 := X2.at (i := 0) (v := .bool t) rfl
  have xX21 := X2.at (i := 1) (v := .slice B m d) rfl
  have xX22 := X2.at (i := 2) (v := .int .i64 E2) rfl
  go_upto_region 6 with (fail)
  clear xX10 xX11 xX12 xX20 xX21 xX22
  refine Jo.region_joint (T := [0, 1, 2, 3, 4, 5, 6, 7, 8]) (ds := [some 29, some 30, some 31, some 32, some 33, some 34, some 35, some 36, some 37, none]) (ls := [[], [], [0, 1], [], [], [3, 4], [2, 5], [], [6, 7], []]) (k := 10) (L := [(some 29, 0), (some 30, 1), (some 31, 2), (some 32, 3), (some 33, 4), (some 34, 5), (some 35, 6), (some 36, 7), (some 37, 8)]) (fuel := 1) (J := fun wj => Below (World.heap w3).size w3 wj)
    (F := [Jo.Fact.eq (.agg #[.bool s, .slice A n c, .int .i64 E1]), Jo.Fact.eq (.int .i64 E2), Jo.Fact.wn (N1 * ((2 ^ (E1 - E2).toNat : Nat) : Int)) (n + (E1 - E2).toNat / 32 + 1), Jo.Fact.eq (.agg #[.bool t, .slice B m d, .int .i64 E2]), Jo.Fact.eq (.int .i64 E2), Jo.Fact.wn (N2 * ((2 ^ (E2 - E2).toNat : Nat) : Int)) (m + (E2 - E2).toNat / 32 + 1), Jo.Fact.wn (N1 * ((2 ^ (E1 - E2).toNat : Nat) : Int) + N2 * ((2 ^ (E2 - E2).toNat : Nat) : Int)) (n + m + 20010), Jo.Fact.eq (.int .i64 E2), Jo.Fact.dy N E (n + m + 20010), Jo.Fact.any])
    (by kernel_rfl) (by kernel_rfl) (by decide) rfl rfl (fun _ _ h b => bt h b) ((Below.refl _ _).drew) ?_ (fun vs w4 hJ hd => ?_)
  · refine Jo.jcons (i := 0) (o := ⟨some 29, _, _, _, _, _⟩) (di := some 29) (L := []) (f := Jo.Fact.eq (.agg #[.bool s, .slice A n c, .int .i64 E1])) rfl rfl rfl rfl (fun vs wj hJ hd K hK => ?_) ?_
    · clear hd
      simp only [Jo.putl, List.foldl_nil, Act.put, List.setIfInBounds_toArray, List.set_cons_zero, List.set_cons_succ] at hK ⊢
      have xX10 : World.cell? wj ⟨w.heap.size, 0, none⟩ = some (.bool s) := (X1.below hJ).cell 0
      have xX11 : World.cell? wj ⟨w.heap.size, 1, none⟩ = some (.slice A n c) := (X1.below hJ).cell 1
      have xX12 : World.cell? wj ⟨w.heap.size, 2, none⟩ = some (.int .i64 E1) := (X1.below hJ).cell 2
      go_simp
      exact hK.out _ _ rfl (Below.refl _ _)
    refine Jo.jcons (i := 1) (o := ⟨some 30, _, _, _, _, _⟩) (di := some 30) (L := []) (f := Jo.Fact.eq (.int .i64 E2)) rfl rfl rfl rfl (fun vs wj hJ hd K hK => ?_) ?_
    · clear hd
      simp only [Jo.putl, List.foldl_nil, Act.put, List.setIfInBounds_toArray, List.set_cons_zero, List.set_cons_succ] at hK ⊢
      go_simp
      exact hK.out _ _ rfl (Below.refl _ _)
    refine Jo.jcons (i := 2) (o := ⟨some 31, _, _, _, _, _⟩) (di := some 31) (L := [(some 29, 0), (some 30, 1)]) (f := Jo.Fact.wn (N1 * ((2 ^ (E1 - E2).toNat : Nat) : Int)) (n + (E1 - E2).toNat / 32 + 1)) rfl rfl rfl rfl (fun vs wj hJ hd K hK => ?_) ?_
    · have d0 : (Jo.Fact.eq (.agg #[.bool s, .slice A n c, .int .i64 E1])).P (vs 0) wj := hd 0 (by decide)
      have d1 : (Jo.Fact.eq (.int .i64 E2)).P (vs 1) wj := hd 1 (by decide)
      clear hd
      simp only [Jo.putl, List.foldl_cons, List.foldl_nil, Act.put, List.setIfInBounds_toArray, List.set_cons_zero, List.set_cons_succ] at hK ⊢
      generalize vs 0 = u0 at hK d0 ⊢
      generalize vs 1 = u1 at hK d1 ⊢
      replace d0 : u0 = _ := d0
      subst d0
      replace d1 : u1 = _ := d1
      subst d1
      go_simp
      refine (dTimes (h.below hJ) (by omega) (by omega) (by omega) rfl).mono ?_
      rintro ee wk ⟨s5, A5, n5, c5, rfl, p5, k5, B⟩
      exact hK.out _ _ ⟨s5, A5, n5, c5, rfl, p5, k5⟩ B
    refine Jo.jcons (i := 3) (o := ⟨some 32, _, _, _, _, _⟩) (di := some 32) (L := []) (f := Jo.Fact.eq (.agg #[.bool t, .slice B m d, .int .i64 E2])) rfl rfl rfl rfl (fun vs wj hJ hd K hK => ?_) ?_
    · clear hd
      simp only [Jo.putl, List.foldl_nil, Act.put, List.setIfInBounds_toArray, List.set_cons_zero, List.set_cons_succ] at hK ⊢
      have xX20 : World.cell? wj ⟨w.heap.size + 1, 0, none⟩ = some (.bool t) := (X2.below hJ).cell 0
      have xX21 : World.cell? wj ⟨w.heap.size + 1, 1, none⟩ = some (.slice B m d) := (X2.below hJ).cell 1
      have xX22 : World.cell? wj ⟨w.heap.size + 1, 2, none⟩ = some (.int .i64 E2) := (X2.below hJ).cell 2
      go_simp
      exact hK.out _ _ rfl (Below.refl _ _)
    refine Jo.jcons (i := 4) (o := ⟨some 33, _, _, _, _, _⟩) (di := some 33) (L := []) (f := Jo.Fact.eq (.int .i64 E2)) rfl rfl rfl rfl (fun vs wj hJ hd K hK => ?_) ?_
    · clear hd
      simp only [Jo.putl, List.foldl_nil, Act.put, List.setIfInBounds_toArray, List.set_cons_zero, List.set_cons_succ] at hK ⊢
      go_simp
      exact hK.out _ _ rfl (Below.refl _ _)
    refine Jo.jcons (i := 5) (o := ⟨some 34, _, _, _, _, _⟩) (di := some 34) (L := [(some 32, 3), (some 33, 4)]) (f := Jo.Fact.wn (N2 * ((2 ^ (E2 - E2).toNat : Nat) : Int)) (m + (E2 - E2).toNat / 32 + 1)) rfl rfl rfl rfl (fun vs wj hJ hd K hK => ?_) ?_
    · have d3 : (Jo.Fact.eq (.agg #[.bool t, .slice B m d, .int .i64 E2])).P (vs 3) wj := hd 3 (by decide)
      have d4 : (Jo.Fact.eq (.int .i64 E2)).P (vs 4) wj := hd 4 (by decide)
      clear hd
      simp only [Jo.putl, List.foldl_cons, List.foldl_nil, Act.put, List.setIfInBounds_toArray, List.set_cons_zero, List.set_cons_succ] at hK ⊢
      generalize vs 3 = u3 at hK d3 ⊢
      generalize vs 4 = u4 at hK d4 ⊢
      replace d3 : u3 = _ := d3
      subst d3
      replace d4 : u4 = _ := d4
      subst d4
      go_simp
      refine (dTimes (k.below hJ) (by omega) (by omega) (by omega) rfl).mono ?_
      rintro ee wk ⟨s6, A6, n6, c6, rfl, p6, k6, B⟩
      exact hK.out _ _ ⟨s6, A6, n6, c6, rfl, p6, k6⟩ B
    refine Jo.jcons (i := 6) (o := ⟨some 35, _, _, _, _, _⟩) (di := some 35) (L := [(some 31, 2), (some 34, 5)]) (f := Jo.Fact.wn (N1 * ((2 ^ (E1 - E2).toNat : Nat) : Int) + N2 * ((2 ^ (E2 - E2).toNat : Nat) : Int)) (n + m + 20010)) rfl rfl rfl rfl (fun vs wj hJ hd K hK => ?_) ?_
    · have d2 : (Jo.Fact.wn (N1 * ((2 ^ (E1 - E2).toNat : Nat) : Int)) (n + (E1 - E2).toNat / 32 + 1)).P (vs 2) wj := hd 2 (by decide)
      have d5 : (Jo.Fact.wn (N2 * ((2 ^ (E2 - E2).toNat : Nat) : Int)) (m + (E2 - E2).toNat / 32 + 1)).P (vs 5) wj := hd 5 (by decide)
      clear hd
      simp only [Jo.putl, List.foldl_cons, List.foldl_nil, Act.put, List.setIfInBounds_toArray, List.set_cons_zero, List.set_cons_succ] at hK ⊢
      generalize vs 2 = u2 at hK d2 ⊢
      generalize vs 5 = u5 at hK d5 ⊢
      obtain ⟨s5, A5, n5, c5, rfl, p5, k5⟩ := d2
      obtain ⟨s6, A6, n6, c6, rfl, p6, k6⟩ := d5
      go_simp
      refine (wAdd p5.wr p6.wr (by omega) (by omega) rfl).mono ?_
      rintro ee wk ⟨s7, A7, n7, c7, rfl, p7, k7, B⟩
      exact hK.out _ _ ⟨s7, A7, n7, c7, rfl, p7, by omega⟩ B
    refine Jo.jcons (i := 7) (o := ⟨some 36, _, _, _, _, _⟩) (di := some 36) (L := []) (f := Jo.Fact.eq (.int .i64 E2)) rfl rfl rfl rfl (fun vs wj hJ hd K hK => ?_) ?_
    · clear hd
      simp only [Jo.putl, List.foldl_nil, Act.put, List.setIfInBounds_toArray, List.set_cons_zero, List.set_cons_succ] at hK ⊢
      go_simp
      exact hK.out _ _ rfl (Below.refl _ _)
    refine Jo.jcons (i := 8) (o := ⟨some 37, _, _, _, _, _⟩) (di := some 37) (L := [(some 35, 6), (some 36, 7)]) (f := Jo.Fact.dy N E (n + m + 20010)) rfl rfl rfl rfl (fun vs wj hJ hd K hK => ?_) ?_
    · have d6 : (Jo.Fact.wn (N1 * ((2 ^ (E1 - E2).toNat : Nat) : Int) + N2 * ((2 ^ (E2 - E2).toNat : Nat) : Int)) (n + m + 20010)).P (vs 6) wj := hd 6 (by decide)
      have d7 : (Jo.Fact.eq (.int .i64 E2)).P (vs 7) wj := hd 7 (by decide)
      clear hd
      simp only [Jo.putl, List.foldl_cons, List.foldl_nil, Act.put, List.setIfInBounds_toArray, List.set_cons_zero, List.set_cons_succ] at hK ⊢
      generalize vs 6 = u6 at hK d6 ⊢
      generalize vs 7 = u7 at hK d7 ⊢
      obtain ⟨s7, A7, n7, c7, rfl, p7, k7⟩ := d6
      replace d7 : u7 = _ := d7
      subst d7
      go_simp
      refine (dMake (hT.below hJ) p7.wr (by omega) HN.out HE.out).mono ?_
      rintro ee wk ⟨s4, A4, n4, c4, rfl, p4, k4, B⟩
      exact hK.out _ _ ⟨s4, A4, n4, c4, rfl, p4, Nat.le_trans k4 k7⟩ B
    exact Jo.Steps.nil
  have d0 : (Jo.Fact.eq (.agg #[.bool s, .slice A n c, .int .i64 E1])).P (vs 0) w4 := hd 0 (by decide)
  have d1 : (Jo.Fact.eq (.int .i64 E2)).P (vs 1) w4 := hd 1 (by decide)
  have d2 : (Jo.Fact.wn (N1 * ((2 ^ (E1 - E2).toNat : Nat) : Int)) (n + (E1 - E2).toNat / 32 + 1)).P (vs 2) w4 := hd 2 (by decide)
  have d3 : (Jo.Fact.eq (.agg #[.bool t, .slice B m d, .int .i64 E2])).P (vs 3) w4 := hd 3 (by decide)
  have d4 : (Jo.Fact.eq (.int .i64 E2)).P (vs 4) w4 := hd 4 (by decide)
  have d5 : (Jo.Fact.wn (N2 * ((2 ^ (E2 - E2).toNat : Nat) : Int)) (m + (E2 - E2).toNat / 32 + 1)).P (vs 5) w4 := hd 5 (by decide)
  have d6 : (Jo.Fact.wn (N1 * ((2 ^ (E1 - E2).toNat : Nat) : Int) + N2 * ((2 ^ (E2 - E2).toNat : Nat) : Int)) (n + m + 20010)).P (vs 6) w4 := hd 6 (by decide)
  have d7 : (Jo.Fact.eq (.int .i64 E2)).P (vs 7) w4 := hd 7 (by decide)
  have d8 : (Jo.Fact.dy N E (n + m + 20010)).P (vs 8) w4 := hd 8 (by decide)
  clear hd
  simp only [Jo.putl, List.foldl_cons, List.foldl_nil, Act.put, List.setIfInBounds_toArray, List.set_cons_zero, List.set_cons_succ]
  generalize vs 0 = u0 at d0 ⊢
  generalize vs 1 = u1 at d1 ⊢
  generalize vs 2 = u2 at d2 ⊢
  generalize vs 3 = u3 at d3 ⊢
  generalize vs 4 = u4 at d4 ⊢
  generalize vs 5 = u5 at d5 ⊢
  generalize vs 6 = u6 at d6 ⊢
  generalize vs 7 = u7 at d7 ⊢
  generalize vs 8 = u8 at d8 ⊢
  clear vs
  replace d0 : u0 = _ := d0
  subst d0
  replace d1 : u1 = _ := d1
  subst d1
  obtain ⟨s5, A5, n5, c5, rfl, _, _⟩ := d2
  replace d3 : u3 = _ := d3
  subst d3
  replace d4 : u4 = _ := d4
  subst d4
  obtain ⟨s6, A6, n6, c6, rfl, _, _⟩ := d5
  obtain ⟨s7, A7, n7, c7, rfl, _, _⟩ := d6
  replace d7 : u7 = _ := d7
  subst d7
  obtain ⟨s4, A4, n4, c4, rfl, p4, k4⟩ := d8
  replace X1 := X1.below hJ
  replace X2 := X2.below hJ
  replace XR := XR.below hJ
  replace hT := hT.below hJ
  replace h := h.below hJ
  replace k := k.below hJ
  replace HB := Lib.hid (bt HB.out hJ)
  have xXR0 := XR.at (i := 0) (v := .bool false) rfl
  have zXR0 := XR.frozen 0
  have xXR1 := XR.at (i := 1) (v := .slice none 0 0) rfl
  have zXR1 := XR.frozen 1
  have xXR2 := XR.at (i := 2) (v := .int .i64 0) rfl
  have zXR2 := XR.frozen 2
  refine Jo.jnext (i := 9) (o := ⟨none, _, _, _, _, _⟩) (by kernel_rfl) rfl (fun K hK => ?_)
  go_simp
  refine hK.out _ _ ?_
  clear hK K xXR0 zXR0 xXR1 zXR1 xXR2 zXR2
  have SX := StN.mk3 XR (.bool s4) (.slice A4 n4 c4) (.int .i64 E)
  replace X1 := X1.stn SX (by omega)
  replace X2 := X2.stn SX (by omega)
  replace p4 := p4.stn SX (by simp [no32])
  replace HB := Lib.hid (SX.below HB.out (by omega))
  replace XR := SX.box
  clear SX
  generalize (World.setCell (World.setCell (World.setCell w4 ⟨w.heap.size + 1 + 1, 0, none⟩ (.bool s4)) ⟨w.heap.size + 1 + 1, 1, none⟩ (.slice A4 n4 c4)) ⟨w.heap.size + 1 + 1, 2, none⟩ (.int .i64 E)) = w5 at *
  refine Jo.jdone (by kernel_rfl) ?_
  go_wp2
  have r0 := XR.cell 0
  have r1 := XR.cell 1
  have r2 := XR.cell 2
  exact bodyPost_ret (v := .agg #[.bool s4, .slice A4 n4 c4, .int .i64 E]) (by simp [results, Tryd.results49, go_sem, r0, r1, r2]) rfl ⟨s4, A4, n4, c4, rfl, p4, k4, HB.out⟩

theorem dPlus {w : World} {A B : Option Addr} {n c m d : Nat} {s t : Bool} {N1 N2 E1 E2 N E : Int} (hT : Tab w) (h : Wn w s A n c N1) (k : Wn w t B m d N2) (hn : n ≤ 20000) (hm : m ≤ 20000) (f1 : Nf (N1, E1)) (f2 : Nf (N2, E2)) (hf : Near (N1, E1) (N2, E2))
    (hN : (pl (N1, E1) (N2, E2)).1 = N) (hE : (pl (N1, E1) (N2, E2)).2 = E) :
    Calls Tryd.prog 49 #[.agg #[.bool s, .slice A n c, .int .i64 E1], .agg #[.bool t, .slice B m d, .int .i64 E2]] w (D1 w (n + m + 20010) N E) := by
  have mono : ∀ K, K ≤ n + m + 20010 → ∀ N E e w', D1 w K N E e w' → D1 w (n + m + 20010) N E e w' := fun K hK N E e w' ⟨s, A, n, c, e1, p, q, b⟩ => ⟨s, A, n, c, e1, p, Nat.le_trans q hK, b⟩
  unfold pl at hN hE
  simp only at hN hE
  by_cases h1 : N1 = 0
  · rw [if_pos h1] at hN hE
    subst hN; subst hE; subst h1
    exact (dplus_l hT h k (by omega) (Lib.hid (congrArg Prod.fst f2)) (Lib.hid (congrArg Prod.snd f2))).mono (mono _ (by omega) _ _)
  · rw [if_neg h1] at hN hE
    by_cases h2 : N2 = 0
    · rw [if_pos h2] at hN hE
      subst hN; subst hE; subst h2
      exact (dplus_r hT h k (by omega) h1 (Lib.hid (congrArg Prod.fst f1)) (Lib.hid (congrArg Prod.snd f1))).mono (mono _ (by omega) _ _)
    · rw [if_neg h2] at hN hE
      obtain ⟨g1, g2⟩ := hf h1 h2
      simp only at g1 g2
      by_cases hle : E1 ≤ E2
      · rw [Int.min_eq_left hle] at hN hE
        exact dplus_up hT h k hn hm h1 h2 hle g1 g2 (Lib.hid (by simpa using hN)) (Lib.hid (by simpa using hE))
      · rw [Int.min_eq_right (by omega)] at hN hE
        exact dplus_dn hT h k hn hm h1 h2 (by omega) g1 g2 (Lib.hid (by simpa using hN)) (Lib.hid (by simpa using hE))
end Go.Proofs.YteoeoppkefcmdaaDoor

/-
  What dy.Add and Sub do.
-/
namespace Go.Proofs.YteoeoppkefcmdaaDoor
open Go.RowKit
set_option linter.unusedVariables false

def DAddInv (w : World) (g3 : Nat) (l : List (Int × Int)) (k : Nat) (wr : World) : Prop :=
  ∃ s A n c, Bo wr w.heap.size #[.bool false, .slice none 0 0, .int .i64 0] 27 ∧ Bo wr g3 #[.bool s, .slice A n c, .int .i64 (smd (l.take k)).2] 27 ∧ Wn wr s A n c (smd (l.take k)).1 ∧ Below w.heap.size w wr
set_option maxRecDepth 20000 in
set_option maxHeartbeats 4000000 in
theorem dAdd {w : World} {A : Option Addr} {n c K : Nat} {l : List (Int × Int)} {N E : Int} (hT : Tab w) (h : Dl w A n c K l) (hK : K ≤ 20000) (hC : Can l) (hN : (smd l).1 = N) (hE : (smd l).2 = E) :
    Calls Tryd.prog 20 #[.slice A n c] w (D1 w 20000 N E) := by
  have HN := Lib.hid hN
  have HE := Lib.hid hE
  have HC := Lib.hid hC
  have HLn := Lib.hid h.1
  have hcap := h.2.1
  have hbig := h.2.2.1
  have hT0 := hT
  have hD0 := h
  clear hN hE hC
  go_enter Tryd.func20, Tryd.ntmps20
  go_upto_region 1 with (fail)
  have XR := (Bo.newAt w (g := w.heap.size) (by simp) #[.bool false, .slice none 0 0, .int .i64 0] 27)
  have HB := Lib.hid (bel1 w (.cells #[.bool false, .slice none 0 0, .int .i64 0] 27))
  replace hT := hT.below HB.out
  replace h := h.below HB.out
  generalize hW1 : (w.alloc (.cells #[.bool false, .slice none 0 0, .int .i64 0] 27)) = w1 at *
  clear hW1
  go_upto_region 2 with (fail)
  have hg3 := XR.lt
  replace XR := XR.below (bel1 _ (.cells #[.bool false, .slice none 0 0, .int .i64 0] 27))
  replace hT := hT.below (bel1 _ (.cells #[.bool false, .slice none 0 0, .int .i64 0] 27))
  replace h := h.below (bel1 _ (.cells #[.bool false, .slice none 0 0, .int .i64 0] 27))
  replace HB := Lib.hid (bt HB.out (bel1 _ (.cells #[.bool false, .slice none 0 0, .int .i64 0] 27)))
  have X3 := Bo.new w1 #[.bool false, .slice none 0 0, .int .i64 0] 27
  generalize hWn : w1.alloc (.cells #[.bool false, .slice none 0 0, .int .i64 0] 27) = w2 at *
  clear hWn
  go_wp2_with fail
  generalize w1.heap.size = g3 at *
  clear hT h w1
  go_loopw [9] (fun i wr => ∃ k : Nat, k ≤ n ∧ i = .int .i64 k ∧ DAddInv w g3 l k wr) (fun i _ => n - (intOf i).toNat)
  case atStart => exact ⟨0, Nat.zero_le _, rfl, false, none, 0, 0, XR, X3, Wn.zero, HB.out⟩
  case round =>
    obtain ⟨k, hk, rfl, hI⟩ := hrel
    obtain ⟨s, B, p, d, XR, X3, hw, hB⟩ := hI
    have HB := Lib.hid hB
    have hT := hT0.below hB
    have h := hD0.below hB
    clear hB
    by_cases hlt : k < n
    · obtain ⟨b, o, rfl, hcell⟩ := h.2.2.2 (by omega)
      obtain ⟨t, D, q, e, c0, c1, c2, hv, hq⟩ := hcell k hlt
      clear hcell h hD0
      obtain ⟨l1, l2, l3⟩ := HC.out k (by rw [HLn.out]; exact hlt)
      have hp := hw.lm l1
      have HT := Lib.hid (smd_take (by rw [HLn.out]; exact hlt : k < l.length))
      have HF1 := Lib.hid (smd_nf (l.take k))
      generalize hS : smd (l.take (k + 1)) = S at *
      generalize smd (l.take k) = R at *
      generalize hP : l.getD k (0, 0) = P at *
      obtain ⟨N1, E1⟩ := R
      obtain ⟨z2, e2⟩ := P
      simp only at hv c2 X3 hw l1 l2
      have HT := Lib.hid (show S = pl (N1, E1) (mk z2 e2) from HT.out)
      have hnf2 := mk_nf z2 e2
      obtain ⟨Q, hQ⟩ : ∃ x, mk z2 e2 = x := ⟨_, rfl⟩
      rw [hQ] at l2 hnf2
      have HT := Lib.hid (hQ ▸ HT.out)
      obtain ⟨N2, E2⟩ := Q
      have HQ1 := Lib.hid (congrArg Prod.fst hQ)
      have HQ2 := Lib.hid (congrArg Prod.snd hQ)
      have HF2 := Lib.hid hnf2
      clear hQ hnf2
      have HL2 := Lib.hid l2
      have HL3 := Lib.hid l3
      have HS := Lib.hid hS
      clear l1 l2 l3 hS hP
      have i1 : (k : Int) < n := by omega
      have i2 : (0 : Int) ≤ k := by omega
      go_upto_region 5 with (fail)
      have hgd := X3.lt
      replace XR := XR.below (bel1 _ (.cells #[.bool t, .slice D q e, .int .i64 e2] 27))
      replace X3 := X3.below (bel1 _ (.cells #[.bool t, .slice D q e, .int .i64 e2] 27))
      replace hT := hT.below (bel1 _ (.cells #[.bool t, .slice D q e, .int .i64 e2] 27))
      replace hw := hw.below (bel1 _ (.cells #[.bool t, .slice D q e, .int .i64 e2] 27))
      replace hv := hv.below (bel1 _ (.cells #[.bool t, .slice D q e, .int .i64 e2] 27))
      replace HB := Lib.hid (bt HB.out (bel1 _ (.cells #[.bool t, .slice D q e, .int .i64 e2] 27)))
      have X5 := Bo.new wr #[.bool t, .slice D q e, .int .i64 e2] 27
      generalize hWn : wr.alloc (.cells #[.bool t, .slice D q e, .int .i64 e2] 27) = w3 at *
      clear hWn
      clear c0 c1 c2
      refine Jo.region_joint (T := [0, 1, 2, 3]) (ds := [some 13, some 14, some 15, some 16, none]) (ls := [[], [], [1], [0, 2], []]) (k := 5) (L := [(some 13, 0), (some 14, 1), (some 15, 2), (some 16, 3)]) (fuel := 1) (J := fun wj => Below (World.heap w3).size w3 wj)
        (F := [Jo.Fact.eq (.agg #[.bool s, .slice B p d, .int .i64 E1]), Jo.Fact.eq (.agg #[.bool t, .slice D q e, .int .i64 e2]), Jo.Fact.dy N2 E2 q, Jo.Fact.dy S.1 S.2 20000, Jo.Fact.any])
        (by kernel_rfl) (by kernel_rfl) (by decide) rfl rfl (fun _ _ h b => bt h b) ((Below.refl _ _).drew) ?_ (fun vs w4 hJ hd => ?_)
      · refine Jo.jcons (i := 0) (o := ⟨some 13, _, _, _, _, _⟩) (di := some 13) (L := []) (f := Jo.Fact.eq (.agg #[.bool s, .slice B p d, .int .i64 E1])) rfl rfl rfl rfl (fun vs wj hJ hd K hK => ?_) ?_
        · clear hd
          simp only [Jo.putl, List.foldl_nil, Act.put, List.setIfInBounds_toArray, List.set_cons_zero, List.set_cons_succ] at hK ⊢
          have xX30 : World.cell? wj ⟨g3, 0, none⟩ = some (.bool s) := (X3.below hJ).cell 0
          have xX31 : World.cell? wj ⟨g3, 1, none⟩ = some (.slice B p d) := (X3.below hJ).cell 1
          have xX32 : World.cell? wj ⟨g3, 2, none⟩ = some (.int .i64 E1) := (X3.below hJ).cell 2
          go_simp
          exact hK.out _ _ rfl (Below.refl _ _)
        refine Jo.jcons (i := 1) (o := ⟨some 14, _, _, _, _, _⟩) (di := some 14) (L := []) (f := Jo.Fact.eq (.agg #[.bool t, .slice D q e, .int .i64 e2])) rfl rfl rfl rfl (fun vs wj hJ hd K hK => ?_) ?_
        · clear hd
          simp only [Jo.putl, List.foldl_nil, Act.put, List.setIfInBounds_toArray, List.set_cons_zero, List.set_cons_succ] at hK ⊢
          have xX50 : World.cell? wj ⟨wr.heap.size, 0, none⟩ = some (.bool t) := (X5.below hJ).cell 0
          have xX51 : World.cell? wj ⟨wr.heap.size, 1, none⟩ = some (.slice D q e) := (X5.below hJ).cell 1
          have xX52 : World.cell? wj ⟨wr.heap.size, 2, none⟩ = some (.int .i64 e2) := (X5.below hJ).cell 2
          go_simp
          exact hK.out _ _ rfl (Below.refl _ _)
        refine Jo.jcons (i := 2) (o := ⟨some 15, _, _, _, _, _⟩) (di := some 15) (L := [(some 14, 1)]) (f := Jo.Fact.dy N2 E2 q) rfl rfl rfl rfl (fun vs wj hJ hd K hK => ?_) ?_
        · have d1 : (Jo.Fact.eq (.agg #[.bool t, .slice D q e, .int .i64 e2])).P (vs 1) wj := hd 1 (by decide)
          clear hd
          simp only [Jo.putl, List.foldl_cons, List.foldl_nil, Act.put, List.setIfInBounds_toArray, List.set_cons_zero, List.set_cons_succ] at hK ⊢
          generalize vs 1 = u1 at hK d1 ⊢
          replace d1 : u1 = _ := d1
          subst d1
          go_simp
          refine (dTaken (hT.below hJ) (hv.below hJ) (by omega) HQ1.out HQ2.out).mono ?_
          rintro ee wk ⟨s2, A2, n2, c2, rfl, p2, k2, B⟩
          exact hK.out _ _ ⟨s2, A2, n2, c2, rfl, p2, k2⟩ B
        refine Jo.jcons (i := 3) (o := ⟨some 16, _, _, _, _, _⟩) (di := some 16) (L := [(some 13, 0), (some 15, 2)]) (f := Jo.Fact.dy S.1 S.2 20000) rfl rfl rfl rfl (fun vs wj hJ hd K hK => ?_) ?_
        · have d0 : (Jo.Fact.eq (.agg #[.bool s, .slice B p d, .int .i64 E1])).P (vs 0) wj := hd 0 (by decide)
          have d2 : (Jo.Fact.dy N2 E2 q).P (vs 2) wj := hd 2 (by decide)
          clear hd
          simp only [Jo.putl, List.foldl_cons, List.foldl_nil, Act.put, List.setIfInBounds_toArray, List.set_cons_zero, List.set_cons_succ] at hK ⊢
          generalize vs 0 = u0 at hK d0 ⊢
          generalize vs 2 = u2 at hK d2 ⊢
          replace d0 : u0 = _ := d0
          subst d0
          obtain ⟨s2, A2, n2, c2, rfl, p2, k2⟩ := d2
          go_simp
          refine (dPlus (N := S.1) (E := S.2) (hT.below hJ) (hw.below hJ) p2 hp (by omega) HF1.out HF2.out HL2.out (congrArg Prod.fst HT.out.symm) (congrArg Prod.snd HT.out.symm)).mono ?_
          rintro ee wk ⟨s4, A4, n4, c4, rfl, p4, k4, B⟩
          exact hK.out _ _ ⟨s4, A4, n4, c4, rfl, p4, p4.lm HL3.out⟩ B
        exact Jo.Steps.nil
      have d0 : (Jo.Fact.eq (.agg #[.bool s, .slice B p d, .int .i64 E1])).P (vs 0) w4 := hd 0 (by decide)
      have d1 : (Jo.Fact.eq (.agg #[.bool t, .slice D q e, .int .i64 e2])).P (vs 1) w4 := hd 1 (by decide)
      have d2 : (Jo.Fact.dy N2 E2 q).P (vs 2) w4 := hd 2 (by decide)
      have d3 : (Jo.Fact.dy S.1 S.2 20000).P (vs 3) w4 := hd 3 (by decide)
      clear hd
      simp only [Jo.putl, List.foldl_cons, List.foldl_nil, Act.put, List.setIfInBounds_toArray, List.set_cons_zero, List.set_cons_succ]
      generalize vs 0 = u0 at d0 ⊢
      generalize vs 1 = u1 at d1 ⊢
      generalize vs 2 = u2 at d2 ⊢
      generalize vs 3 = u3 at d3 ⊢
      clear vs
      replace d0 : u0 = _ := d0
      subst d0
      replace d1 : u1 = _ := d1
      subst d1
      obtain ⟨s2, A2, n2, c2, rfl, _, _⟩ := d2
      obtain ⟨s4, A4, n4, c4, rfl, p4, k4⟩ := d3
      replace XR := XR.below hJ
      replace X3 := X3.below hJ
      replace X5 := X5.below hJ
      replace hT := hT.below hJ
      replace hw := hw.below hJ
      replace hv := hv.below hJ
      replace HB := Lib.hid (bt HB.out hJ)
      have xX30 := X3.at (i := 0) (v := .bool s) rfl
      have zX30 := X3.frozen 0
      have xX31 := X3.at (i := 1) (v := .slice B p d) rfl
      have zX31 := X3.frozen 1
      have xX32 := X3.at (i := 2) (v := .int .i64 E1) rfl
      have zX32 := X3.frozen 2
      refine Jo.jnext (i := 4) (o := ⟨none, _, _, _, _, _⟩) (by kernel_rfl) rfl (fun K hK => ?_)
      go_simp
      refine hK.out _ _ ?_
      clear hK K xX30 zX30 xX31 zX31 xX32 zX32
      have SX := StN.mk3 X3 (.bool s4) (.slice A4 n4 c4) (.int .i64 S.2)
      replace XR := XR.stn SX (by omega)
      replace p4 := p4.stn SX (by simp [no32])
      replace HB := Lib.hid (SX.below HB.out (by omega))
      replace X3 := SX.box
      clear SX
      generalize (World.setCell (World.setCell (World.setCell w4 ⟨g3, 0, none⟩ (.bool s4)) ⟨g3, 1, none⟩ (.slice A4 n4 c4)) ⟨g3, 2, none⟩ (.int .i64 S.2)) = w5 at *
      refine Jo.jdone (by kernel_rfl) ?_
      go_wp2
      go_roundw
      case rel =>
        refine ⟨k + 1, by omega, by go_num, s4, A4, n4, c4, XR, ?_, ?_, HB.out⟩
        · rw [HS.out]; exact X3
        · rw [HS.out]; exact p4
      case measure => simp [intOf]; omega
    · obtain rfl : k = n := by omega
      have HR : Hid (smd (l.take k) = smd l) := Lib.hid (by rw [List.take_of_length_le (by rw [HLn.out]; omega)])
      have HL : Hid (Lm (smd l).1 ∨ k = 0) := Lib.hid (by
        rcases Nat.eq_zero_or_pos k with e | e
        · exact .inr e
        · have := (HC.out (k - 1) (by rw [HLn.out]; omega)).2.2
          rw [show k - 1 + 1 = k by omega, List.take_of_length_le (by rw [HLn.out]; omega)] at this
          exact .inl this)
      rw [HR.out, HN.out] at hw
      rw [HR.out, HE.out] at X3
      have hp : p ≤ 20000 := by
        rcases HL.out with e | e
        · rw [HN.out] at e; exact hw.lm e
        · have e0 := HR.out
          rw [e] at e0
          have : N = 0 := by rw [← HN.out, ← e0]; rfl
          rw [this] at hw
          have := hw.1.pos
          simp at this
          omega
      have xX30 := X3.at (i := 0) (v := .bool s) rfl
      have xX31 := X3.at (i := 1) (v := .slice B p d) rfl
      have xX32 := X3.at (i := 2) (v := .int .i64 E) rfl
      have zXR0 := XR.frozen 0
      have zXR1 := XR.frozen 1
      have zXR2 := XR.frozen 2
      have y0 := XR.cell 0
      have y1 := XR.cell 1
      have y2 := XR.cell 2
      go_wp2
      clear xX30 xX31 xX32
      clear zXR0 zXR1 zXR2 y0 y1 y2
      have SX := StN.mk3 XR (.bool s) (.slice B p d) (.int .i64 E)
      replace X3 := X3.stn SX (by omega)
      replace hw := hw.stn SX (by simp [no32])
      replace HB := Lib.hid (SX.below HB.out (by omega))
      replace XR := SX.box
      clear SX
      generalize (World.setCell (World.setCell (World.setCell wr ⟨w.heap.size, 0, none⟩ (.bool s)) ⟨w.heap.size, 1, none⟩ (.slice B p d)) ⟨w.heap.size, 2, none⟩ (.int .i64 E)) = w5 at *
      have r0 := XR.cell 0
      have r1 := XR.cell 1
      have r2 := XR.cell 2
      exact bodyPost_ret (v := .agg #[.bool s, .slice B p d, .int .i64 E]) (by simp [results, Tryd.results20, go_sem, r0, r1, r2]) rfl ⟨s, B, p, d, rfl, hw, hp, HB.out⟩

theorem smd_two (a b : Int × Int) : smd [a, b] = pl (mk a.1 a.2) (mk b.1 b.2) := rfl
set_option maxHeartbeats 4000000 in
theorem dSub {w : World} {A B : Option Addr} {n c m d : Nat} {s t : Bool} {z e y f N E : Int} (hT : Tab w) (h : Wr w s A n c z) (k : Wr w t B m d y) (hn : n ≤ 20000) (hm : m ≤ 20000) (hC : Can [(z, e), ng (mk y f)])
    (hN : (pl (mk z e) (ng (mk y f))).1 = N) (hE : (pl (mk z e) (ng (mk y f))).2 = E) :
    Calls Tryd.prog 22 #[.agg #[.bool s, .slice A n c, .int .i64 e], .agg #[.bool t, .slice B m d, .int .i64 f]] w (D1 w 20000 N E) := by
  have hs : smd [(z, e), ng (mk y f)] = pl (mk z e) (ng (mk y f)) := by
    rw [smd_two]
    congr 1
    exact ng_nf (mk_nf y f)
  rw [← hs] at hN hE
  clear hs
  obtain ⟨q, hq⟩ : ∃ q, mk y f = q := ⟨_, rfl⟩
  rw [hq] at hN hE hC
  obtain ⟨N2, E2⟩ := q
  have HQ1 := Lib.hid (congrArg (fun p => -Prod.fst p) hq)
  have HQ2 := Lib.hid (congrArg Prod.snd hq)
  simp only [ng] at hN hE hC HQ1 HQ2
  have HN := Lib.hid hN
  have HE := Lib.hid hE
  have HC := Lib.hid hC
  clear hN hE hC hq
  go_enter Tryd.func22, Tryd.ntmps22
  go_upto_region 1 with (fail)
  have X1 := (Bo.newAt w (g := w.heap.size) (by simp) #[.bool s, .slice A n c, .int .i64 e] 27).below (bel2 _ (.cells #[.bool t, .slice B m d, .int .i64 f] 27) (.cells #[.bool false, .slice none 0 0, .int .i64 0] 27))
  have X2 := (Bo.newAt (w.alloc (.cells #[.bool s, .slice A n c, .int .i64 e] 27)) (g := w.heap.size + 1) (by simp) #[.bool t, .slice B m d, .int .i64 f] 27).below (bel1 _ (.cells #[.bool false, .slice none 0 0, .int .i64 0] 27))
  have XR := (Bo.newAt ((w.alloc (.cells #[.bool s, .slice A n c, .int .i64 e] 27)).alloc (.cells #[.bool t, .slice B m d, .int .i64 f] 27)) (g := w.heap.size + 1 + 1) (by simp) #[.bool false, .slice none 0 0, .int .i64 0] 27)
  have HB := Lib.hid (bel3 w (.cells #[.bool s, .slice A n c, .int .i64 e] 27) (.cells #[.bool t, .slice B m d, .int .i64 f] 27) (.cells #[.bool false, .slice none 0 0, .int .i64 0] 27))
  replace hT := hT.below HB.out
  replace h := h.below HB.out
  replace k := k.below HB.out
  generalize hW1 : (((w.alloc (.cells #[.bool s, .slice A n c, .int .i64 e] 27)).alloc (.cells #[.bool t, .slice B m d, .int .i64 f] 27)).alloc (.cells #[.bool false, .slice none 0 0, .int .i64 0] 27)) = w1 at *
  clear hW1
  refine Jo.region_joint (T := [0, 1, 2, 3, 4]) (ds := [some 5, some 6, some 7, some 8, some 9, none]) (ls := [[], [], [1], [0, 2], [3], []]) (k := 6) (L := [(some 5, 0), (some 6, 1), (some 7, 2), (some 8, 3), (some 9, 4)]) (fuel := 1) (J := fun wj => Below (World.heap w1).size w1 wj)
    (F := [Jo.Fact.eq (.agg #[.bool s, .slice A n c, .int .i64 e]), Jo.Fact.eq (.agg #[.bool t, .slice B m d, .int .i64 f]), Jo.Fact.dy (-N2) E2 m, Jo.Fact.dl 20000 2 [(z, e), (-N2, E2)], Jo.Fact.dy N E 20000, Jo.Fact.any])
    (by kernel_rfl) (by kernel_rfl) (by decide) rfl rfl (fun _ _ h b => bt h b) ((Below.refl _ _).drew) ?_ (fun vs w2 hJ hd => ?_)
  · refine Jo.jcons (i := 0) (o := ⟨some 5, _, _, _, _, _⟩) (di := some 5) (L := []) (f := Jo.Fact.eq (.agg #[.bool s, .slice A n c, .int .i64 e])) rfl rfl rfl rfl (fun vs wj hJ hd K hK => ?_) ?_
    · clear hd
      simp only [Jo.putl, List.foldl_nil, Act.put, List.setIfInBounds_toArray, List.set_cons_zero, List.set_cons_succ] at hK ⊢
      have xX10 : World.cell? wj ⟨w.heap.size, 0, none⟩ = some (.bool s) := (X1.below hJ).cell 0
      have xX11 : World.cell? wj ⟨w.heap.size, 1, none⟩ = some (.slice A n c) := (X1.below hJ).cell 1
      have xX12 : World.cell? wj ⟨w.heap.size, 2, none⟩ = some (.int .i64 e) := (X1.below hJ).cell 2
      go_simp
      exact hK.out _ _ rfl (Below.refl _ _)
    refine Jo.jcons (i := 1) (o := ⟨some 6, _, _, _, _, _⟩) (di := some 6) (L := []) (f := Jo.Fact.eq (.agg #[.bool t, .slice B m d, .int .i64 f])) rfl rfl rfl rfl (fun vs wj hJ hd K hK => ?_) ?_
    · clear hd
      simp only [Jo.putl, List.foldl_nil, Act.put, List.setIfInBounds_toArray, List.set_cons_zero, List.set_cons_succ] at hK ⊢
      have xX20 : World.cell? wj ⟨w.heap.size + 1, 0, none⟩ = some (.bool t) := (X2.below hJ).cell 0
      have xX21 : World.cell? wj ⟨w.heap.size + 1, 1, none⟩ = some (.slice B m d) := (X2.below hJ).cell 1
      have xX22 : World.cell? wj ⟨w.heap.size + 1, 2, none⟩ = some (.int .i64 f) := (X2.below hJ).cell 2
      go_simp
      exact hK.out _ _ rfl (Below.refl _ _)
    refine Jo.jcons (i := 2) (o := ⟨some 7, _, _, _, _, _⟩) (di := some 7) (L := [(some 6, 1)]) (f := Jo.Fact.dy (-N2) E2 m) rfl rfl rfl rfl (fun vs wj hJ hd K hK => ?_) ?_
    · have d1 : (Jo.Fact.eq (.agg #[.bool t, .slice B m d, .int .i64 f])).P (vs 1) wj := hd 1 (by decide)
      clear hd
      simp only [Jo.putl, List.foldl_cons, List.foldl_nil, Act.put, List.setIfInBounds_toArray, List.set_cons_zero, List.set_cons_succ] at hK ⊢
      generalize vs 1 = u1 at hK d1 ⊢
      replace d1 : u1 = _ := d1
      subst d1
      go_simp
      refine (dNeg (hT.below hJ) (k.below hJ) (by omega) HQ1.out HQ2.out).mono ?_
      rintro ee wk ⟨s2, A2, n2, c2, rfl, p2, k2, B⟩
      exact hK.out _ _ ⟨s2, A2, n2, c2, rfl, p2, k2⟩ B
    refine Jo.jcons (i := 3) (o := ⟨some 8, _, _, _, _, _⟩) (di := some 8) (L := [(some 5, 0), (some 7, 2)]) (f := Jo.Fact.dl 20000 2 [(z, e), (-N2, E2)]) rfl rfl rfl rfl (fun vs wj hJ hd K hK => ?_) ?_
    · have d0 : (Jo.Fact.eq (.agg #[.bool s, .slice A n c, .int .i64 e])).P (vs 0) wj := hd 0 (by decide)
      have d2 : (Jo.Fact.dy (-N2) E2 m).P (vs 2) wj := hd 2 (by decide)
      clear hd
      simp only [Jo.putl, List.foldl_cons, List.foldl_nil, Act.put, List.setIfInBounds_toArray, List.set_cons_zero, List.set_cons_succ] at hK ⊢
      generalize vs 0 = u0 at hK d0 ⊢
      generalize vs 2 = u2 at hK d2 ⊢
      replace d0 : u0 = _ := d0
      subst d0
      obtain ⟨s2, A2, n2, c2, rfl, p2, k2⟩ := d2
      go_simp
      exact hK.out _ _ ⟨_, 2, rfl, Dl.lit2 rfl (h.below hJ) p2.wr hn (by omega)⟩ (bel1 _ _)
    refine Jo.jcons (i := 4) (o := ⟨some 9, _, _, _, _, _⟩) (di := some 9) (L := [(some 8, 3)]) (f := Jo.Fact.dy N E 20000) rfl rfl rfl rfl (fun vs wj hJ hd K hK => ?_) ?_
    · have d3 : (Jo.Fact.dl 20000 2 [(z, e), (-N2, E2)]).P (vs 3) wj := hd 3 (by decide)
      clear hd
      simp only [Jo.putl, List.foldl_cons, List.foldl_nil, Act.put, List.setIfInBounds_toArray, List.set_cons_zero, List.set_cons_succ] at hK ⊢
      generalize vs 3 = u3 at hK d3 ⊢
      obtain ⟨A3, c3, rfl, p3⟩ := d3
      go_simp
      refine (dAdd (hT.below hJ) p3 (by omega) HC.out HN.out HE.out).mono ?_
      rintro ee wk ⟨s4, A4, n4, c4, rfl, p4, k4, B⟩
      exact hK.out _ _ ⟨s4, A4, n4, c4, rfl, p4, k4⟩ B
    exact Jo.Steps.nil
  have d0 : (Jo.Fact.eq (.agg #[.bool s, .slice A n c, .int .i64 e])).P (vs 0) w2 := hd 0 (by decide)
  have d1 : (Jo.Fact.eq (.agg #[.bool t, .slice B m d, .int .i64 f])).P (vs 1) w2 := hd 1 (by decide)
  have d2 : (Jo.Fact.dy (-N2) E2 m).P (vs 2) w2 := hd 2 (by decide)
  have d3 : (Jo.Fact.dl 20000 2 [(z, e), (-N2, E2)]).P (vs 3) w2 := hd 3 (by decide)
  have d4 : (Jo.Fact.dy N E 20000).P (vs 4) w2 := hd 4 (by decide)
  clear hd
  simp only [Jo.putl, List.foldl_cons, List.foldl_nil, Act.put, List.setIfInBounds_toArray, List.set_cons_zero, List.set_cons_succ]
  generalize vs 0 = u0 at d0 ⊢
  generalize vs 1 = u1 at d1 ⊢
  generalize vs 2 = u2 at d2 ⊢
  generalize vs 3 = u3 at d3 ⊢
  generalize vs 4 = u4 at d4 ⊢
  clear vs
  replace d0 : u0 = _ := d0
  subst d0
  replace d1 : u1 = _ := d1
  subst d1
  obtain ⟨s2, A2, n2, c2, rfl, _, _⟩ := d2
  obtain ⟨A3, c3, rfl, _⟩ := d3
  obtain ⟨s4, A4, n4, c4, rfl, p4, k4⟩ := d4
  replace X1 := X1.below hJ
  replace X2 := X2.below hJ
  replace XR := XR.below hJ
  replace hT := hT.below hJ
  replace h := h.below hJ
  replace k := k.below hJ
  replace HB := Lib.hid (bt HB.out hJ)
  have xXR0 := XR.at (i := 0) (v := .bool false) rfl
  have zXR0 := XR.frozen 0
  have xXR1 := XR.at (i := 1) (v := .slice none 0 0) rfl
  have zXR1 := XR.frozen 1
  have xXR2 := XR.at (i := 2) (v := .int .i64 0) rfl
  have zXR2 := XR.frozen 2
  refine Jo.jnext (i := 5) (o := ⟨none, _, _, _, _, _⟩) (by kernel_rfl) rfl (fun K hK => ?_)
  go_simp
  refine hK.out _ _ ?_
  clear hK K xXR0 zXR0 xXR1 zXR1 xXR2 zXR2
  have SX := StN.mk3 XR (.bool s4) (.slice A4 n4 c4) (.int .i64 E)
  replace X1 := X1.stn SX (by omega)
  replace X2 := X2.stn SX (by omega)
  replace p4 := p4.stn SX (by simp [no32])
  replace HB := Lib.hid (SX.below HB.out (by omega))
  replace XR := SX.box
  clear SX
  generalize (World.setCell (World.setCell (World.setCell w2 ⟨w.heap.size + 1 + 1, 0, none⟩ (.bool s4)) ⟨w.heap.size + 1 + 1, 1, none⟩ (.slice A4 n4 c4)) ⟨w.heap.size + 1 + 1, 2, none⟩ (.int .i64 E)) = w3 at *
  refine Jo.jdone (by kernel_rfl) ?_
  go_wp2
  have r0 := XR.cell 0
  have r1 := XR.cell 1
  have r2 := XR.cell 2
  exact bodyPost_ret (v := .agg #[.bool s4, .slice A4 n4 c4, .int .i64 E]) (by simp [results, Tryd.results22, go_sem, r0, r1, r2]) rfl ⟨s4, A4, n4, c4, rfl, p4, k4, HB.out⟩
end Go.Proofs.YteoeoppkefcmdaaDoor

/-
  What dy.Floor and Cmp do.
-/
namespace Go.Proofs.YteoeoppkefcmdaaDoor
open Go.RowKit
set_option linter.unusedVariables false

set_option maxHeartbeats 2000000 in
theorem dfloor_up {w : World} {A : Option Addr} {n c : Nat} {s : Bool} {z e N1 E1 r : Int} (hT : Tab w) (h : Wr w s A n c z) (hn : n ≤ 100000) (HN1 : Hid ((mk z e).1 = N1)) (HE1 : Hid ((mk z e).2 = E1)) (h0 : 0 ≤ E1) (hb : E1 ≤ 4194304) (HR : Hid (N1 * ((2 ^ (E1 - 0).toNat : Nat) : Int) = r)) :
    Calls Tryd.prog 29 #[.agg #[.bool s, .slice A n c, .int .i64 e]] w (W1 w (n + 131100) r) := by
  go_enter Tryd.func29, Tryd.ntmps29
  go_upto_region 1 with (fail)
  have X1 := (Bo.newAt w (g := w.heap.size) (by simp) #[.bool s, .slice A n c, .int .i64 e] 27).below (bel1 _ (.cells #[.bool false, .slice none 0 0] 24))
  have XR := (Bo.newAt (w.alloc (.cells #[.bool s, .slice A n c, .int .i64 e] 27)) (g := w.heap.size + 1) (by simp) #[.bool false, .slice none 0 0] 24)
  have HB := Lib.hid (bel2 w (.cells #[.bool s, .slice A n c, .int .i64 e] 27) (.cells #[.bool false, .slice none 0 0] 24))
  replace hT := hT.below HB.out
  replace h := h.below HB.out
  generalize hW1 : ((w.alloc (.cells #[.bool s, .slice A n c, .int .i64 e] 27)).alloc (.cells #[.bool false, .slice none 0 0] 24)) = w1 at *
  clear hW1
  have xX10 := X1.at (i := 0) (v := .bool s) rfl
  have xX11 := X1.at (i := 1) (v := .slice A n c) rfl
  have xX12 := X1.at (i := 2) (v := .int .i64 e) rfl
  go_wp2_with fail
  refine (dTaken hT h hn HN1.out HE1.out).mono ?_
  rintro ee w2 ⟨s1, A1, n1, c1, rfl, p1, k1, B⟩
  clear xX10 xX11 xX12
  replace X1 := X1.below B
  replace XR := XR.below B
  replace hT := hT.below B
  replace h := h.below B
  replace HB := Lib.hid (bt HB.out B)
  clear B
  have xX10 := X1.at (i := 0) (v := .bool s) rfl
  have zX10 := X1.frozen 0
  have xX11 := X1.at (i := 1) (v := .slice A n c) rfl
  have zX11 := X1.frozen 1
  have xX12 := X1.at (i := 2) (v := .int .i64 e) rfl
  have zX12 := X1.frozen 2
  go_upto_region 2 with (fail)
  clear xX10 zX10 xX11 zX11 xX12 zX12
  have SX := StN.mk3 X1 (.bool s1) (.slice A1 n1 c1) (.int .i64 E1)
  replace XR := XR.stn SX (by omega)
  replace hT := hT.stn SX (by simp [no8])
  replace h := h.stn SX (by simp [no32])
  replace p1 := p1.stn SX (by simp [no32])
  replace HB := Lib.hid (SX.below HB.out (by omega))
  replace X1 := SX.box
  clear SX
  generalize (World.setCell (World.setCell (World.setCell w2 ⟨w.heap.size, 0, none⟩ (.bool s1)) ⟨w.heap.size, 1, none⟩ (.slice A1 n1 c1)) ⟨w.heap.size, 2, none⟩ (.int .i64 E1)) = w3 at *
  have xX10 := X1.at (i := 0) (v := .bool s1) rfl
  have xX11 := X1.at (i := 1) (v := .slice A1 n1 c1) rfl
  have xX12 := X1.at (i := 2) (v := .int .i64 E1) rfl
  go_wp2_with fail
  refine (dTimes p1 (by omega) h0 (by omega) HR.out).mono ?_
  rintro ee w4 ⟨s4, A4, n4, c4, rfl, p4, k4, B⟩
  clear xX10 xX11 xX12
  replace X1 := X1.below B
  replace XR := XR.below B
  replace hT := hT.below B
  replace h := h.below B
  replace p1 := p1.below B
  replace HB := Lib.hid (bt HB.out B)
  clear B
  have xXR0 := XR.at (i := 0) (v := .bool false) rfl
  have zXR0 := XR.frozen 0
  have xXR1 := XR.at (i := 1) (v := .slice none 0 0) rfl
  have zXR1 := XR.frozen 1
  go_wp2
  clear xXR0 zXR0 xXR1 zXR1
  have SX := StN.mk2 XR (.bool s4) (.slice A4 n4 c4)
  replace X1 := X1.stn SX (by omega)
  replace p4 := p4.stn SX (by simp [no32])
  replace HB := Lib.hid (SX.below HB.out (by omega))
  replace XR := SX.box
  clear SX
  generalize (World.setCell (World.setCell w4 ⟨w.heap.size + 1, 0, none⟩ (.bool s4)) ⟨w.heap.size + 1, 1, none⟩ (.slice A4 n4 c4)) = w5 at *
  have k0 : (E1 - 0).toNat / 32 ≤ 131072 := by omega
  have r0 := XR.cell 0
  have r1 := XR.cell 1
  exact bodyPost_ret (v := .agg #[.bool s4, .slice A4 n4 c4]) (by simp [results, Tryd.results29, go_sem, r0, r1]) rfl ⟨s4, A4, n4, c4, rfl, p4, by omega, HB.out⟩

set_option maxHeartbeats 2000000 in
theorem dfloor_neg {w : World} {A : Option Addr} {n c : Nat} {s : Bool} {z e N1 E1 r : Int} (hT : Tab w) (h : Wr w s A n c z) (hn : n ≤ 100000) (HN1 : Hid ((mk z e).1 = N1)) (HE1 : Hid ((mk z e).2 = E1)) (h0 : E1 < 0) (hb : -4194304 ≤ E1) (hs : N1 < 0) (HR : Hid (-((N1.natAbs / 2 ^ (-E1).toNat + 1 : Nat) : Int) = r)) :
    Calls Tryd.prog 29 #[.agg #[.bool s, .slice A n c, .int .i64 e]] w (W1 w (n + 131100) r) := by
  obtain ⟨d, hd⟩ : ∃ d, -E1 = d := ⟨_, rfl⟩
  have HD := Lib.hid hd
  have hd0 : 0 ≤ d := by omega
  have hd1 : d ≤ 4194304 := by omega
  have HW : Hid (IntKind.i64.wrap (-E1) = d) := Lib.hid (by rw [hd]; exact IntWalk.i64_in _ (by omega))
  rw [hd] at HR
  clear hd
  go_enter Tryd.func29, Tryd.ntmps29
  go_upto_region 1 with (fail)
  have X1 := (Bo.newAt w (g := w.heap.size) (by simp) #[.bool s, .slice A n c, .int .i64 e] 27).below (bel1 _ (.cells #[.bool false, .slice none 0 0] 24))
  have XR := (Bo.newAt (w.alloc (.cells #[.bool s, .slice A n c, .int .i64 e] 27)) (g := w.heap.size + 1) (by simp) #[.bool false, .slice none 0 0] 24)
  have HB := Lib.hid (bel2 w (.cells #[.bool s, .slice A n c, .int .i64 e] 27) (.cells #[.bool false, .slice none 0 0] 24))
  replace hT := hT.below HB.out
  replace h := h.below HB.out
  generalize hW1 : ((w.alloc (.cells #[.bool s, .slice A n c, .int .i64 e] 27)).alloc (.cells #[.bool false, .slice none 0 0] 24)) = w1 at *
  clear hW1
  have xX10 := X1.at (i := 0) (v := .bool s) rfl
  have xX11 := X1.at (i := 1) (v := .slice A n c) rfl
  have xX12 := X1.at (i := 2) (v := .int .i64 e) rfl
  go_wp2_with fail
  refine (dTaken hT h hn HN1.out HE1.out).mono ?_
  rintro ee w2 ⟨s1, A1, n1, c1, rfl, p1, k1, B⟩
  clear xX10 xX11 xX12
  replace X1 := X1.below B
  replace XR := XR.below B
  replace hT := hT.below B
  replace h := h.below B
  replace HB := Lib.hid (bt HB.out B)
  clear B
  have xX10 := X1.at (i := 0) (v := .bool s) rfl
  have zX10 := X1.frozen 0
  have xX11 := X1.at (i := 1) (v := .slice A n c) rfl
  have zX11 := X1.frozen 1
  have xX12 := X1.at (i := 2) (v := .int .i64 e) rfl
  have zX12 := X1.frozen 2
  go_upto_region 2 with (fail)
  clear xX10 zX10 xX11 zX11 xX12 zX12
  have SX := StN.mk3 X1 (.bool s1) (.slice A1 n1 c1) (.int .i64 E1)
  replace XR := XR.stn SX (by omega)
  replace hT := hT.stn SX (by simp [no8])
  replace h := h.stn SX (by simp [no32])
  replace p1 := p1.stn SX (by simp [no32])
  replace HB := Lib.hid (SX.below HB.out (by omega))
  replace X1 := SX.box
  clear SX
  generalize (World.setCell (World.setCell (World.setCell w2 ⟨w.heap.size, 0, none⟩ (.bool s1)) ⟨w.heap.size, 1, none⟩ (.slice A1 n1 c1)) ⟨w.heap.size, 2, none⟩ (.int .i64 E1)) = w3 at *
  obtain rfl : s1 = true := by rw [p1.2]; simp; omega
  have xX10 := X1.at (i := 0) (v := .bool true) rfl
  have xX11 := X1.at (i := 1) (v := .slice A1 n1 c1) rfl
  have xX12 := X1.at (i := 2) (v := .int .i64 E1) rfl
  have hw := HW.out
  go_wp2_with fail
  refine (vShrE p1.1.rd (by clear hw; omega) rfl).mono ?_
  rintro ee w4 ⟨A3, n3, c3, rfl, p3, k3, B⟩
  clear xX10 xX11 xX12
  replace X1 := X1.below B
  replace XR := XR.below B
  replace hT := hT.below B
  replace h := h.below B
  replace p1 := p1.below B
  replace HB := Lib.hid (bt HB.out B)
  clear B
  clear hw
  have xX10 := X1.at (i := 0) (v := .bool true) rfl
  have xX11 := X1.at (i := 1) (v := .slice A1 n1 c1) rfl
  have xX12 := X1.at (i := 2) (v := .int .i64 E1) rfl
  go_wp2_with fail
  refine (vAdd (p3.rd.below (bel1 _ _)) (one_rd _) (by omega) (by omega)).mono ?_
  rintro ee w5 ⟨A6, n6, c6, rfl, p6, k6, B⟩
  replace B := bt (bel1 _ _) B
  clear xX10 xX11 xX12
  replace X1 := X1.below B
  replace XR := XR.below B
  replace p3 := p3.below B
  replace HB := Lib.hid (bt HB.out B)
  clear B
  have xX10 := X1.at (i := 0) (v := .bool true) rfl
  have xX11 := X1.at (i := 1) (v := .slice A1 n1 c1) rfl
  have xX12 := X1.at (i := 2) (v := .int .i64 E1) rfl
  go_wp2_with fail
  refine (wMake true p6.rd).mono ?_
  rintro ee w6 ⟨s4, A4, n4, c4, rfl, p4, k4, B⟩
  clear xX10 xX11 xX12
  replace X1 := X1.below B
  replace XR := XR.below B
  replace p6 := p6.below B
  replace HB := Lib.hid (bt HB.out B)
  clear B
  replace p4 : Wn w6 s4 A4 n4 c4 r := by
    have e := HR.out
    rw [← e]
    exact p4
  have xXR0 := XR.at (i := 0) (v := .bool false) rfl
  have zXR0 := XR.frozen 0
  have xXR1 := XR.at (i := 1) (v := .slice none 0 0) rfl
  have zXR1 := XR.frozen 1
  go_wp2
  clear xXR0 zXR0 xXR1 zXR1
  have SX := StN.mk2 XR (.bool s4) (.slice A4 n4 c4)
  replace X1 := X1.stn SX (by omega)
  replace p4 := p4.stn SX (by simp [no32])
  replace HB := Lib.hid (SX.below HB.out (by omega))
  replace XR := SX.box
  clear SX
  generalize (World.setCell (World.setCell w6 ⟨w.heap.size + 1, 0, none⟩ (.bool s4)) ⟨w.heap.size + 1, 1, none⟩ (.slice A4 n4 c4)) = w7 at *
  have r0 := XR.cell 0
  have r1 := XR.cell 1
  exact bodyPost_ret (v := .agg #[.bool s4, .slice A4 n4 c4]) (by simp [results, Tryd.results29, go_sem, r0, r1]) rfl ⟨s4, A4, n4, c4, rfl, p4, by omega, HB.out⟩

set_option maxHeartbeats 2000000 in
theorem dfloor_pos {w : World} {A : Option Addr} {n c : Nat} {s : Bool} {z e N1 E1 r : Int} (hT : Tab w) (h : Wr w s A n c z) (hn : n ≤ 100000) (HN1 : Hid ((mk z e).1 = N1)) (HE1 : Hid ((mk z e).2 = E1)) (h0 : E1 < 0) (hb : -4194304 ≤ E1) (hs : 0 ≤ N1) (HR : Hid (((N1.natAbs / 2 ^ (-E1).toNat : Nat) : Int) = r)) :
    Calls Tryd.prog 29 #[.agg #[.bool s, .slice A n c, .int .i64 e]] w (W1 w (n + 131100) r) := by
  obtain ⟨d, hd⟩ : ∃ d, -E1 = d := ⟨_, rfl⟩
  have HD := Lib.hid hd
  have hd0 : 0 ≤ d := by omega
  have hd1 : d ≤ 4194304 := by omega
  have HW : Hid (IntKind.i64.wrap (-E1) = d) := Lib.hid (by rw [hd]; exact IntWalk.i64_in _ (by omega))
  rw [hd] at HR
  clear hd
  go_enter Tryd.func29, Tryd.ntmps29
  go_upto_region 1 with (fail)
  have X1 := (Bo.newAt w (g := w.heap.size) (by simp) #[.bool s, .slice A n c, .int .i64 e] 27).below (bel1 _ (.cells #[.bool false, .slice none 0 0] 24))
  have XR := (Bo.newAt (w.alloc (.cells #[.bool s, .slice A n c, .int .i64 e] 27)) (g := w.heap.size + 1) (by simp) #[.bool false, .slice none 0 0] 24)
  have HB := Lib.hid (bel2 w (.cells #[.bool s, .slice A n c, .int .i64 e] 27) (.cells #[.bool false, .slice none 0 0] 24))
  replace hT := hT.below HB.out
  replace h := h.below HB.out
  generalize hW1 : ((w.alloc (.cells #[.bool s, .slice A n c, .int .i64 e] 27)).alloc (.cells #[.bool false, .slice none 0 0] 24)) = w1 at *
  clear hW1
  have xX10 := X1.at (i := 0) (v := .bool s) rfl
  have xX11 := X1.at (i := 1) (v := .slice A n c) rfl
  have xX12 := X1.at (i := 2) (v := .int .i64 e) rfl
  go_wp2_with fail
  refine (dTaken hT h hn HN1.out HE1.out).mono ?_
  rintro ee w2 ⟨s1, A1, n1, c1, rfl, p1, k1, B⟩
  clear xX10 xX11 xX12
  replace X1 := X1.below B
  replace XR := XR.below B
  replace hT := hT.below B
  replace h := h.below B
  replace HB := Lib.hid (bt HB.out B)
  clear B
  have xX10 := X1.at (i := 0) (v := .bool s) rfl
  have zX10 := X1.frozen 0
  have xX11 := X1.at (i := 1) (v := .slice A n c) rfl
  have zX11 := X1.frozen 1
  have xX12 := X1.at (i := 2) (v := .int .i64 e) rfl
  have zX12 := X1.frozen 2
  go_upto_region 2 with (fail)
  clear xX10 zX10 xX11 zX11 xX12 zX12
  have SX := StN.mk3 X1 (.bool s1) (.slice A1 n1 c1) (.int .i64 E1)
  replace XR := XR.stn SX (by omega)
  replace hT := hT.stn SX (by simp [no8])
  replace h := h.stn SX (by simp [no32])
  replace p1 := p1.stn SX (by simp [no32])
  replace HB := Lib.hid (SX.below HB.out (by omega))
  replace X1 := SX.box
  clear SX
  generalize (World.setCell (World.setCell (World.setCell w2 ⟨w.heap.size, 0, none⟩ (.bool s1)) ⟨w.heap.size, 1, none⟩ (.slice A1 n1 c1)) ⟨w.heap.size, 2, none⟩ (.int .i64 E1)) = w3 at *
  obtain rfl : s1 = false := by rw [p1.2]; simp; omega
  have xX10 := X1.at (i := 0) (v := .bool false) rfl
  have xX11 := X1.at (i := 1) (v := .slice A1 n1 c1) rfl
  have xX12 := X1.at (i := 2) (v := .int .i64 E1) rfl
  have hw := HW.out
  go_wp2_with fail
  refine (vShrE p1.1.rd (by clear hw; omega) rfl).mono ?_
  rintro ee w4 ⟨A3, n3, c3, rfl, p3, k3, B⟩
  clear xX10 xX11 xX12
  replace X1 := X1.below B
  replace XR := XR.below B
  replace hT := hT.below B
  replace h := h.below B
  replace p1 := p1.below B
  replace HB := Lib.hid (bt HB.out B)
  clear B
  clear hw
  have xX10 := X1.at (i := 0) (v := .bool false) rfl
  have xX11 := X1.at (i := 1) (v := .slice A1 n1 c1) rfl
  have xX12 := X1.at (i := 2) (v := .int .i64 E1) rfl
  go_wp2_with fail
  refine (wMake false p3.rd).mono ?_
  rintro ee w6 ⟨s4, A4, n4, c4, rfl, p4, k4, B⟩
  clear xX10 xX11 xX12
  replace X1 := X1.below B
  replace XR := XR.below B
  replace p3 := p3.below B
  replace HB := Lib.hid (bt HB.out B)
  clear B
  replace p4 : Wn w6 s4 A4 n4 c4 r := by
    have e := HR.out
    rw [← e]
    exact p4
  have xXR0 := XR.at (i := 0) (v := .bool false) rfl
  have zXR0 := XR.frozen 0
  have xXR1 := XR.at (i := 1) (v := .slice none 0 0) rfl
  have zXR1 := XR.frozen 1
  go_wp2
  clear xXR0 zXR0 xXR1 zXR1
  have SX := StN.mk2 XR (.bool s4) (.slice A4 n4 c4)
  replace X1 := X1.stn SX (by omega)
  replace p4 := p4.stn SX (by simp [no32])
  replace HB := Lib.hid (SX.below HB.out (by omega))
  replace XR := SX.box
  clear SX
  generalize (World.setCell (World.setCell w6 ⟨w.heap.size + 1, 0, none⟩ (.bool s4)) ⟨w.heap.size + 1, 1, none⟩ (.slice A4 n4 c4)) = w7 at *
  have r0 := XR.cell 0
  have r1 := XR.cell 1
  exact bodyPost_ret (v := .agg #[.bool s4, .slice A4 n4 c4]) (by simp [results, Tryd.results29, go_sem, r0, r1]) rfl ⟨s4, A4, n4, c4, rfl, p4, by omega, HB.out⟩

theorem dFloor {w : World} {A : Option Addr} {n c : Nat} {s : Bool} {z e r : Int} (hT : Tab w) (h : Wr w s A n c z) (hn : n ≤ 100000) (hr : flr (mk z e).1 (mk z e).2 = r) :
    Calls Tryd.prog 29 #[.agg #[.bool s, .slice A n c, .int .i64 e]] w (W1 w (n + 131100) r) := by
  have hb := mk_bd z e
  have hnf := (mk_nf z e).cases
  by_cases h0 : 0 ≤ (mk z e).2
  · exact dfloor_up hT h hn (Lib.hid rfl) (Lib.hid rfl) h0 hb.2 (Lib.hid (by rw [← hr, Int.sub_zero]; unfold flr; rw [if_pos h0]))
  · have hod : (mk z e).1.natAbs % 2 = 1 := by
      rcases hnf with e1 | ⟨_, e1, _⟩
      · rw [e1] at h0; simp at h0
      · exact e1
    by_cases hs : (mk z e).1 < 0
    · exact dfloor_neg hT h hn (Lib.hid rfl) (Lib.hid rfl) (by omega) hb.1 hs (Lib.hid (by rw [← hr, flr_neg (by omega) hod hs]))
    · exact dfloor_pos hT h hn (Lib.hid rfl) (Lib.hid rfl) (by omega) hb.1 (by omega) (Lib.hid (by rw [← hr, flr_pos (by omega) (by omega)]))

set_option maxHeartbeats 4000000 in
theorem dcmp_signs {w : World} {A B : Option Addr} {n c m d : Nat} {s t : Bool} {z e y f N1 E1 N2 E2 σ τ r : Int} (hT : Tab w) (h : Wr w s A n c z) (k : Wr w t B m d y) (hn : n ≤ 100000) (hm : m ≤ 100000) (b1 : -4194304 ≤ E1) (b2 : E1 ≤ 4194304) (b3 : -4194304 ≤ E2) (b4 : E2 ≤ 4194304)
    (HN1 : Hid ((mk z e).1 = N1)) (HE1 : Hid ((mk z e).2 = E1)) (HN2 : Hid ((mk y f).1 = N2)) (HE2 : Hid ((mk y f).2 = E2)) (HS : Hid (cmpI N1 0 = σ)) (HS2 : Hid (cmpI N2 0 = τ)) (hne : σ ≠ τ) (HR : Hid (cmpI σ τ = r)) :
    Calls Tryd.prog 31 #[.agg #[.bool s, .slice A n c, .int .i64 e], .agg #[.bool t, .slice B m d, .int .i64 f]] w (PI w r) := by
  have q1 : (σ != τ) = true := by simpa using hne
  clear hne
  go_enter Tryd.func31, Tryd.ntmps31
  go_upto_region 1 with (fail)
  have X1 := (Bo.newAt w (g := w.heap.size) (by simp) #[.bool s, .slice A n c, .int .i64 e] 27).below (bel1 _ (.cells #[.bool t, .slice B m d, .int .i64 f] 27))
  have X2 := (Bo.newAt (w.alloc (.cells #[.bool s, .slice A n c, .int .i64 e] 27)) (g := w.heap.size + 1) (by simp) #[.bool t, .slice B m d, .int .i64 f] 27)
  have HB := Lib.hid (bel2 w (.cells #[.bool s, .slice A n c, .int .i64 e] 27) (.cells #[.bool t, .slice B m d, .int .i64 f] 27))
  replace hT := hT.below HB.out
  replace h := h.below HB.out
  replace k := k.below HB.out
  generalize hW1 : ((w.alloc (.cells #[.bool s, .slice A n c, .int .i64 e] 27)).alloc (.cells #[.bool t, .slice B m d, .int .i64 f] 27)) = w1 at *
  clear hW1
  refine Jo.region_joint (T := [0, 1, 2, 3]) (ds := [some 9, some 10, some 11, some 12, none, none]) (ls := [[], [0], [], [2], [], []]) (k := 6) (L := [(some 9, 0), (some 10, 1), (some 11, 2), (some 12, 3)]) (fuel := 2) (J := fun wj => Below (World.heap w1).size w1 wj)
    (F := [Jo.Fact.eq (.agg #[.bool s, .slice A n c, .int .i64 e]), Jo.Fact.dy N1 E1 n, Jo.Fact.eq (.agg #[.bool t, .slice B m d, .int .i64 f]), Jo.Fact.dy N2 E2 m, Jo.Fact.any, Jo.Fact.any])
    (by kernel_rfl) (by kernel_rfl) (by decide) rfl rfl (fun _ _ h b => bt h b) ((Below.refl _ _).drew) ?_ (fun vs w2 hJ hd => ?_)
  · refine Jo.jcons (i := 0) (o := ⟨some 9, _, _, _, _, _⟩) (di := some 9) (L := []) (f := Jo.Fact.eq (.agg #[.bool s, .slice A n c, .int .i64 e])) rfl rfl rfl rfl (fun vs wj hJ hd K hK => ?_) ?_
    · clear hd
      simp only [Jo.putl, List.foldl_nil, Act.put, List.setIfInBounds_toArray, List.set_cons_zero, List.set_cons_succ] at hK ⊢
      have xX10 : World.cell? wj ⟨w.heap.size, 0, none⟩ = some (.bool s) := (X1.below hJ).cell 0
      have xX11 : World.cell? wj ⟨w.heap.size, 1, none⟩ = some (.slice A n c) := (X1.below hJ).cell 1
      have xX12 : World.cell? wj ⟨w.heap.size, 2, none⟩ = some (.int .i64 e) := (X1.below hJ).cell 2
      go_simp
      exact hK.out _ _ rfl (Below.refl _ _)
    refine Jo.jcons (i := 1) (o := ⟨some 10, _, _, _, _, _⟩) (di := some 10) (L := [(some 9, 0)]) (f := Jo.Fact.dy N1 E1 n) rfl rfl rfl rfl (fun vs wj hJ hd K hK => ?_) ?_
    · have d0 : (Jo.Fact.eq (.agg #[.bool s, .slice A n c, .int .i64 e])).P (vs 0) wj := hd 0 (by decide)
      clear hd
      simp only [Jo.putl, List.foldl_cons, List.foldl_nil, Act.put, List.setIfInBounds_toArray, List.set_cons_zero, List.set_cons_succ] at hK ⊢
      generalize vs 0 = u0 at hK d0 ⊢
      replace d0 : u0 = _ := d0
      subst d0
      go_simp
      refine (dTaken (hT.below hJ) (h.below hJ) (by omega) HN1.out HE1.out).mono ?_
      rintro ee wk ⟨s1, A1, n1, c1, rfl, p1, k1, B⟩
      exact hK.out _ _ ⟨s1, A1, n1, c1, rfl, p1, k1⟩ B
    refine Jo.jcons (i := 2) (o := ⟨some 11, _, _, _, _, _⟩) (di := some 11) (L := []) (f := Jo.Fact.eq (.agg #[.bool t, .slice B m d, .int .i64 f])) rfl rfl rfl rfl (fun vs wj hJ hd K hK => ?_) ?_
    · clear hd
      simp only [Jo.putl, List.foldl_nil, Act.put, List.setIfInBounds_toArray, List.set_cons_zero, List.set_cons_succ] at hK ⊢
      have xX20 : World.cell? wj ⟨w.heap.size + 1, 0, none⟩ = some (.bool t) := (X2.below hJ).cell 0
      have xX21 : World.cell? wj ⟨w.heap.size + 1, 1, none⟩ = some (.slice B m d) := (X2.below hJ).cell 1
      have xX22 : World.cell? wj ⟨w.heap.size + 1, 2, none⟩ = some (.int .i64 f) := (X2.below hJ).cell 2
      go_simp
      exact hK.out _ _ rfl (Below.refl _ _)
    refine Jo.jcons (i := 3) (o := ⟨some 12, _, _, _, _, _⟩) (di := some 12) (L := [(some 11, 2)]) (f := Jo.Fact.dy N2 E2 m) rfl rfl rfl rfl (fun vs wj hJ hd K hK => ?_) ?_
    · have d2 : (Jo.Fact.eq (.agg #[.bool t, .slice B m d, .int .i64 f])).P (vs 2) wj := hd 2 (by decide)
      clear hd
      simp only [Jo.putl, List.foldl_cons, List.foldl_nil, Act.put, List.setIfInBounds_toArray, List.set_cons_zero, List.set_cons_succ] at hK ⊢
      generalize vs 2 = u2 at hK d2 ⊢
      replace d2 : u2 = _ := d2
      subst d2
      go_simp
      refine (dTaken (hT.below hJ) (k.below hJ) (by omega) HN2.out HE2.out).mono ?_
      rintro ee wk ⟨s2, A2, n2, c2, rfl, p2, k2, B⟩
      exact hK.out _ _ ⟨s2, A2, n2, c2, rfl, p2, k2⟩ B
    exact Jo.Steps.nil
  have d0 : (Jo.Fact.eq (.agg #[.bool s, .slice A n c, .int .i64 e])).P (vs 0) w2 := hd 0 (by decide)
  have d1 : (Jo.Fact.dy N1 E1 n).P (vs 1) w2 := hd 1 (by decide)
  have d2 : (Jo.Fact.eq (.agg #[.bool t, .slice B m d, .int .i64 f])).P (vs 2) w2 := hd 2 (by decide)
  have d3 : (Jo.Fact.dy N2 E2 m).P (vs 3) w2 := hd 3 (by decide)
  clear hd
  simp only [Jo.putl, List.foldl_cons, List.foldl_nil, Act.put, List.setIfInBounds_toArray, List.set_cons_zero, List.set_cons_succ]
  generalize vs 0 = u0 at d0 ⊢
  generalize vs 1 = u1 at d1 ⊢
  generalize vs 2 = u2 at d2 ⊢
  generalize vs 3 = u3 at d3 ⊢
  clear vs
  replace d0 : u0 = _ := d0
  subst d0
  obtain ⟨s1, A1, n1, c1, rfl, p1, k1⟩ := d1
  replace d2 : u2 = _ := d2
  subst d2
  obtain ⟨s2, A2, n2, c2, rfl, p2, k2⟩ := d3
  replace X1 := X1.below hJ
  replace X2 := X2.below hJ
  replace hT := hT.below hJ
  replace h := h.below hJ
  replace k := k.below hJ
  replace HB := Lib.hid (bt HB.out hJ)
  have xX10 := X1.at (i := 0) (v := .bool s) rfl
  have zX10 := X1.frozen 0
  have xX11 := X1.at (i := 1) (v := .slice A n c) rfl
  have zX11 := X1.frozen 1
  have xX12 := X1.at (i := 2) (v := .int .i64 e) rfl
  have zX12 := X1.frozen 2
  refine Jo.jnext (i := 4) (o := ⟨none, _, _, _, _, _⟩) (by kernel_rfl) rfl (fun K hK => ?_)
  go_simp
  refine hK.out _ _ ?_
  clear hK K xX10 zX10 xX11 zX11 xX12 zX12
  have SX := StN.mk3 X1 (.bool s1) (.slice A1 n1 c1) (.int .i64 E1)
  replace X2 := X2.stn SX (by omega)
  replace p1 := p1.stn SX (by simp [no32])
  replace p2 := p2.stn SX (by simp [no32])
  replace HB := Lib.hid (SX.below HB.out (by omega))
  replace X1 := SX.box
  clear SX
  generalize (World.setCell (World.setCell (World.setCell w2 ⟨w.heap.size, 0, none⟩ (.bool s1)) ⟨w.heap.size, 1, none⟩ (.slice A1 n1 c1)) ⟨w.heap.size, 2, none⟩ (.int .i64 E1)) = w3 at *
  have xX20 := X2.at (i := 0) (v := .bool t) rfl
  have zX20 := X2.frozen 0
  have xX21 := X2.at (i := 1) (v := .slice B m d) rfl
  have zX21 := X2.frozen 1
  have xX22 := X2.at (i := 2) (v := .int .i64 f) rfl
  have zX22 := X2.frozen 2
  refine Jo.jnext (i := 5) (o := ⟨none, _, _, _, _, _⟩) (by kernel_rfl) rfl (fun K hK => ?_)
  go_simp
  refine hK.out _ _ ?_
  clear hK K xX20 zX20 xX21 zX21 xX22 zX22
  have SX := StN.mk3 X2 (.bool s2) (.slice A2 n2 c2) (.int .i64 E2)
  replace X1 := X1.stn SX (by omega)
  replace p1 := p1.stn SX (by simp [no32])
  replace p2 := p2.stn SX (by simp [no32])
  replace HB := Lib.hid (SX.below HB.out (by omega))
  replace X2 := SX.box
  clear SX
  generalize (World.setCell (World.setCell (World.setCell w3 ⟨w.heap.size + 1, 0, none⟩ (.bool s2)) ⟨w.heap.size + 1, 1, none⟩ (.slice A2 n2 c2)) ⟨w.heap.size + 1, 2, none⟩ (.int .i64 E2)) = w4 at *
  refine Jo.jdone (by kernel_rfl) ?_
  go_upto_region 2 with (fail)
  refine Jo.region_joint (T := [0, 1, 2, 3, 4, 5, 6, 7]) (ds := [some 13, some 14, some 15, some 16, some 17, some 18, some 5, some 6]) (ls := [[], [0], [1], [], [3], [4], [2], [5]]) (k := 8) (L := [(some 13, 0), (some 14, 1), (some 15, 2), (some 16, 3), (some 17, 4), (some 18, 5), (some 5, 6), (some 6, 7)]) (fuel := 0) (J := fun wj => Below (World.heap w4).size w4 wj)
    (F := [Jo.Fact.eq (.pointer (some ⟨w.heap.size, 0, none⟩)), Jo.Fact.eq (.agg #[.bool s1, .slice A1 n1 c1]), Jo.Fact.eq (.int .i64 σ), Jo.Fact.eq (.pointer (some ⟨w.heap.size + 1, 0, none⟩)), Jo.Fact.eq (.agg #[.bool s2, .slice A2 n2 c2]), Jo.Fact.eq (.int .i64 τ), Jo.Fact.eq (.int .i64 σ), Jo.Fact.eq (.int .i64 τ)])
    (by kernel_rfl) (by kernel_rfl) (by decide) rfl rfl (fun _ _ h b => bt h b) ((Below.refl _ _).drew) ?_ (fun vs w5 hJ hd => ?_)
  · refine Jo.jcons (i := 0) (o := ⟨some 13, _, _, _, _, _⟩) (di := some 13) (L := []) (f := Jo.Fact.eq (.pointer (some ⟨w.heap.size, 0, none⟩))) rfl rfl rfl rfl (fun vs wj hJ hd K hK => ?_) ?_
    · clear hd
      simp only [Jo.putl, List.foldl_nil, Act.put, List.setIfInBounds_toArray, List.set_cons_zero, List.set_cons_succ] at hK ⊢
      go_simp
      exact hK.out _ _ rfl (Below.refl _ _)
    refine Jo.jcons (i := 1) (o := ⟨some 14, _, _, _, _, _⟩) (di := some 14) (L := [(some 13, 0)]) (f := Jo.Fact.eq (.agg #[.bool s1, .slice A1 n1 c1])) rfl rfl rfl rfl (fun vs wj hJ hd K hK => ?_) ?_
    · have d0 : (Jo.Fact.eq (.pointer (some ⟨w.heap.size, 0, none⟩))).P (vs 0) wj := hd 0 (by decide)
      clear hd
      simp only [Jo.putl, List.foldl_cons, List.foldl_nil, Act.put, List.setIfInBounds_toArray, List.set_cons_zero, List.set_cons_succ] at hK ⊢
      generalize vs 0 = u0 at hK d0 ⊢
      replace d0 : u0 = _ := d0
      subst d0
      have xX10 : World.cell? wj ⟨w.heap.size, 0, none⟩ = some (.bool s1) := (X1.below hJ).cell 0
      have xX11 : World.cell? wj ⟨w.heap.size, 1, none⟩ = some (.slice A1 n1 c1) := (X1.below hJ).cell 1
      have xX12 : World.cell? wj ⟨w.heap.size, 2, none⟩ = some (.int .i64 E1) := (X1.below hJ).cell 2
      go_simp
      exact hK.out _ _ rfl (Below.refl _ _)
    refine Jo.jcons (i := 2) (o := ⟨some 15, _, _, _, _, _⟩) (di := some 15) (L := [(some 14, 1)]) (f := Jo.Fact.eq (.int .i64 σ)) rfl rfl rfl rfl (fun vs wj hJ hd K hK => ?_) ?_
    · have d1 : (Jo.Fact.eq (.agg #[.bool s1, .slice A1 n1 c1])).P (vs 1) wj := hd 1 (by decide)
      clear hd
      simp only [Jo.putl, List.foldl_cons, List.foldl_nil, Act.put, List.setIfInBounds_toArray, List.set_cons_zero, List.set_cons_succ] at hK ⊢
      generalize vs 1 = u1 at hK d1 ⊢
      replace d1 : u1 = _ := d1
      subst d1
      go_simp
      refine (wSign (p1.below hJ).wr HS.out).mono ?_
      rintro ee wk ⟨rfl, B⟩
      exact hK.out _ _ rfl B
    refine Jo.jcons (i := 3) (o := ⟨some 16, _, _, _, _, _⟩) (di := some 16) (L := []) (f := Jo.Fact.eq (.pointer (some ⟨w.heap.size + 1, 0, none⟩))) rfl rfl rfl rfl (fun vs wj hJ hd K hK => ?_) ?_
    · clear hd
      simp only [Jo.putl, List.foldl_nil, Act.put, List.setIfInBounds_toArray, List.set_cons_zero, List.set_cons_succ] at hK ⊢
      go_simp
      exact hK.out _ _ rfl (Below.refl _ _)
    refine Jo.jcons (i := 4) (o := ⟨some 17, _, _, _, _, _⟩) (di := some 17) (L := [(some 16, 3)]) (f := Jo.Fact.eq (.agg #[.bool s2, .slice A2 n2 c2])) rfl rfl rfl rfl (fun vs wj hJ hd K hK => ?_) ?_
    · have d3 : (Jo.Fact.eq (.pointer (some ⟨w.heap.size + 1, 0, none⟩))).P (vs 3) wj := hd 3 (by decide)
      clear hd
      simp only [Jo.putl, List.foldl_cons, List.foldl_nil, Act.put, List.setIfInBounds_toArray, List.set_cons_zero, List.set_cons_succ] at hK ⊢
      generalize vs 3 = u3 at hK d3 ⊢
      replace d3 : u3 = _ := d3
      subst d3
      have xX20 : World.cell? wj ⟨w.heap.size + 1, 0, none⟩ = some (.bool s2) := (X2.below hJ).cell 0
      have xX21 : World.cell? wj ⟨w.heap.size + 1, 1, none⟩ = some (.slice A2 n2 c2) := (X2.below hJ).cell 1
      have xX22 : World.cell? wj ⟨w.heap.size + 1, 2, none⟩ = some (.int .i64 E2) := (X2.below hJ).cell 2
      go_simp
      exact hK.out _ _ rfl (Below.refl _ _)
    refine Jo.jcons (i := 5) (o := ⟨some 18, _, _, _, _, _⟩) (di := some 18) (L := [(some 17, 4)]) (f := Jo.Fact.eq (.int .i64 τ)) rfl rfl rfl rfl (fun vs wj hJ hd K hK => ?_) ?_
    · have d4 : (Jo.Fact.eq (.agg #[.bool s2, .slice A2 n2 c2])).P (vs 4) wj := hd 4 (by decide)
      clear hd
      simp only [Jo.putl, List.foldl_cons, List.foldl_nil, Act.put, List.setIfInBounds_toArray, List.set_cons_zero, List.set_cons_succ] at hK ⊢
      generalize vs 4 = u4 at hK d4 ⊢
      replace d4 : u4 = _ := d4
      subst d4
      go_simp
      refine (wSign (p2.below hJ).wr HS2.out).mono ?_
      rintro ee wk ⟨rfl, B⟩
      exact hK.out _ _ rfl B
    refine Jo.jcons (i := 6) (o := ⟨some 5, _, _, _, _, _⟩) (di := some 5) (L := [(some 15, 2)]) (f := Jo.Fact.eq (.int .i64 σ)) rfl rfl rfl rfl (fun vs wj hJ hd K hK => ?_) ?_
    · have d2 : (Jo.Fact.eq (.int .i64 σ)).P (vs 2) wj := hd 2 (by decide)
      clear hd
      simp only [Jo.putl, List.foldl_cons, List.foldl_nil, Act.put, List.setIfInBounds_toArray, List.set_cons_zero, List.set_cons_succ] at hK ⊢
      generalize vs 2 = u2 at hK d2 ⊢
      replace d2 : u2 = _ := d2
      subst d2
      go_simp
      exact hK.out _ _ rfl (Below.refl _ _)
    refine Jo.jcons (i := 7) (o := ⟨some 6, _, _, _, _, _⟩) (di := some 6) (L := [(some 18, 5)]) (f := Jo.Fact.eq (.int .i64 τ)) rfl rfl rfl rfl (fun vs wj hJ hd K hK => ?_) ?_
    · have d5 : (Jo.Fact.eq (.int .i64 τ)).P (vs 5) wj := hd 5 (by decide)
      clear hd
      simp only [Jo.putl, List.foldl_cons, List.foldl_nil, Act.put, List.setIfInBounds_toArray, List.set_cons_zero, List.set_cons_succ] at hK ⊢
      generalize vs 5 = u5 at hK d5 ⊢
      replace d5 : u5 = _ := d5
      subst d5
      go_simp
      exact hK.out _ _ rfl (Below.refl _ _)
    exact Jo.Steps.nil
  have d0 : (Jo.Fact.eq (.pointer (some ⟨w.heap.size, 0, none⟩))).P (vs 0) w5 := hd 0 (by decide)
  have d1 : (Jo.Fact.eq (.agg #[.bool s1, .slice A1 n1 c1])).P (vs 1) w5 := hd 1 (by decide)
  have d2 : (Jo.Fact.eq (.int .i64 σ)).P (vs 2) w5 := hd 2 (by decide)
  have d3 : (Jo.Fact.eq (.pointer (some ⟨w.heap.size + 1, 0, none⟩))).P (vs 3) w5 := hd 3 (by decide)
  have d4 : (Jo.Fact.eq (.agg #[.bool s2, .slice A2 n2 c2])).P (vs 4) w5 := hd 4 (by decide)
  have d5 : (Jo.Fact.eq (.int .i64 τ)).P (vs 5) w5 := hd 5 (by decide)
  have d6 : (Jo.Fact.eq (.int .i64 σ)).P (vs 6) w5 := hd 6 (by decide)
  have d7 : (Jo.Fact.eq (.int .i64 τ)).P (vs 7) w5 := hd 7 (by decide)
  clear hd
  simp only [Jo.putl, List.foldl_cons, List.foldl_nil, Act.put, List.setIfInBounds_toArray, List.set_cons_zero, List.set_cons_succ]
  generalize vs 0 = u0 at d0 ⊢
  generalize vs 1 = u1 at d1 ⊢
  generalize vs 2 = u2 at d2 ⊢
  generalize vs 3 = u3 at d3 ⊢
  generalize vs 4 = u4 at d4 ⊢
  generalize vs 5 = u5 at d5 ⊢
  generalize vs 6 = u6 at d6 ⊢
  generalize vs 7 = u7 at d7 ⊢
  clear vs
  replace d0 : u0 = _ := d0
  subst d0
  replace d1 : u1 = _ := d1
  subst d1
  replace d2 : u2 = _ := d2
  subst d2
  replace d3 : u3 = _ := d3
  subst d3
  replace d4 : u4 = _ := d4
  subst d4
  replace d5 : u5 = _ := d5
  subst d5
  replace d6 : u6 = _ := d6
  subst d6
  replace d7 : u7 = _ := d7
  subst d7
  replace X1 := X1.below hJ
  replace X2 := X2.below hJ
  replace p1 := p1.below hJ
  replace p2 := p2.below hJ
  replace HB := Lib.hid (bt HB.out hJ)
  refine Jo.jdone (by kernel_rfl) ?_
  go_wp2_with (first | (go_at_call 61; ((with_reducible refine (compareInt_any _ _ _).mono ?_); rintro ee w6 ⟨rfl, rfl⟩)))
  go_ret
  exact ⟨ret_int HR.out, HB.out⟩

set_option maxHeartbeats 4000000 in
theorem dcmp_tops {w : World} {A B : Option Addr} {n c m d : Nat} {s t : Bool} {z e y f N1 E1 N2 E2 σ τ x1 x2 p r : Int} (hT : Tab w) (h : Wr w s A n c z) (k : Wr w t B m d y) (hn : n ≤ 100000) (hm : m ≤ 100000) (b1 : -4194304 ≤ E1) (b2 : E1 ≤ 4194304) (b3 : -4194304 ≤ E2) (b4 : E2 ≤ 4194304)
    (HN1 : Hid ((mk z e).1 = N1)) (HE1 : Hid ((mk z e).2 = E1)) (HN2 : Hid ((mk y f).1 = N2)) (HE2 : Hid ((mk y f).2 = E2)) (HS : Hid (cmpI N1 0 = σ)) (HS2 : Hid (cmpI N2 0 = τ)) (heq : σ = τ) (HX1 : Hid (((blen N1.natAbs : Nat) : Int) + E1 = x1)) (HX2 : Hid (((blen N2.natAbs : Nat) : Int) + E2 = x2)) (HP : Hid (cmpI x1 x2 = p)) (hp : p ≠ 0) (HR : Hid (σ * p = r)) :
    Calls Tryd.prog 31 #[.agg #[.bool s, .slice A n c, .int .i64 e], .agg #[.bool t, .slice B m d, .int .i64 f]] w (PI w r) := by
  subst heq
  have q1 : (σ != σ) = false := by simp
  have q2 : (p != 0) = true := by simpa using hp
  have bs : -1 ≤ σ ∧ σ ≤ 1 := HS.out ▸ cmpI_bd _ _
  have bp : -1 ≤ p ∧ p ≤ 1 := HP.out ▸ cmpI_bd _ _
  have HW : Hid (IntKind.i64.wrap (σ * p) = r) := Lib.hid (by
    rw [← HR.out]
    refine IntWalk.i64_in _ ?_
    obtain ⟨s1, s2⟩ := bs
    obtain ⟨p1, p2⟩ := bp
    rcases (by omega : σ = -1 ∨ σ = 0 ∨ σ = 1) with e | e | e <;> rcases (by omega : p = -1 ∨ p = 0 ∨ p = 1) with e2 | e2 | e2 <;> rw [e, e2] <;> decide)
  clear hp bs bp
  go_enter Tryd.func31, Tryd.ntmps31
  go_upto_region 1 with (fail)
  have X1 := (Bo.newAt w (g := w.heap.size) (by simp) #[.bool s, .slice A n c, .int .i64 e] 27).below (bel1 _ (.cells #[.bool t, .slice B m d, .int .i64 f] 27))
  have X2 := (Bo.newAt (w.alloc (.cells #[.bool s, .slice A n c, .int .i64 e] 27)) (g := w.heap.size + 1) (by simp) #[.bool t, .slice B m d, .int .i64 f] 27)
  have HB := Lib.hid (bel2 w (.cells #[.bool s, .slice A n c, .int .i64 e] 27) (.cells #[.bool t, .slice B m d, .int .i64 f] 27))
  replace hT := hT.below HB.out
  replace h := h.below HB.out
  replace k := k.below HB.out
  generalize hW1 : ((w.alloc (.cells #[.bool s, .slice A n c, .int .i64 e] 27)).alloc (.cells #[.bool t, .slice B m d, .int .i64 f] 27)) = w1 at *
  clear hW1
  refine Jo.region_joint (T := [0, 1, 2, 3]) (ds := [some 9, some 10, some 11, some 12, none, none]) (ls := [[], [0], [], [2], [], []]) (k := 6) (L := [(some 9, 0), (some 10, 1), (some 11, 2), (some 12, 3)]) (fuel := 2) (J := fun wj => Below (World.heap w1).size w1 wj)
    (F := [Jo.Fact.eq (.agg #[.bool s, .slice A n c, .int .i64 e]), Jo.Fact.dy N1 E1 n, Jo.Fact.eq (.agg #[.bool t, .slice B m d, .int .i64 f]), Jo.Fact.dy N2 E2 m, Jo.Fact.any, Jo.Fact.any])
    (by kernel_rfl) (by kernel_rfl) (by decide) rfl rfl (fun _ _ h b => bt h b) ((Below.refl _ _).drew) ?_ (fun vs w2 hJ hd => ?_)
  · refine Jo.jcons (i := 0) (o := ⟨some 9, _, _, _, _, _⟩) (di := some 9) (L := []) (f := Jo.Fact.eq (.agg #[.bool s, .slice A n c, .int .i64 e])) rfl rfl rfl rfl (fun vs wj hJ hd K hK => ?_) ?_
    · clear hd
      simp only [Jo.putl, List.foldl_nil, Act.put, List.setIfInBounds_toArray, List.set_cons_zero, List.set_cons_succ] at hK ⊢
      have xX10 : World.cell? wj ⟨w.heap.size, 0, none⟩ = some (.bool s) := (X1.below hJ).cell 0
      have xX11 : World.cell? wj ⟨w.heap.size, 1, none⟩ = some (.slice A n c) := (X1.below hJ).cell 1
      have xX12 : World.cell? wj ⟨w.heap.size, 2, none⟩ = some (.int .i64 e) := (X1.below hJ).cell 2
      go_simp
      exact hK.out _ _ rfl (Below.refl _ _)
    refine Jo.jcons (i := 1) (o := ⟨some 10, _, _, _, _, _⟩) (di := some 10) (L := [(some 9, 0)]) (f := Jo.Fact.dy N1 E1 n) rfl rfl rfl rfl (fun vs wj hJ hd K hK => ?_) ?_
    · have d0 : (Jo.Fact.eq (.agg #[.bool s, .slice A n c, .int .i64 e])).P (vs 0) wj := hd 0 (by decide)
      clear hd
      simp only [Jo.putl, List.foldl_cons, List.foldl_nil, Act.put, List.setIfInBounds_toArray, List.set_cons_zero, List.set_cons_succ] at hK ⊢
      generalize vs 0 = u0 at hK d0 ⊢
      replace d0 : u0 = _ := d0
      subst d0
      go_simp
      refine (dTaken (hT.below hJ) (h.below hJ) (by omega) HN1.out HE1.out).mono ?_
      rintro ee wk ⟨s1, A1, n1, c1, rfl, p1, k1, B⟩
      exact hK.out _ _ ⟨s1, A1, n1, c1, rfl, p1, k1⟩ B
    refine Jo.jcons (i := 2) (o := ⟨some 11, _, _, _, _, _⟩) (di := some 11) (L := []) (f := Jo.Fact.eq (.agg #[.bool t, .slice B m d, .int .i64 f])) rfl rfl rfl rfl (fun vs wj hJ hd K hK => ?_) ?_
    · clear hd
      simp only [Jo.putl, List.foldl_nil, Act.put, List.setIfInBounds_toArray, List.set_cons_zero, List.set_cons_succ] at hK ⊢
      have xX20 : World.cell? wj ⟨w.heap.size + 1, 0, none⟩ = some (.bool t) := (X2.below hJ).cell 0
      have xX21 : World.cell? wj ⟨w.heap.size + 1, 1, none⟩ = some (.slice B m d) := (X2.below hJ).cell 1
      have xX22 : World.cell? wj ⟨w.heap.size + 1, 2, none⟩ = some (.int .i64 f) := (X2.below hJ).cell 2
      go_simp
      exact hK.out _ _ rfl (Below.refl _ _)
    refine Jo.jcons (i := 3) (o := ⟨some 12, _, _, _, _, _⟩) (di := some 12) (L := [(some 11, 2)]) (f := Jo.Fact.dy N2 E2 m) rfl rfl rfl rfl (fun vs wj hJ hd K hK => ?_) ?_
    · have d2 : (Jo.Fact.eq (.agg #[.bool t, .slice B m d, .int .i64 f])).P (vs 2) wj := hd 2 (by decide)
      clear hd
      simp only [Jo.putl, List.foldl_cons, List.foldl_nil, Act.put, List.setIfInBounds_toArray, List.set_cons_zero, List.set_cons_succ] at hK ⊢
      generalize vs 2 = u2 at hK d2 ⊢
      replace d2 : u2 = _ := d2
      subst d2
      go_simp
      refine (dTaken (hT.below hJ) (k.below hJ) (by omega) HN2.out HE2.out).mono ?_
      rintro ee wk ⟨s2, A2, n2, c2, rfl, p2, k2, B⟩
      exact hK.out _ _ ⟨s2, A2, n2, c2, rfl, p2, k2⟩ B
    exact Jo.Steps.nil
  have d0 : (Jo.Fact.eq (.agg #[.bool s, .slice A n c, .int .i64 e])).P (vs 0) w2 := hd 0 (by decide)
  have d1 : (Jo.Fact.dy N1 E1 n).P (vs 1) w2 := hd 1 (by decide)
  have d2 : (Jo.Fact.eq (.agg #[.bool t, .slice B m d, .int .i64 f])).P (vs 2) w2 := hd 2 (by decide)
  have d3 : (Jo.Fact.dy N2 E2 m).P (vs 3) w2 := hd 3 (by decide)
  clear hd
  simp only [Jo.putl, List.foldl_cons, List.foldl_nil, Act.put, List.setIfInBounds_toArray, List.set_cons_zero, List.set_cons_succ]
  generalize vs 0 = u0 at d0 ⊢
  generalize vs 1 = u1 at d1 ⊢
  generalize vs 2 = u2 at d2 ⊢
  generalize vs 3 = u3 at d3 ⊢
  clear vs
  replace d0 : u0 = _ := d0
  subst d0
  obtain ⟨s1, A1, n1, c1, rfl, p1, k1⟩ := d1
  replace d2 : u2 = _ := d2
  subst d2
  obtain ⟨s2, A2, n2, c2, rfl, p2, k2⟩ := d3
  replace X1 := X1.below hJ
  replace X2 := X2.below hJ
  replace hT := hT.below hJ
  replace h := h.below hJ
  replace k := k.below hJ
  replace HB := Lib.hid (bt HB.out hJ)
  have xX10 := X1.at (i := 0) (v := .bool s) rfl
  have zX10 := X1.frozen 0
  have xX11 := X1.at (i := 1) (v := .slice A n c) rfl
  have zX11 := X1.frozen 1
  have xX12 := X1.at (i := 2) (v := .int .i64 e) rfl
  have zX12 := X1.frozen 2
  refine Jo.jnext (i := 4) (o := ⟨none, _, _, _, _, _⟩) (by kernel_rfl) rfl (fun K hK => ?_)
  go_simp
  refine hK.out _ _ ?_
  clear hK K xX10 zX10 xX11 zX11 xX12 zX12
  have SX := StN.mk3 X1 (.bool s1) (.slice A1 n1 c1) (.int .i64 E1)
  replace X2 := X2.stn SX (by omega)
  replace p1 := p1.stn SX (by simp [no32])
  replace p2 := p2.stn SX (by simp [no32])
  replace HB := Lib.hid (SX.below HB.out (by omega))
  replace X1 := SX.box
  clear SX
  generalize (World.setCell (World.setCell (World.setCell w2 ⟨w.heap.size, 0, none⟩ (.bool s1)) ⟨w.heap.size, 1, none⟩ (.slice A1 n1 c1)) ⟨w.heap.size, 2, none⟩ (.int .i64 E1)) = w3 at *
  have xX20 := X2.at (i := 0) (v := .bool t) rfl
  have zX20 := X2.frozen 0
  have xX21 := X2.at (i := 1) (v := .slice B m d) rfl
  have zX21 := X2.frozen 1
  have xX22 := X2.at (i := 2) (v := .int .i64 f) rfl
  have zX22 := X2.frozen 2
  refine Jo.jnext (i := 5) (o := ⟨none, _, _, _, _, _⟩) (by kernel_rfl) rfl (fun K hK => ?_)
  go_simp
  refine hK.out _ _ ?_
  clear hK K xX20 zX20 xX21 zX21 xX22 zX22
  have SX := StN.mk3 X2 (.bool s2) (.slice A2 n2 c2) (.int .i64 E2)
  replace X1 := X1.stn SX (by omega)
  replace p1 := p1.stn SX (by simp [no32])
  replace p2 := p2.stn SX (by simp [no32])
  replace HB := Lib.hid (SX.below HB.out (by omega))
  replace X2 := SX.box
  clear SX
  generalize (World.setCell (World.setCell (World.setCell w3 ⟨w.heap.size + 1, 0, none⟩ (.bool s2)) ⟨w.heap.size + 1, 1, none⟩ (.slice A2 n2 c2)) ⟨w.heap.size + 1, 2, none⟩ (.int .i64 E2)) = w4 at *
  refine Jo.jdone (by kernel_rfl) ?_
  go_upto_region 2 with (fail)
  refine Jo.region_joint (T := [0, 1, 2, 3, 4, 5, 6, 7]) (ds := [some 13, some 14, some 15, some 16, some 17, some 18, some 5, some 6]) (ls := [[], [0], [1], [], [3], [4], [2], [5]]) (k := 8) (L := [(some 13, 0), (some 14, 1), (some 15, 2), (some 16, 3), (some 17, 4), (some 18, 5), (some 5, 6), (some 6, 7)]) (fuel := 0) (J := fun wj => Below (World.heap w4).size w4 wj)
    (F := [Jo.Fact.eq (.pointer (some ⟨w.heap.size, 0, none⟩)), Jo.Fact.eq (.agg #[.bool s1, .slice A1 n1 c1]), Jo.Fact.eq (.int .i64 σ), Jo.Fact.eq (.pointer (some ⟨w.heap.size + 1, 0, none⟩)), Jo.Fact.eq (.agg #[.bool s2, .slice A2 n2 c2]), Jo.Fact.eq (.int .i64 σ), Jo.Fact.eq (.int .i64 σ), Jo.Fact.eq (.int .i64 σ)])
    (by kernel_rfl) (by kernel_rfl) (by decide) rfl rfl (fun _ _ h b => bt h b) ((Below.refl _ _).drew) ?_ (fun vs w5 hJ hd => ?_)
  · refine Jo.jcons (i := 0) (o := ⟨some 13, _, _, _, _, _⟩) (di := some 13) (L := []) (f := Jo.Fact.eq (.pointer (some ⟨w.heap.size, 0, none⟩))) rfl rfl rfl rfl (fun vs wj hJ hd K hK => ?_) ?_
    · clear hd
      simp only [Jo.putl, List.foldl_nil, Act.put, List.setIfInBounds_toArray, List.set_cons_zero, List.set_cons_succ] at hK ⊢
      go_simp
      exact hK.out _ _ rfl (Below.refl _ _)
    refine Jo.jcons (i := 1) (o := ⟨some 14, _, _, _, _, _⟩) (di := some 14) (L := [(some 13, 0)]) (f := Jo.Fact.eq (.agg #[.bool s1, .slice A1 n1 c1])) rfl rfl rfl rfl (fun vs wj hJ hd K hK => ?_) ?_
    · have d0 : (Jo.Fact.eq (.pointer (some ⟨w.heap.size, 0, none⟩))).P (vs 0) wj := hd 0 (by decide)
      clear hd
      simp only [Jo.putl, List.foldl_cons, List.foldl_nil, Act.put, List.setIfInBounds_toArray, List.set_cons_zero, List.set_cons_succ] at hK ⊢
      generalize vs 0 = u0 at hK d0 ⊢
      replace d0 : u0 = _ := d0
      subst d0
      have xX10 : World.cell? wj ⟨w.heap.size, 0, none⟩ = some (.bool s1) := (X1.below hJ).cell 0
      have xX11 : World.cell? wj ⟨w.heap.size, 1, none⟩ = some (.slice A1 n1 c1) := (X1.below hJ).cell 1
      have xX12 : World.cell? wj ⟨w.heap.size, 2, none⟩ = some (.int .i64 E1) := (X1.below hJ).cell 2
      go_simp
      exact hK.out _ _ rfl (Below.refl _ _)
    refine Jo.jcons (i := 2) (o := ⟨some 15, _, _, _, _, _⟩) (di := some 15) (L := [(some 14, 1)]) (f := Jo.Fact.eq (.int .i64 σ)) rfl rfl rfl rfl (fun vs wj hJ hd K hK => ?_) ?_
    · have d1 : (Jo.Fact.eq (.agg #[.bool s1, .slice A1 n1 c1])).P (vs 1) wj := hd 1 (by decide)
      clear hd
      simp only [Jo.putl, List.foldl_cons, List.foldl_nil, Act.put, List.setIfInBounds_toArray, List.set_cons_zero, List.set_cons_succ] at hK ⊢
      generalize vs 1 = u1 at hK d1 ⊢
      replace d1 : u1 = _ := d1
      subst d1
      go_simp
      refine (wSign (p1.below hJ).wr HS.out).mono ?_
      rintro ee wk ⟨rfl, B⟩
      exact hK.out _ _ rfl B
    refine Jo.jcons (i := 3) (o := ⟨some 16, _, _, _, _, _⟩) (di := some 16) (L := []) (f := Jo.Fact.eq (.pointer (some ⟨w.heap.size + 1, 0, none⟩))) rfl rfl rfl rfl (fun vs wj hJ hd K hK => ?_) ?_
    · clear hd
      simp only [Jo.putl, List.foldl_nil, Act.put, List.setIfInBounds_toArray, List.set_cons_zero, List.set_cons_succ] at hK ⊢
      go_simp
      exact hK.out _ _ rfl (Below.refl _ _)
    refine Jo.jcons (i := 4) (o := ⟨some 17, _, _, _, _, _⟩) (di := some 17) (L := [(some 16, 3)]) (f := Jo.Fact.eq (.agg #[.bool s2, .slice A2 n2 c2])) rfl rfl rfl rfl (fun vs wj hJ hd K hK => ?_) ?_
    · have d3 : (Jo.Fact.eq (.pointer (some ⟨w.heap.size + 1, 0, none⟩))).P (vs 3) wj := hd 3 (by decide)
      clear hd
      simp only [Jo.putl, List.foldl_cons, List.foldl_nil, Act.put, List.setIfInBounds_toArray, List.set_cons_zero, List.set_cons_succ] at hK ⊢
      generalize vs 3 = u3 at hK d3 ⊢
      replace d3 : u3 = _ := d3
      subst d3
      have xX20 : World.cell? wj ⟨w.heap.size + 1, 0, none⟩ = some (.bool s2) := (X2.below hJ).cell 0
      have xX21 : World.cell? wj ⟨w.heap.size + 1, 1, none⟩ = some (.slice A2 n2 c2) := (X2.below hJ).cell 1
      have xX22 : World.cell? wj ⟨w.heap.size + 1, 2, none⟩ = some (.int .i64 E2) := (X2.below hJ).cell 2
      go_simp
      exact hK.out _ _ rfl (Below.refl _ _)
    refine Jo.jcons (i := 5) (o := ⟨some 18, _, _, _, _, _⟩) (di := some 18) (L := [(some 17, 4)]) (f := Jo.Fact.eq (.int .i64 σ)) rfl rfl rfl rfl (fun vs wj hJ hd K hK => ?_) ?_
    · have d4 : (Jo.Fact.eq (.agg #[.bool s2, .slice A2 n2 c2])).P (vs 4) wj := hd 4 (by decide)
      clear hd
      simp only [Jo.putl, List.foldl_cons, List.foldl_nil, Act.put, List.setIfInBounds_toArray, List.set_cons_zero, List.set_cons_succ] at hK ⊢
      generalize vs 4 = u4 at hK d4 ⊢
      replace d4 : u4 = _ := d4
      subst d4
      go_simp
      refine (wSign (p2.below hJ).wr HS2.out).mono ?_
      rintro ee wk ⟨rfl, B⟩
      exact hK.out _ _ rfl B
    refine Jo.jcons (i := 6) (o := ⟨some 5, _, _, _, _, _⟩) (di := some 5) (L := [(some 15, 2)]) (f := Jo.Fact.eq (.int .i64 σ)) rfl rfl rfl rfl (fun vs wj hJ hd K hK => ?_) ?_
    · have d2 : (Jo.Fact.eq (.int .i64 σ)).P (vs 2) wj := hd 2 (by decide)
      clear hd
      simp only [Jo.putl, List.foldl_cons, List.foldl_nil, Act.put, List.setIfInBounds_toArray, List.set_cons_zero, List.set_cons_succ] at hK ⊢
      generalize vs 2 = u2 at hK d2 ⊢
      replace d2 : u2 = _ := d2
      subst d2
      go_simp
      exact hK.out _ _ rfl (Below.refl _ _)
    refine Jo.jcons (i := 7) (o := ⟨some 6, _, _, _, _, _⟩) (di := some 6) (L := [(some 18, 5)]) (f := Jo.Fact.eq (.int .i64 σ)) rfl rfl rfl rfl (fun vs wj hJ hd K hK => ?_) ?_
    · have d5 : (Jo.Fact.eq (.int .i64 σ)).P (vs 5) wj := hd 5 (by decide)
      clear hd
      simp only [Jo.putl, List.foldl_cons, List.foldl_nil, Act.put, List.setIfInBounds_toArray, List.set_cons_zero, List.set_cons_succ] at hK ⊢
      generalize vs 5 = u5 at hK d5 ⊢
      replace d5 : u5 = _ := d5
      subst d5
      go_simp
      exact hK.out _ _ rfl (Below.refl _ _)
    exact Jo.Steps.nil
  have d0 : (Jo.Fact.eq (.pointer (some ⟨w.heap.size, 0, none⟩))).P (vs 0) w5 := hd 0 (by decide)
  have d1 : (Jo.Fact.eq (.agg #[.bool s1, .slice A1 n1 c1])).P (vs 1) w5 := hd 1 (by decide)
  have d2 : (Jo.Fact.eq (.int .i64 σ)).P (vs 2) w5 := hd 2 (by decide)
  have d3 : (Jo.Fact.eq (.pointer (some ⟨w.heap.size + 1, 0, none⟩))).P (vs 3) w5 := hd 3 (by decide)
  have d4 : (Jo.Fact.eq (.agg #[.bool s2, .slice A2 n2 c2])).P (vs 4) w5 := hd 4 (by decide)
  have d5 : (Jo.Fact.eq (.int .i64 σ)).P (vs 5) w5 := hd 5 (by decide)
  have d6 : (Jo.Fact.eq (.int .i64 σ)).P (vs 6) w5 := hd 6 (by decide)
  have d7 : (Jo.Fact.eq (.int .i64 σ)).P (vs 7) w5 := hd 7 (by decide)
  clear hd
  simp only [Jo.putl, List.foldl_cons, List.foldl_nil, Act.put, List.setIfInBounds_toArray, List.set_cons_zero, List.set_cons_succ]
  generalize vs 0 = u0 at d0 ⊢
  generalize vs 1 = u1 at d1 ⊢
  generalize vs 2 = u2 at d2 ⊢
  generalize vs 3 = u3 at d3 ⊢
  generalize vs 4 = u4 at d4 ⊢
  generalize vs 5 = u5 at d5 ⊢
  generalize vs 6 = u6 at d6 ⊢
  generalize vs 7 = u7 at d7 ⊢
  clear vs
  replace d0 : u0 = _ := d0
  subst d0
  replace d1 : u1 = _ := d1
  subst d1
  replace d2 : u2 = _ := d2
  subst d2
  replace d3 : u3 = _ := d3
  subst d3
  replace d4 : u4 = _ := d4
  subst d4
  replace d5 : u5 = _ := d5
  subst d5
  replace d6 : u6 = _ := d6
  subst d6
  replace d7 : u7 = _ := d7
  subst d7
  replace X1 := X1.below hJ
  replace X2 := X2.below hJ
  replace p1 := p1.below hJ
  replace p2 := p2.below hJ
  replace HB := Lib.hid (bt HB.out hJ)
  refine Jo.jdone (by kernel_rfl) ?_
  go_upto_region 5 with (fail)
  refine Jo.region_joint (T := [0, 1, 2, 3, 4, 5]) (ds := [some 25, some 26, some 27, some 28, some 29, some 7]) (ls := [[], [0], [], [2], [1, 3], [4]]) (k := 6) (L := [(some 25, 0), (some 26, 1), (some 27, 2), (some 28, 3), (some 29, 4), (some 7, 5)]) (fuel := 0) (J := fun wj => Below (World.heap w5).size w5 wj)
    (F := [Jo.Fact.eq (.agg #[.bool s1, .slice A1 n1 c1, .int .i64 E1]), Jo.Fact.eq (.int .i64 x1), Jo.Fact.eq (.agg #[.bool s2, .slice A2 n2 c2, .int .i64 E2]), Jo.Fact.eq (.int .i64 x2), Jo.Fact.eq (.int .i64 p), Jo.Fact.eq (.int .i64 p)])
    (by kernel_rfl) (by kernel_rfl) (by decide) rfl rfl (fun _ _ h b => bt h b) ((Below.refl _ _).drew) ?_ (fun vs w6 hJ hd => ?_)
  · refine Jo.jcons (i := 0) (o := ⟨some 25, _, _, _, _, _⟩) (di := some 25) (L := []) (f := Jo.Fact.eq (.agg #[.bool s1, .slice A1 n1 c1, .int .i64 E1])) rfl rfl rfl rfl (fun vs wj hJ hd K hK => ?_) ?_
    · clear hd
      simp only [Jo.putl, List.foldl_nil, Act.put, List.setIfInBounds_toArray, List.set_cons_zero, List.set_cons_succ] at hK ⊢
      have xX10 : World.cell? wj ⟨w.heap.size, 0, none⟩ = some (.bool s1) := (X1.below hJ).cell 0
      have xX11 : World.cell? wj ⟨w.heap.size, 1, none⟩ = some (.slice A1 n1 c1) := (X1.below hJ).cell 1
      have xX12 : World.cell? wj ⟨w.heap.size, 2, none⟩ = some (.int .i64 E1) := (X1.below hJ).cell 2
      go_simp
      exact hK.out _ _ rfl (Below.refl _ _)
    refine Jo.jcons (i := 1) (o := ⟨some 26, _, _, _, _, _⟩) (di := some 26) (L := [(some 25, 0)]) (f := Jo.Fact.eq (.int .i64 x1)) rfl rfl rfl rfl (fun vs wj hJ hd K hK => ?_) ?_
    · have d0 : (Jo.Fact.eq (.agg #[.bool s1, .slice A1 n1 c1, .int .i64 E1])).P (vs 0) wj := hd 0 (by decide)
      clear hd
      simp only [Jo.putl, List.foldl_cons, List.foldl_nil, Act.put, List.setIfInBounds_toArray, List.set_cons_zero, List.set_cons_succ] at hK ⊢
      generalize vs 0 = u0 at hK d0 ⊢
      replace d0 : u0 = _ := d0
      subst d0
      go_simp
      refine (dHighest (p1.below hJ) (by omega) b1 b2 HX1.out).mono ?_
      rintro ee wk ⟨rfl, B⟩
      exact hK.out _ _ rfl B
    refine Jo.jcons (i := 2) (o := ⟨some 27, _, _, _, _, _⟩) (di := some 27) (L := []) (f := Jo.Fact.eq (.agg #[.bool s2, .slice A2 n2 c2, .int .i64 E2])) rfl rfl rfl rfl (fun vs wj hJ hd K hK => ?_) ?_
    · clear hd
      simp only [Jo.putl, List.foldl_nil, Act.put, List.setIfInBounds_toArray, List.set_cons_zero, List.set_cons_succ] at hK ⊢
      have xX20 : World.cell? wj ⟨w.heap.size + 1, 0, none⟩ = some (.bool s2) := (X2.below hJ).cell 0
      have xX21 : World.cell? wj ⟨w.heap.size + 1, 1, none⟩ = some (.slice A2 n2 c2) := (X2.below hJ).cell 1
      have xX22 : World.cell? wj ⟨w.heap.size + 1, 2, none⟩ = some (.int .i64 E2) := (X2.below hJ).cell 2
      go_simp
      exact hK.out _ _ rfl (Below.refl _ _)
    refine Jo.jcons (i := 3) (o := ⟨some 28, _, _, _, _, _⟩) (di := some 28) (L := [(some 27, 2)]) (f := Jo.Fact.eq (.int .i64 x2)) rfl rfl rfl rfl (fun vs wj hJ hd K hK => ?_) ?_
    · have d2 : (Jo.Fact.eq (.agg #[.bool s2, .slice A2 n2 c2, .int .i64 E2])).P (vs 2) wj := hd 2 (by decide)
      clear hd
      simp only [Jo.putl, List.foldl_cons, List.foldl_nil, Act.put, List.setIfInBounds_toArray, List.set_cons_zero, List.set_cons_succ] at hK ⊢
      generalize vs 2 = u2 at hK d2 ⊢
      replace d2 : u2 = _ := d2
      subst d2
      go_simp
      refine (dHighest (p2.below hJ) (by omega) b3 b4 HX2.out).mono ?_
      rintro ee wk ⟨rfl, B⟩
      exact hK.out _ _ rfl B
    refine Jo.jcons (i := 4) (o := ⟨some 29, _, _, _, _, _⟩) (di := some 29) (L := [(some 26, 1), (some 28, 3)]) (f := Jo.Fact.eq (.int .i64 p)) rfl rfl rfl rfl (fun vs wj hJ hd K hK => ?_) ?_
    · have d1 : (Jo.Fact.eq (.int .i64 x1)).P (vs 1) wj := hd 1 (by decide)
      have d3 : (Jo.Fact.eq (.int .i64 x2)).P (vs 3) wj := hd 3 (by decide)
      clear hd
      simp only [Jo.putl, List.foldl_cons, List.foldl_nil, Act.put, List.setIfInBounds_toArray, List.set_cons_zero, List.set_cons_succ] at hK ⊢
      generalize vs 1 = u1 at hK d1 ⊢
      generalize vs 3 = u3 at hK d3 ⊢
      replace d1 : u1 = _ := d1
      subst d1
      replace d3 : u3 = _ := d3
      subst d3
      go_simp
      refine (compareInt_any x1 x2 wj).mono ?_
      rintro ee wk ⟨rfl, rfl⟩
      exact hK.out _ _ (val_int HP.out) (Below.refl _ _)
    refine Jo.jcons (i := 5) (o := ⟨some 7, _, _, _, _, _⟩) (di := some 7) (L := [(some 29, 4)]) (f := Jo.Fact.eq (.int .i64 p)) rfl rfl rfl rfl (fun vs wj hJ hd K hK => ?_) ?_
    · have d4 : (Jo.Fact.eq (.int .i64 p)).P (vs 4) wj := hd 4 (by decide)
      clear hd
      simp only [Jo.putl, List.foldl_cons, List.foldl_nil, Act.put, List.setIfInBounds_toArray, List.set_cons_zero, List.set_cons_succ] at hK ⊢
      generalize vs 4 = u4 at hK d4 ⊢
      replace d4 : u4 = _ := d4
      subst d4
      go_simp
      exact hK.out _ _ rfl (Below.refl _ _)
    exact Jo.Steps.nil
  have d0 : (Jo.Fact.eq (.agg #[.bool s1, .slice A1 n1 c1, .int .i64 E1])).P (vs 0) w6 := hd 0 (by decide)
  have d1 : (Jo.Fact.eq (.int .i64 x1)).P (vs 1) w6 := hd 1 (by decide)
  have d2 : (Jo.Fact.eq (.agg #[.bool s2, .slice A2 n2 c2, .int .i64 E2])).P (vs 2) w6 := hd 2 (by decide)
  have d3 : (Jo.Fact.eq (.int .i64 x2)).P (vs 3) w6 := hd 3 (by decide)
  have d4 : (Jo.Fact.eq (.int .i64 p)).P (vs 4) w6 := hd 4 (by decide)
  have d5 : (Jo.Fact.eq (.int .i64 p)).P (vs 5) w6 := hd 5 (by decide)
  clear hd
  simp only [Jo.putl, List.foldl_cons, List.foldl_nil, Act.put, List.setIfInBounds_toArray, List.set_cons_zero, List.set_cons_succ]
  generalize vs 0 = u0 at d0 ⊢
  generalize vs 1 = u1 at d1 ⊢
  generalize vs 2 = u2 at d2 ⊢
  generalize vs 3 = u3 at d3 ⊢
  generalize vs 4 = u4 at d4 ⊢
  generalize vs 5 = u5 at d5 ⊢
  clear vs
  replace d0 : u0 = _ := d0
  subst d0
  replace d1 : u1 = _ := d1
  subst d1
  replace d2 : u2 = _ := d2
  subst d2
  replace d3 : u3 = _ := d3
  subst d3
  replace d4 : u4 = _ := d4
  subst d4
  replace d5 : u5 = _ := d5
  subst d5
  replace X1 := X1.below hJ
  replace X2 := X2.below hJ
  replace p1 := p1.below hJ
  replace p2 := p2.below hJ
  replace HB := Lib.hid (bt HB.out hJ)
  refine Jo.jdone (by kernel_rfl) ?_
  have hw := HW.out
  go_wp2
  go_ret
  exact ⟨rfl, HB.out⟩

set_option maxHeartbeats 4000000 in
theorem dcmp_up {w : World} {A B : Option Addr} {n c m d : Nat} {s t : Bool} {z e y f N1 E1 N2 E2 σ τ x1 x2 p r : Int} (hT : Tab w) (h : Wr w s A n c z) (k : Wr w t B m d y) (hn : n ≤ 100000) (hm : m ≤ 100000) (b1 : -4194304 ≤ E1) (b2 : E1 ≤ 4194304) (b3 : -4194304 ≤ E2) (b4 : E2 ≤ 4194304)
    (HN1 : Hid ((mk z e).1 = N1)) (HE1 : Hid ((mk z e).2 = E1)) (HN2 : Hid ((mk y f).1 = N2)) (HE2 : Hid ((mk y f).2 = E2)) (HS : Hid (cmpI N1 0 = σ)) (HS2 : Hid (cmpI N2 0 = τ)) (heq : σ = τ) (HX1 : Hid (((blen N1.natAbs : Nat) : Int) + E1 = x1)) (HX2 : Hid (((blen N2.natAbs : Nat) : Int) + E2 = x2)) (HP : Hid (cmpI x1 x2 = p)) (hp : p = 0) (hle : E1 ≤ E2) (HR : Hid (cmpI (N1 * ((2 ^ (E1 - E1).toNat : Nat) : Int)) (N2 * ((2 ^ (E2 - E1).toNat : Nat) : Int)) = r)) :
    Calls Tryd.prog 31 #[.agg #[.bool s, .slice A n c, .int .i64 e], .agg #[.bool t, .slice B m d, .int .i64 f]] w (PI w r) := by
  subst heq
  have q3 : (p != 0) = false := by simpa using hp
  clear hp
  have q1 : (σ != σ) = false := by simp
  have q2 : decide (E2 < E1) = false := by simp; omega
  go_enter Tryd.func31, Tryd.ntmps31
  go_upto_region 1 with (fail)
  have X1 := (Bo.newAt w (g := w.heap.size) (by simp) #[.bool s, .slice A n c, .int .i64 e] 27).below (bel1 _ (.cells #[.bool t, .slice B m d, .int .i64 f] 27))
  have X2 := (Bo.newAt (w.alloc (.cells #[.bool s, .slice A n c, .int .i64 e] 27)) (g := w.heap.size + 1) (by simp) #[.bool t, .slice B m d, .int .i64 f] 27)
  have HB := Lib.hid (bel2 w (.cells #[.bool s, .slice A n c, .int .i64 e] 27) (.cells #[.bool t, .slice B m d, .int .i64 f] 27))
  replace hT := hT.below HB.out
  replace h := h.below HB.out
  replace k := k.below HB.out
  generalize hW1 : ((w.alloc (.cells #[.bool s, .slice A n c, .int .i64 e] 27)).alloc (.cells #[.bool t, .slice B m d, .int .i64 f] 27)) = w1 at *
  clear hW1
  refine Jo.region_joint (T := [0, 1, 2, 3]) (ds := [some 9, some 10, some 11, some 12, none, none]) (ls := [[], [0], [], [2], [], []]) (k := 6) (L := [(some 9, 0), (some 10, 1), (some 11, 2), (some 12, 3)]) (fuel := 2) (J := fun wj => Below (World.heap w1).size w1 wj)
    (F := [Jo.Fact.eq (.agg #[.bool s, .slice A n c, .int .i64 e]), Jo.Fact.dy N1 E1 n, Jo.Fact.eq (.agg #[.bool t, .slice B m d, .int .i64 f]), Jo.Fact.dy N2 E2 m, Jo.Fact.any, Jo.Fact.any])
    (by kernel_rfl) (by kernel_rfl) (by decide) rfl rfl (fun _ _ h b => bt h b) ((Below.refl _ _).drew) ?_ (fun vs w2 hJ hd => ?_)
  · refine Jo.jcons (i := 0) (o := ⟨some 9, _, _, _, _, _⟩) (di := some 9) (L := []) (f := Jo.Fact.eq (.agg #[.bool s, .slice A n c, .int .i64 e])) rfl rfl rfl rfl (fun vs wj hJ hd K hK => ?_) ?_
    · clear hd
      simp only [Jo.putl, List.foldl_nil, Act.put, List.setIfInBounds_toArray, List.set_cons_zero, List.set_cons_succ] at hK ⊢
      have xX10 : World.cell? wj ⟨w.heap.size, 0, none⟩ = some (.bool s) := (X1.below hJ).cell 0
      have xX11 : World.cell? wj ⟨w.heap.size, 1, none⟩ = some (.slice A n c) := (X1.below hJ).cell 1
      have xX12 : World.cell? wj ⟨w.heap.size, 2, none⟩ = some (.int .i64 e) := (X1.below hJ).cell 2
      go_simp
      exact hK.out _ _ rfl (Below.refl _ _)
    refine Jo.jcons (i := 1) (o := ⟨some 10, _, _, _, _, _⟩) (di := some 10) (L := [(some 9, 0)]) (f := Jo.Fact.dy N1 E1 n) rfl rfl rfl rfl (fun vs wj hJ hd K hK => ?_) ?_
    · have d0 : (Jo.Fact.eq (.agg #[.bool s, .slice A n c, .int .i64 e])).P (vs 0) wj := hd 0 (by decide)
      clear hd
      simp only [Jo.putl, List.foldl_cons, List.foldl_nil, Act.put, List.setIfInBounds_toArray, List.set_cons_zero, List.set_cons_succ] at hK ⊢
      generalize vs 0 = u0 at hK d0 ⊢
      replace d0 : u0 = _ := d0
      subst d0
      go_simp
      refine (dTaken (hT.below hJ) (h.below hJ) (by omega) HN1.out HE1.out).mono ?_
      rintro ee wk ⟨s1, A1, n1, c1, rfl, p1, k1, B⟩
      exact hK.out _ _ ⟨s1, A1, n1, c1, rfl, p1, k1⟩ B
    refine Jo.jcons (i := 2) (o := ⟨some 11, _, _, _, _, _⟩) (di := some 11) (L := []) (f := Jo.Fact.eq (.agg #[.bool t, .slice B m d, .int .i64 f])) rfl rfl rfl rfl (fun vs wj hJ hd K hK => ?_) ?_
    · clear hd
      simp only [Jo.putl, List.foldl_nil, Act.put, List.setIfInBounds_toArray, List.set_cons_zero, List.set_cons_succ] at hK ⊢
      have xX20 : World.cell? wj ⟨w.heap.size + 1, 0, none⟩ = some (.bool t) := (X2.below hJ).cell 0
      have xX21 : World.cell? wj ⟨w.heap.size + 1, 1, none⟩ = some (.slice B m d) := (X2.below hJ).cell 1
      have xX22 : World.cell? wj ⟨w.heap.size + 1, 2, none⟩ = some (.int .i64 f) := (X2.below hJ).cell 2
      go_simp
      exact hK.out _ _ rfl (Below.refl _ _)
    refine Jo.jcons (i := 3) (o := ⟨some 12, _, _, _, _, _⟩) (di := some 12) (L := [(some 11, 2)]) (f := Jo.Fact.dy N2 E2 m) rfl rfl rfl rfl (fun vs wj hJ hd K hK => ?_) ?_
    · have d2 : (Jo.Fact.eq (.agg #[.bool t, .slice B m d, .int .i64 f])).P (vs 2) wj := hd 2 (by decide)
      clear hd
      simp only [Jo.putl, List.foldl_cons, List.foldl_nil, Act.put, List.setIfInBounds_toArray, List.set_cons_zero, List.set_cons_succ] at hK ⊢
      generalize vs 2 = u2 at hK d2 ⊢
      replace d2 : u2 = _ := d2
      subst d2
      go_simp
      refine (dTaken (hT.below hJ) (k.below hJ) (by omega) HN2.out HE2.out).mono ?_
      rintro ee wk ⟨s2, A2, n2, c2, rfl, p2, k2, B⟩
      exact hK.out _ _ ⟨s2, A2, n2, c2, rfl, p2, k2⟩ B
    exact Jo.Steps.nil
  have d0 : (Jo.Fact.eq (.agg #[.bool s, .slice A n c, .int .i64 e])).P (vs 0) w2 := hd 0 (by decide)
  have d1 : (Jo.Fact.dy N1 E1 n).P (vs 1) w2 := hd 1 (by decide)
  have d2 : (Jo.Fact.eq (.agg #[.bool t, .slice B m d, .int .i64 f])).P (vs 2) w2 := hd 2 (by decide)
  have d3 : (Jo.Fact.dy N2 E2 m).P (vs 3) w2 := hd 3 (by decide)
  clear hd
  simp only [Jo.putl, List.foldl_cons, List.foldl_nil, Act.put, List.setIfInBounds_toArray, List.set_cons_zero, List.set_cons_succ]
  generalize vs 0 = u0 at d0 ⊢
  generalize vs 1 = u1 at d1 ⊢
  generalize vs 2 = u2 at d2 ⊢
  generalize vs 3 = u3 at d3 ⊢
  clear vs
  replace d0 : u0 = _ := d0
  subst d0
  obtain ⟨s1, A1, n1, c1, rfl, p1, k1⟩ := d1
  replace d2 : u2 = _ := d2
  subst d2
  obtain ⟨s2, A2, n2, c2, rfl, p2, k2⟩ := d3
  replace X1 := X1.below hJ
  replace X2 := X2.below hJ
  replace hT := hT.below hJ
  replace h := h.below hJ
  replace k := k.below hJ
  replace HB := Lib.hid (bt HB.out hJ)
  have xX10 := X1.at (i := 0) (v := .bool s) rfl
  have zX10 := X1.frozen 0
  have xX11 := X1.at (i := 1) (v := .slice A n c) rfl
  have zX11 := X1.frozen 1
  have xX12 := X1.at (i := 2) (v := .int .i64 e) rfl
  have zX12 := X1.frozen 2
  refine Jo.jnext (i := 4) (o := ⟨none, _, _, _, _, _⟩) (by kernel_rfl) rfl (fun K hK => ?_)
  go_simp
  refine hK.out _ _ ?_
  clear hK K xX10 zX10 xX11 zX11 xX12 zX12
  have SX := StN.mk3 X1 (.bool s1) (.slice A1 n1 c1) (.int .i64 E1)
  replace X2 := X2.stn SX (by omega)
  replace p1 := p1.stn SX (by simp [no32])
  replace p2 := p2.stn SX (by simp [no32])
  replace HB := Lib.hid (SX.below HB.out (by omega))
  replace X1 := SX.box
  clear SX
  generalize (World.setCell (World.setCell (World.setCell w2 ⟨w.heap.size, 0, none⟩ (.bool s1)) ⟨w.heap.size, 1, none⟩ (.slice A1 n1 c1)) ⟨w.heap.size, 2, none⟩ (.int .i64 E1)) = w3 at *
  have xX20 := X2.at (i := 0) (v := .bool t) rfl
  have zX20 := X2.frozen 0
  have xX21 := X2.at (i := 1) (v := .slice B m d) rfl
  have zX21 := X2.frozen 1
  have xX22 := X2.at (i := 2) (v := .int .i64 f) rfl
  have zX22 := X2.frozen 2
  refine Jo.jnext (i := 5) (o := ⟨none, _, _, _, _, _⟩) (by kernel_rfl) rfl (fun K hK => ?_)
  go_simp
  refine hK.out _ _ ?_
  clear hK K xX20 zX20 xX21 zX21 xX22 zX22
  have SX := StN.mk3 X2 (.bool s2) (.slice A2 n2 c2) (.int .i64 E2)
  replace X1 := X1.stn SX (by omega)
  replace p1 := p1.stn SX (by simp [no32])
  replace p2 := p2.stn SX (by simp [no32])
  replace HB := Lib.hid (SX.below HB.out (by omega))
  replace X2 := SX.box
  clear SX
  generalize (World.setCell (World.setCell (World.setCell w3 ⟨w.heap.size + 1, 0, none⟩ (.bool s2)) ⟨w.heap.size + 1, 1, none⟩ (.slice A2 n2 c2)) ⟨w.heap.size + 1, 2, none⟩ (.int .i64 E2)) = w4 at *
  refine Jo.jdone (by kernel_rfl) ?_
  go_upto_region 2 with (fail)
  refine Jo.region_joint (T := [0, 1, 2, 3, 4, 5, 6, 7]) (ds := [some 13, some 14, some 15, some 16, some 17, some 18, some 5, some 6]) (ls := [[], [0], [1], [], [3], [4], [2], [5]]) (k := 8) (L := [(some 13, 0), (some 14, 1), (some 15, 2), (some 16, 3), (some 17, 4), (some 18, 5), (some 5, 6), (some 6, 7)]) (fuel := 0) (J := fun wj => Below (World.heap w4).size w4 wj)
    (F := [Jo.Fact.eq (.pointer (some ⟨w.heap.size, 0, none⟩)), Jo.Fact.eq (.agg #[.bool s1, .slice A1 n1 c1]), Jo.Fact.eq (.int .i64 σ), Jo.Fact.eq (.pointer (some ⟨w.heap.size + 1, 0, none⟩)), Jo.Fact.eq (.agg #[.bool s2, .slice A2 n2 c2]), Jo.Fact.eq (.int .i64 σ), Jo.Fact.eq (.int .i64 σ), Jo.Fact.eq (.int .i64 σ)])
    (by kernel_rfl) (by kernel_rfl) (by decide) rfl rfl (fun _ _ h b => bt h b) ((Below.refl _ _).drew) ?_ (fun vs w5 hJ hd => ?_)
  · refine Jo.jcons (i := 0) (o := ⟨some 13, _, _, _, _, _⟩) (di := some 13) (L := []) (f := Jo.Fact.eq (.pointer (some ⟨w.heap.size, 0, none⟩))) rfl rfl rfl rfl (fun vs wj hJ hd K hK => ?_) ?_
    · clear hd
      simp only [Jo.putl, List.foldl_nil, Act.put, List.setIfInBounds_toArray, List.set_cons_zero, List.set_cons_succ] at hK ⊢
      go_simp
      exact hK.out _ _ rfl (Below.refl _ _)
    refine Jo.jcons (i := 1) (o := ⟨some 14, _, _, _, _, _⟩) (di := some 14) (L := [(some 13, 0)]) (f := Jo.Fact.eq (.agg #[.bool s1, .slice A1 n1 c1])) rfl rfl rfl rfl (fun vs wj hJ hd K hK => ?_) ?_
    · have d0 : (Jo.Fact.eq (.pointer (some ⟨w.heap.size, 0, none⟩))).P (vs 0) wj := hd 0 (by decide)
      clear hd
      simp only [Jo.putl, List.foldl_cons, List.foldl_nil, Act.put, List.setIfInBounds_toArray, List.set_cons_zero, List.set_cons_succ] at hK ⊢
      generalize vs 0 = u0 at hK d0 ⊢
      replace d0 : u0 = _ := d0
      subst d0
      have xX10 : World.cell? wj ⟨w.heap.size, 0, none⟩ = some (.bool s1) := (X1.below hJ).cell 0
      have xX11 : World.cell? wj ⟨w.heap.size, 1, none⟩ = some (.slice A1 n1 c1) := (X1.below hJ).cell 1
      have xX12 : World.cell? wj ⟨w.heap.size, 2, none⟩ = some (.int .i64 E1) := (X1.below hJ).cell 2
      go_simp
      exact hK.out _ _ rfl (Below.refl _ _)
    refine Jo.jcons (i := 2) (o := ⟨some 15, _, _, _, _, _⟩) (di := some 15) (L := [(some 14, 1)]) (f := Jo.Fact.eq (.int .i64 σ)) rfl rfl rfl rfl (fun vs wj hJ hd K hK => ?_) ?_
    · have d1 : (Jo.Fact.eq (.agg #[.bool s1, .slice A1 n1 c1])).P (vs 1) wj := hd 1 (by decide)
      clear hd
      simp only [Jo.putl, List.foldl_cons, List.foldl_nil, Act.put, List.setIfInBounds_toArray, List.set_cons_zero, List.set_cons_succ] at hK ⊢
      generalize vs 1 = u1 at hK d1 ⊢
      replace d1 : u1 = _ := d1
      subst d1
      go_simp
      refine (wSign (p1.below hJ).wr HS.out).mono ?_
      rintro ee wk ⟨rfl, B⟩
      exact hK.out _ _ rfl B
    refine Jo.jcons (i := 3) (o := ⟨some 16, _, _, _, _, _⟩) (di := some 16) (L := []) (f := Jo.Fact.eq (.pointer (some ⟨w.heap.size + 1, 0, none⟩))) rfl rfl rfl rfl (fun vs wj hJ hd K hK => ?_) ?_
    · clear hd
      simp only [Jo.putl, List.foldl_nil, Act.put, List.setIfInBounds_toArray, List.set_cons_zero, List.set_cons_succ] at hK ⊢
      go_simp
      exact hK.out _ _ rfl (Below.refl _ _)
    refine Jo.jcons (i := 4) (o := ⟨some 17, _, _, _, _, _⟩) (di := some 17) (L := [(some 16, 3)]) (f := Jo.Fact.eq (.agg #[.bool s2, .slice A2 n2 c2])) rfl rfl rfl rfl (fun vs wj hJ hd K hK => ?_) ?_
    · have d3 : (Jo.Fact.eq (.pointer (some ⟨w.heap.size + 1, 0, none⟩))).P (vs 3) wj := hd 3 (by decide)
      clear hd
      simp only [Jo.putl, List.foldl_cons, List.foldl_nil, Act.put, List.setIfInBounds_toArray, List.set_cons_zero, List.set_cons_succ] at hK ⊢
      generalize vs 3 = u3 at hK d3 ⊢
      replace d3 : u3 = _ := d3
      subst d3
      have xX20 : World.cell? wj ⟨w.heap.size + 1, 0, none⟩ = some (.bool s2) := (X2.below hJ).cell 0
      have xX21 : World.cell? wj ⟨w.heap.size + 1, 1, none⟩ = some (.slice A2 n2 c2) := (X2.below hJ).cell 1
      have xX22 : World.cell? wj ⟨w.heap.size + 1, 2, none⟩ = some (.int .i64 E2) := (X2.below hJ).cell 2
      go_simp
      exact hK.out _ _ rfl (Below.refl _ _)
    refine Jo.jcons (i := 5) (o := ⟨some 18, _, _, _, _, _⟩) (di := some 18) (L := [(some 17, 4)]) (f := Jo.Fact.eq (.int .i64 σ)) rfl rfl rfl rfl (fun vs wj hJ hd K hK => ?_) ?_
    · have d4 : (Jo.Fact.eq (.agg #[.bool s2, .slice A2 n2 c2])).P (vs 4) wj := hd 4 (by decide)
      clear hd
      simp only [Jo.putl, List.foldl_cons, List.foldl_nil, Act.put, List.setIfInBounds_toArray, List.set_cons_zero, List.set_cons_succ] at hK ⊢
      generalize vs 4 = u4 at hK d4 ⊢
      replace d4 : u4 = _ := d4
      subst d4
      go_simp
      refine (wSign (p2.below hJ).wr HS2.out).mono ?_
      rintro ee wk ⟨rfl, B⟩
      exact hK.out _ _ rfl B
    refine Jo.jcons (i := 6) (o := ⟨some 5, _, _, _, _, _⟩) (di := some 5) (L := [(some 15, 2)]) (f := Jo.Fact.eq (.int .i64 σ)) rfl rfl rfl rfl (fun vs wj hJ hd K hK => ?_) ?_
    · have d2 : (Jo.Fact.eq (.int .i64 σ)).P (vs 2) wj := hd 2 (by decide)
      clear hd
      simp only [Jo.putl, List.foldl_cons, List.foldl_nil, Act.put, List.setIfInBounds_toArray, List.set_cons_zero, List.set_cons_succ] at hK ⊢
      generalize vs 2 = u2 at hK d2 ⊢
      replace d2 : u2 = _ := d2
      subst d2
      go_simp
      exact hK.out _ _ rfl (Below.refl _ _)
    refine Jo.jcons (i := 7) (o := ⟨some 6, _, _, _, _, _⟩) (di := some 6) (L := [(some 18, 5)]) (f := Jo.Fact.eq (.int .i64 σ)) rfl rfl rfl rfl (fun vs wj hJ hd K hK => ?_) ?_
    · have d5 : (Jo.Fact.eq (.int .i64 σ)).P (vs 5) wj := hd 5 (by decide)
      clear hd
      simp only [Jo.putl, List.foldl_cons, List.foldl_nil, Act.put, List.setIfInBounds_toArray, List.set_cons_zero, List.set_cons_succ] at hK ⊢
      generalize vs 5 = u5 at hK d5 ⊢
      replace d5 : u5 = _ := d5
      subst d5
      go_simp
      exact hK.out _ _ rfl (Below.refl _ _)
    exact Jo.Steps.nil
  have d0 : (Jo.Fact.eq (.pointer (some ⟨w.heap.size, 0, none⟩))).P (vs 0) w5 := hd 0 (by decide)
  have d1 : (Jo.Fact.eq (.agg #[.bool s1, .slice A1 n1 c1])).P (vs 1) w5 := hd 1 (by decide)
  have d2 : (Jo.Fact.eq (.int .i64 σ)).P (vs 2) w5 := hd 2 (by decide)
  have d3 : (Jo.Fact.eq (.pointer (some ⟨w.heap.size + 1, 0, none⟩))).P (vs 3) w5 := hd 3 (by decide)
  have d4 : (Jo.Fact.eq (.agg #[.bool s2, .slice A2 n2 c2])).P (vs 4) w5 := hd 4 (by decide)
  have d5 : (Jo.Fact.eq (.int .i64 σ)).P (vs 5) w5 := hd 5 (by decide)
  have d6 : (Jo.Fact.eq (.int .i64 σ)).P (vs 6) w5 := hd 6 (by decide)
  have d7 : (Jo.Fact.eq (.int .i64 σ)).P (vs 7) w5 := hd 7 (by decide)
  clear hd
  simp only [Jo.putl, List.foldl_cons, List.foldl_nil, Act.put, List.setIfInBounds_toArray, List.set_cons_zero, List.set_cons_succ]
  generalize vs 0 = u0 at d0 ⊢
  generalize vs 1 = u1 at d1 ⊢
  generalize vs 2 = u2 at d2 ⊢
  generalize vs 3 = u3 at d3 ⊢
  generalize vs 4 = u4 at d4 ⊢
  generalize vs 5 = u5 at d5 ⊢
  generalize vs 6 = u6 at d6 ⊢
  generalize vs 7 = u7 at d7 ⊢
  clear vs
  replace d0 : u0 = _ := d0
  subst d0
  replace d1 : u1 = _ := d1
  subst d1
  replace d2 : u2 = _ := d2
  subst d2
  replace d3 : u3 = _ := d3
  subst d3
  replace d4 : u4 = _ := d4
  subst d4
  replace d5 : u5 = _ := d5
  subst d5
  replace d6 : u6 = _ := d6
  subst d6
  replace d7 : u7 = _ := d7
  subst d7
  replace X1 := X1.below hJ
  replace X2 := X2.below hJ
  replace p1 := p1.below hJ
  replace p2 := p2.below hJ
  replace HB := Lib.hid (bt HB.out hJ)
  refine Jo.jdone (by kernel_rfl) ?_
  go_upto_region 5 with (fail)
  refine Jo.region_joint (T := [0, 1, 2, 3, 4, 5]) (ds := [some 25, some 26, some 27, some 28, some 29, some 7]) (ls := [[], [0], [], [2], [1, 3], [4]]) (k := 6) (L := [(some 25, 0), (some 26, 1), (some 27, 2), (some 28, 3), (some 29, 4), (some 7, 5)]) (fuel := 0) (J := fun wj => Below (World.heap w5).size w5 wj)
    (F := [Jo.Fact.eq (.agg #[.bool s1, .slice A1 n1 c1, .int .i64 E1]), Jo.Fact.eq (.int .i64 x1), Jo.Fact.eq (.agg #[.bool s2, .slice A2 n2 c2, .int .i64 E2]), Jo.Fact.eq (.int .i64 x2), Jo.Fact.eq (.int .i64 p), Jo.Fact.eq (.int .i64 p)])
    (by kernel_rfl) (by kernel_rfl) (by decide) rfl rfl (fun _ _ h b => bt h b) ((Below.refl _ _).drew) ?_ (fun vs w6 hJ hd => ?_)
  · refine Jo.jcons (i := 0) (o := ⟨some 25, _, _, _, _, _⟩) (di := some 25) (L := []) (f := Jo.Fact.eq (.agg #[.bool s1, .slice A1 n1 c1, .int .i64 E1])) rfl rfl rfl rfl (fun vs wj hJ hd K hK => ?_) ?_
    · clear hd
      simp only [Jo.putl, List.foldl_nil, Act.put, List.setIfInBounds_toArray, List.set_cons_zero, List.set_cons_succ] at hK ⊢
      have xX10 : World.cell? wj ⟨w.heap.size, 0, none⟩ = some (.bool s1) := (X1.below hJ).cell 0
      have xX11 : World.cell? wj ⟨w.heap.size, 1, none⟩ = some (.slice A1 n1 c1) := (X1.below hJ).cell 1
      have xX12 : World.cell? wj ⟨w.heap.size, 2, none⟩ = some (.int .i64 E1) := (X1.below hJ).cell 2
      go_simp
      exact hK.out _ _ rfl (Below.refl _ _)
    refine Jo.jcons (i := 1) (o := ⟨some 26, _, _, _, _, _⟩) (di := some 26) (L := [(some 25, 0)]) (f := Jo.Fact.eq (.int .i64 x1)) rfl rfl rfl rfl (fun vs wj hJ hd K hK => ?_) ?_
    · have d0 : (Jo.Fact.eq (.agg #[.bool s1, .slice A1 n1 c1, .int .i64 E1])).P (vs 0) wj := hd 0 (by decide)
      clear hd
      simp only [Jo.putl, List.foldl_cons, List.foldl_nil, Act.put, List.setIfInBounds_toArray, List.set_cons_zero, List.set_cons_succ] at hK ⊢
      generalize vs 0 = u0 at hK d0 ⊢
      replace d0 : u0 = _ := d0
      subst d0
      go_simp
      refine (dHighest (p1.below hJ) (by omega) b1 b2 HX1.out).mono ?_
      rintro ee wk ⟨rfl, B⟩
      exact hK.out _ _ rfl B
    refine Jo.jcons (i := 2) (o := ⟨some 27, _, _, _, _, _⟩) (di := some 27) (L := []) (f := Jo.Fact.eq (.agg #[.bool s2, .slice A2 n2 c2, .int .i64 E2])) rfl rfl rfl rfl (fun vs wj hJ hd K hK => ?_) ?_
    · clear hd
      simp only [Jo.putl, List.foldl_nil, Act.put, List.setIfInBounds_toArray, List.set_cons_zero, List.set_cons_succ] at hK ⊢
      have xX20 : World.cell? wj ⟨w.heap.size + 1, 0, none⟩ = some (.bool s2) := (X2.below hJ).cell 0
      have xX21 : World.cell? wj ⟨w.heap.size + 1, 1, none⟩ = some (.slice A2 n2 c2) := (X2.below hJ).cell 1
      have xX22 : World.cell? wj ⟨w.heap.size + 1, 2, none⟩ = some (.int .i64 E2) := (X2.below hJ).cell 2
      go_simp
      exact hK.out _ _ rfl (Below.refl _ _)
    refine Jo.jcons (i := 3) (o := ⟨some 28, _, _, _, _, _⟩) (di := some 28) (L := [(some 27, 2)]) (f := Jo.Fact.eq (.int .i64 x2)) rfl rfl rfl rfl (fun vs wj hJ hd K hK => ?_) ?_
    · have d2 : (Jo.Fact.eq (.agg #[.bool s2, .slice A2 n2 c2, .int .i64 E2])).P (vs 2) wj := hd 2 (by decide)
      clear hd
      simp only [Jo.putl, List.foldl_cons, List.foldl_nil, Act.put, List.setIfInBounds_toArray, List.set_cons_zero, List.set_cons_succ] at hK ⊢
      generalize vs 2 = u2 at hK d2 ⊢
      replace d2 : u2 = _ := d2
      subst d2
      go_simp
      refine (dHighest (p2.below hJ) (by omega) b3 b4 HX2.out).mono ?_
      rintro ee wk ⟨rfl, B⟩
      exact hK.out _ _ rfl B
    refine Jo.jcons (i := 4) (o := ⟨some 29, _, _, _, _, _⟩) (di := some 29) (L := [(some 26, 1), (some 28, 3)]) (f := Jo.Fact.eq (.int .i64 p)) rfl rfl rfl rfl (fun vs wj hJ hd K hK => ?_) ?_
    · have d1 : (Jo.Fact.eq (.int .i64 x1)).P (vs 1) wj := hd 1 (by decide)
      have d3 : (Jo.Fact.eq (.int .i64 x2)).P (vs 3) wj := hd 3 (by decide)
      clear hd
      simp only [Jo.putl, List.foldl_cons, List.foldl_nil, Act.put, List.setIfInBounds_toArray, List.set_cons_zero, List.set_cons_succ] at hK ⊢
      generalize vs 1 = u1 at hK d1 ⊢
      generalize vs 3 = u3 at hK d3 ⊢
      replace d1 : u1 = _ := d1
      subst d1
      replace d3 : u3 = _ := d3
      subst d3
      go_simp
      refine (compareInt_any x1 x2 wj).mono ?_
      rintro ee wk ⟨rfl, rfl⟩
      exact hK.out _ _ (val_int HP.out) (Below.refl _ _)
    refine Jo.jcons (i := 5) (o := ⟨some 7, _, _, _, _, _⟩) (di := some 7) (L := [(some 29, 4)]) (f := Jo.Fact.eq (.int .i64 p)) rfl rfl rfl rfl (fun vs wj hJ hd K hK => ?_) ?_
    · have d4 : (Jo.Fact.eq (.int .i64 p)).P (vs 4) wj := hd 4 (by decide)
      clear hd
      simp only [Jo.putl, List.foldl_cons, List.foldl_nil, Act.put, List.setIfInBounds_toArray, List.set_cons_zero, List.set_cons_succ] at hK ⊢
      generalize vs 4 = u4 at hK d4 ⊢
      replace d4 : u4 = _ := d4
      subst d4
      go_simp
      exact hK.out _ _ rfl (Below.refl _ _)
    exact Jo.Steps.nil
  have d0 : (Jo.Fact.eq (.agg #[.bool s1, .slice A1 n1 c1, .int .i64 E1])).P (vs 0) w6 := hd 0 (by decide)
  have d1 : (Jo.Fact.eq (.int .i64 x1)).P (vs 1) w6 := hd 1 (by decide)
  have d2 : (Jo.Fact.eq (.agg #[.bool s2, .slice A2 n2 c2, .int .i64 E2])).P (vs 2) w6 := hd 2 (by decide)
  have d3 : (Jo.Fact.eq (.int .i64 x2)).P (vs 3) w6 := hd 3 (by decide)
  have d4 : (Jo.Fact.eq (.int .i64 p)).P (vs 4) w6 := hd 4 (by decide)
  have d5 : (Jo.Fact.eq (.int .i64 p)).P (vs 5) w6 := hd 5 (by decide)
  clear hd
  simp only [Jo.putl, List.foldl_cons, List.foldl_nil, Act.put, List.setIfInBounds_toArray, List.set_cons_zero, List.set_cons_succ]
  generalize vs 0 = u0 at d0 ⊢
  generalize vs 1 = u1 at d1 ⊢
  generalize vs 2 = u2 at d2 ⊢
  generalize vs 3 = u3 at d3 ⊢
  generalize vs 4 = u4 at d4 ⊢
  generalize vs 5 = u5 at d5 ⊢
  clear vs
  replace d0 : u0 = _ := d0
  subst d0
  replace d1 : u1 = _ := d1
  subst d1
  replace d2 : u2 = _ := d2
  subst d2
  replace d3 : u3 = _ := d3
  subst d3
  replace d4 : u4 = _ := d4
  subst d4
  replace d5 : u5 = _ := d5
  subst d5
  replace X1 := X1.below hJ
  replace X2 := X2.below hJ
  replace p1 := p1.below hJ
  replace p2 := p2.below hJ
  replace HB := Lib.hid (bt HB.out hJ)
  refine Jo.jdone (by kernel_rfl) ?_
  have xX10 := X1.at (i := 0) (v := .bool s1) rfl
  have xX11 := X1.at (i := 1) (v := .slice A1 n1 c1) rfl
  have xX12 := X1.at (i := 2) (v := .int .i64 E1) rfl
  have xX20 := X2.at (i := 0) (v := .bool s2) rfl
  have xX21 := X2.at (i := 1) (v := .slice A2 n2 c2) rfl
  have xX22 := X2.at (i := 2) (v := .int .i64 E2) rfl
  go_upto_region 9 with (fail)
  clear xX10 xX11 xX12 xX20 xX21 xX22
  refine Jo.region_joint (T := [0, 1, 2, 3, 4, 5, 6, 7]) (ds := [some 40, some 41, some 42, some 43, some 44, some 45, some 46, some 4]) (ls := [[], [], [0, 1], [], [], [3, 4], [2, 5], [6]]) (k := 8) (L := [(some 40, 0), (some 41, 1), (some 42, 2), (some 43, 3), (some 44, 4), (some 45, 5), (some 46, 6), (some 4, 7)]) (fuel := 0) (J := fun wj => Below (World.heap w6).size w6 wj)
    (F := [Jo.Fact.eq (.agg #[.bool s1, .slice A1 n1 c1, .int .i64 E1]), Jo.Fact.eq (.int .i64 E1), Jo.Fact.wn (N1 * ((2 ^ (E1 - E1).toNat : Nat) : Int)) (n + 262200), Jo.Fact.eq (.agg #[.bool s2, .slice A2 n2 c2, .int .i64 E2]), Jo.Fact.eq (.int .i64 E1), Jo.Fact.wn (N2 * ((2 ^ (E2 - E1).toNat : Nat) : Int)) (m + 262200), Jo.Fact.eq (.int .i64 r), Jo.Fact.eq (.int .i64 r)])
    (by kernel_rfl) (by kernel_rfl) (by decide) rfl rfl (fun _ _ h b => bt h b) ((Below.refl _ _).drew) ?_ (fun vs w7 hJ hd => ?_)
  · refine Jo.jcons (i := 0) (o := ⟨some 40, _, _, _, _, _⟩) (di := some 40) (L := []) (f := Jo.Fact.eq (.agg #[.bool s1, .slice A1 n1 c1, .int .i64 E1])) rfl rfl rfl rfl (fun vs wj hJ hd K hK => ?_) ?_
    · clear hd
      simp only [Jo.putl, List.foldl_nil, Act.put, List.setIfInBounds_toArray, List.set_cons_zero, List.set_cons_succ] at hK ⊢
      have xX10 : World.cell? wj ⟨w.heap.size, 0, none⟩ = some (.bool s1) := (X1.below hJ).cell 0
      have xX11 : World.cell? wj ⟨w.heap.size, 1, none⟩ = some (.slice A1 n1 c1) := (X1.below hJ).cell 1
      have xX12 : World.cell? wj ⟨w.heap.size, 2, none⟩ = some (.int .i64 E1) := (X1.below hJ).cell 2
      go_simp
      exact hK.out _ _ rfl (Below.refl _ _)
    refine Jo.jcons (i := 1) (o := ⟨some 41, _, _, _, _, _⟩) (di := some 41) (L := []) (f := Jo.Fact.eq (.int .i64 E1)) rfl rfl rfl rfl (fun vs wj hJ hd K hK => ?_) ?_
    · clear hd
      simp only [Jo.putl, List.foldl_nil, Act.put, List.setIfInBounds_toArray, List.set_cons_zero, List.set_cons_succ] at hK ⊢
      go_simp
      exact hK.out _ _ rfl (Below.refl _ _)
    refine Jo.jcons (i := 2) (o := ⟨some 42, _, _, _, _, _⟩) (di := some 42) (L := [(some 40, 0), (some 41, 1)]) (f := Jo.Fact.wn (N1 * ((2 ^ (E1 - E1).toNat : Nat) : Int)) (n + 262200)) rfl rfl rfl rfl (fun vs wj hJ hd K hK => ?_) ?_
    · have d0 : (Jo.Fact.eq (.agg #[.bool s1, .slice A1 n1 c1, .int .i64 E1])).P (vs 0) wj := hd 0 (by decide)
      have d1 : (Jo.Fact.eq (.int .i64 E1)).P (vs 1) wj := hd 1 (by decide)
      clear hd
      simp only [Jo.putl, List.foldl_cons, List.foldl_nil, Act.put, List.setIfInBounds_toArray, List.set_cons_zero, List.set_cons_succ] at hK ⊢
      generalize vs 0 = u0 at hK d0 ⊢
      generalize vs 1 = u1 at hK d1 ⊢
      replace d0 : u0 = _ := d0
      subst d0
      replace d1 : u1 = _ := d1
      subst d1
      go_simp
      refine (dTimes (p1.below hJ) (by omega) (by omega) (by omega) rfl).mono ?_
      rintro ee wk ⟨s5, A5, n5, c5, rfl, p5, k5, B⟩
      exact hK.out _ _ ⟨s5, A5, n5, c5, rfl, p5, by omega⟩ B
    refine Jo.jcons (i := 3) (o := ⟨some 43, _, _, _, _, _⟩) (di := some 43) (L := []) (f := Jo.Fact.eq (.agg #[.bool s2, .slice A2 n2 c2, .int .i64 E2])) rfl rfl rfl rfl (fun vs wj hJ hd K hK => ?_) ?_
    · clear hd
      simp only [Jo.putl, List.foldl_nil, Act.put, List.setIfInBounds_toArray, List.set_cons_zero, List.set_cons_succ] at hK ⊢
      have xX20 : World.cell? wj ⟨w.heap.size + 1, 0, none⟩ = some (.bool s2) := (X2.below hJ).cell 0
      have xX21 : World.cell? wj ⟨w.heap.size + 1, 1, none⟩ = some (.slice A2 n2 c2) := (X2.below hJ).cell 1
      have xX22 : World.cell? wj ⟨w.heap.size + 1, 2, none⟩ = some (.int .i64 E2) := (X2.below hJ).cell 2
      go_simp
      exact hK.out _ _ rfl (Below.refl _ _)
    refine Jo.jcons (i := 4) (o := ⟨some 44, _, _, _, _, _⟩) (di := some 44) (L := []) (f := Jo.Fact.eq (.int .i64 E1)) rfl rfl rfl rfl (fun vs wj hJ hd K hK => ?_) ?_
    · clear hd
      simp only [Jo.putl, List.foldl_nil, Act.put, List.setIfInBounds_toArray, List.set_cons_zero, List.set_cons_succ] at hK ⊢
      go_simp
      exact hK.out _ _ rfl (Below.refl _ _)
    refine Jo.jcons (i := 5) (o := ⟨some 45, _, _, _, _, _⟩) (di := some 45) (L := [(some 43, 3), (some 44, 4)]) (f := Jo.Fact.wn (N2 * ((2 ^ (E2 - E1).toNat : Nat) : Int)) (m + 262200)) rfl rfl rfl rfl (fun vs wj hJ hd K hK => ?_) ?_
    · have d3 : (Jo.Fact.eq (.agg #[.bool s2, .slice A2 n2 c2, .int .i64 E2])).P (vs 3) wj := hd 3 (by decide)
      have d4 : (Jo.Fact.eq (.int .i64 E1)).P (vs 4) wj := hd 4 (by decide)
      clear hd
      simp only [Jo.putl, List.foldl_cons, List.foldl_nil, Act.put, List.setIfInBounds_toArray, List.set_cons_zero, List.set_cons_succ] at hK ⊢
      generalize vs 3 = u3 at hK d3 ⊢
      generalize vs 4 = u4 at hK d4 ⊢
      replace d3 : u3 = _ := d3
      subst d3
      replace d4 : u4 = _ := d4
      subst d4
      go_simp
      refine (dTimes (p2.below hJ) (by omega) (by omega) (by omega) rfl).mono ?_
      rintro ee wk ⟨s6, A6, n6, c6, rfl, p6, k6, B⟩
      exact hK.out _ _ ⟨s6, A6, n6, c6, rfl, p6, by omega⟩ B
    refine Jo.jcons (i := 6) (o := ⟨some 46, _, _, _, _, _⟩) (di := some 46) (L := [(some 42, 2), (some 45, 5)]) (f := Jo.Fact.eq (.int .i64 r)) rfl rfl rfl rfl (fun vs wj hJ hd K hK => ?_) ?_
    · have d2 : (Jo.Fact.wn (N1 * ((2 ^ (E1 - E1).toNat : Nat) : Int)) (n + 262200)).P (vs 2) wj := hd 2 (by decide)
      have d5 : (Jo.Fact.wn (N2 * ((2 ^ (E2 - E1).toNat : Nat) : Int)) (m + 262200)).P (vs 5) wj := hd 5 (by decide)
      clear hd
      simp only [Jo.putl, List.foldl_cons, List.foldl_nil, Act.put, List.setIfInBounds_toArray, List.set_cons_zero, List.set_cons_succ] at hK ⊢
      generalize vs 2 = u2 at hK d2 ⊢
      generalize vs 5 = u5 at hK d5 ⊢
      obtain ⟨s5, A5, n5, c5, rfl, p5, k5⟩ := d2
      obtain ⟨s6, A6, n6, c6, rfl, p6, k6⟩ := d5
      go_simp
      refine (wCmp p5.wr p6.wr HR.out).mono ?_
      rintro ee wk ⟨rfl, B⟩
      exact hK.out _ _ rfl B
    refine Jo.jcons (i := 7) (o := ⟨some 4, _, _, _, _, _⟩) (di := some 4) (L := [(some 46, 6)]) (f := Jo.Fact.eq (.int .i64 r)) rfl rfl rfl rfl (fun vs wj hJ hd K hK => ?_) ?_
    · have d6 : (Jo.Fact.eq (.int .i64 r)).P (vs 6) wj := hd 6 (by decide)
      clear hd
      simp only [Jo.putl, List.foldl_cons, List.foldl_nil, Act.put, List.setIfInBounds_toArray, List.set_cons_zero, List.set_cons_succ] at hK ⊢
      generalize vs 6 = u6 at hK d6 ⊢
      replace d6 : u6 = _ := d6
      subst d6
      go_simp
      exact hK.out _ _ rfl (Below.refl _ _)
    exact Jo.Steps.nil
  have d0 : (Jo.Fact.eq (.agg #[.bool s1, .slice A1 n1 c1, .int .i64 E1])).P (vs 0) w7 := hd 0 (by decide)
  have d1 : (Jo.Fact.eq (.int .i64 E1)).P (vs 1) w7 := hd 1 (by decide)
  have d2 : (Jo.Fact.wn (N1 * ((2 ^ (E1 - E1).toNat : Nat) : Int)) (n + 262200)).P (vs 2) w7 := hd 2 (by decide)
  have d3 : (Jo.Fact.eq (.agg #[.bool s2, .slice A2 n2 c2, .int .i64 E2])).P (vs 3) w7 := hd 3 (by decide)
  have d4 : (Jo.Fact.eq (.int .i64 E1)).P (vs 4) w7 := hd 4 (by decide)
  have d5 : (Jo.Fact.wn (N2 * ((2 ^ (E2 - E1).toNat : Nat) : Int)) (m + 262200)).P (vs 5) w7 := hd 5 (by decide)
  have d6 : (Jo.Fact.eq (.int .i64 r)).P (vs 6) w7 := hd 6 (by decide)
  have d7 : (Jo.Fact.eq (.int .i64 r)).P (vs 7) w7 := hd 7 (by decide)
  clear hd
  simp only [Jo.putl, List.foldl_cons, List.foldl_nil, Act.put, List.setIfInBounds_toArray, List.set_cons_zero, List.set_cons_succ]
  generalize vs 0 = u0 at d0 ⊢
  generalize vs 1 = u1 at d1 ⊢
  generalize vs 2 = u2 at d2 ⊢
  generalize vs 3 = u3 at d3 ⊢
  generalize vs 4 = u4 at d4 ⊢
  generalize vs 5 = u5 at d5 ⊢
  generalize vs 6 = u6 at d6 ⊢
  generalize vs 7 = u7 at d7 ⊢
  clear vs
  replace d0 : u0 = _ := d0
  subst d0
  replace d1 : u1 = _ := d1
  subst d1
  obtain ⟨s5, A5, n5, c5, rfl, _, _⟩ := d2
  replace d3 : u3 = _ := d3
  subst d3
  replace d4 : u4 = _ := d4
  subst d4
  obtain ⟨s6, A6, n6, c6, rfl, _, _⟩ := d5
  replace d6 : u6 = _ := d6
  subst d6
  replace d7 : u7 = _ := d7
  subst d7
  replace X1 := X1.below hJ
  replace X2 := X2.below hJ
  replace p1 := p1.below hJ
  replace p2 := p2.below hJ
  replace HB := Lib.hid (bt HB.out hJ)
  refine Jo.jdone (by kernel_rfl) ?_
  go_wp2
  go_ret
  exact ⟨rfl, HB.out⟩

set_option maxHeartbeats 4000000 in
theorem dcmp_dn {w : World} {A B : Option Addr} {n c m d : Nat} {s t : Bool} {z e y f N1 E1 N2 E2 σ τ x1 x2 p r : Int} (hT : Tab w) (h : Wr w s A n c z) (k : Wr w t B m d y) (hn : n ≤ 100000) (hm : m ≤ 100000) (b1 : -4194304 ≤ E1) (b2 : E1 ≤ 4194304) (b3 : -4194304 ≤ E2) (b4 : E2 ≤ 4194304)
    (HN1 : Hid ((mk z e).1 = N1)) (HE1 : Hid ((mk z e).2 = E1)) (HN2 : Hid ((mk y f).1 = N2)) (HE2 : Hid ((mk y f).2 = E2)) (HS : Hid (cmpI N1 0 = σ)) (HS2 : Hid (cmpI N2 0 = τ)) (heq : σ = τ) (HX1 : Hid (((blen N1.natAbs : Nat) : Int) + E1 = x1)) (HX2 : Hid (((blen N2.natAbs : Nat) : Int) + E2 = x2)) (HP : Hid (cmpI x1 x2 = p)) (hp : p = 0) (hle : E2 < E1) (HR : Hid (cmpI (N1 * ((2 ^ (E1 - E2).toNat : Nat) : Int)) (N2 * ((2 ^ (E2 - E2).toNat : Nat) : Int)) = r)) :
    Calls Tryd.prog 31 #[.agg #[.bool s, .slice A n c, .int .i64 e], .agg #[.bool t, .slice B m d, .int .i64 f]] w (PI w r) := by
  subst heq
  have q3 : (p != 0) = false := by simpa using hp
  clear hp
  have q1 : (σ != σ) = false := by simp
  have q2 : decide (E2 < E1) = true := by simp; omega
  go_enter Tryd.func31, Tryd.ntmps31
  go_upto_region 1 with (fail)
  have X1 := (Bo.newAt w (g := w.heap.size) (by simp) #[.bool s, .slice A n c, .int .i64 e] 27).below (bel1 _ (.cells #[.bool t, .slice B m d, .int .i64 f] 27))
  have X2 := (Bo.newAt (w.alloc (.cells #[.bool s, .slice A n c, .int .i64 e] 27)) (g := w.heap.size + 1) (by simp) #[.bool t, .slice B m d, .int .i64 f] 27)
  have HB := Lib.hid (bel2 w (.cells #[.bool s, .slice A n c, .int .i64 e] 27) (.cells #[.bool t, .slice B m d, .int .i64 f] 27))
  replace hT := hT.below HB.out
  replace h := h.below HB.out
  replace k := k.below HB.out
  generalize hW1 : ((w.alloc (.cells #[.bool s, .slice A n c, .int .i64 e] 27)).alloc (.cells #[.bool t, .slice B m d, .int .i64 f] 27)) = w1 at *
  clear hW1
  refine Jo.region_joint (T := [0, 1, 2, 3]) (ds := [some 9, some 10, some 11, some 12, none, none]) (ls := [[], [0], [], [2], [], []]) (k := 6) (L := [(some 9, 0), (some 10, 1), (some 11, 2), (some 12, 3)]) (fuel := 2) (J := fun wj => Below (World.heap w1).size w1 wj)
    (F := [Jo.Fact.eq (.agg #[.bool s, .slice A n c, .int .i64 e]), Jo.Fact.dy N1 E1 n, Jo.Fact.eq (.agg #[.bool t, .slice B m d, .int .i64 f]), Jo.Fact.dy N2 E2 m, Jo.Fact.any, Jo.Fact.any])
    (by kernel_rfl) (by kernel_rfl) (by decide) rfl rfl (fun _ _ h b => bt h b) ((Below.refl _ _).drew) ?_ (fun vs w2 hJ hd => ?_)
  · refine Jo.jcons (i := 0) (o := ⟨some 9, _, _, _, _, _⟩) (di := some 9) (L := []) (f := Jo.Fact.eq (.agg #[.bool s, .slice A n c, .int .i64 e])) rfl rfl rfl rfl (fun vs wj hJ hd K hK => ?_) ?_
    · clear hd
      simp only [Jo.putl, List.foldl_nil, Act.put, List.setIfInBounds_toArray, List.set_cons_zero, List.set_cons_succ] at hK ⊢
      have xX10 : World.cell? wj ⟨w.heap.size, 0, none⟩ = some (.bool s) := (X1.below hJ).cell 0
      have xX11 : World.cell? wj ⟨w.heap.size, 1, none⟩ = some (.slice A n c) := (X1.below hJ).cell 1
      have xX12 : World.cell? wj ⟨w.heap.size, 2, none⟩ = some (.int .i64 e) := (X1.below hJ).cell 2
      go_simp
      exact hK.out _ _ rfl (Below.refl _ _)
    refine Jo.jcons (i := 1) (o := ⟨some 10, _, _, _, _, _⟩) (di := some 10) (L := [(some 9, 0)]) (f := Jo.Fact.dy N1 E1 n) rfl rfl rfl rfl (fun vs wj hJ hd K hK => ?_) ?_
    · have d0 : (Jo.Fact.eq (.agg #[.bool s, .slice A n c, .int .i64 e])).P (vs 0) wj := hd 0 (by decide)
      clear hd
      simp only [Jo.putl, List.foldl_cons, List.foldl_nil, Act.put, List.setIfInBounds_toArray, List.set_cons_zero, List.set_cons_succ] at hK ⊢
      generalize vs 0 = u0 at hK d0 ⊢
      replace d0 : u0 = _ := d0
      subst d0
      go_simp
      refine (dTaken (hT.below hJ) (h.below hJ) (by omega) HN1.out HE1.out).mono ?_
      rintro ee wk ⟨s1, A1, n1, c1, rfl, p1, k1, B⟩
      exact hK.out _ _ ⟨s1, A1, n1, c1, rfl, p1, k1⟩ B
    refine Jo.jcons (i := 2) (o := ⟨some 11, _, _, _, _, _⟩) (di := some 11) (L := []) (f := Jo.Fact.eq (.agg #[.bool t, .slice B m d, .int .i64 f])) rfl rfl rfl rfl (fun vs wj hJ hd K hK => ?_) ?_
    · clear hd
      simp only [Jo.putl, List.foldl_nil, Act.put, List.setIfInBounds_toArray, List.set_cons_zero, List.set_cons_succ] at hK ⊢
      have xX20 : World.cell? wj ⟨w.heap.size + 1, 0, none⟩ = some (.bool t) := (X2.below hJ).cell 0
      have xX21 : World.cell? wj ⟨w.heap.size + 1, 1, none⟩ = some (.slice B m d) := (X2.below hJ).cell 1
      have xX22 : World.cell? wj ⟨w.heap.size + 1, 2, none⟩ = some (.int .i64 f) := (X2.below hJ).cell 2
      go_simp
      exact hK.out _ _ rfl (Below.refl _ _)
    refine Jo.jcons (i := 3) (o := ⟨some 12, _, _, _, _, _⟩) (di := some 12) (L := [(some 11, 2)]) (f := Jo.Fact.dy N2 E2 m) rfl rfl rfl rfl (fun vs wj hJ hd K hK => ?_) ?_
    · have d2 : (Jo.Fact.eq (.agg #[.bool t, .slice B m d, .int .i64 f])).P (vs 2) wj := hd 2 (by decide)
      clear hd
      simp only [Jo.putl, List.foldl_cons, List.foldl_nil, Act.put, List.setIfInBounds_toArray, List.set_cons_zero, List.set_cons_succ] at hK ⊢
      generalize vs 2 = u2 at hK d2 ⊢
      replace d2 : u2 = _ := d2
      subst d2
      go_simp
      refine (dTaken (hT.below hJ) (k.below hJ) (by omega) HN2.out HE2.out).mono ?_
      rintro ee wk ⟨s2, A2, n2, c2, rfl, p2, k2, B⟩
      exact hK.out _ _ ⟨s2, A2, n2, c2, rfl, p2, k2⟩ B
    exact Jo.Steps.nil
  have d0 : (Jo.Fact.eq (.agg #[.bool s, .slice A n c, .int .i64 e])).P (vs 0) w2 := hd 0 (by decide)
  have d1 : (Jo.Fact.dy N1 E1 n).P (vs 1) w2 := hd 1 (by decide)
  have d2 : (Jo.Fact.eq (.agg #[.bool t, .slice B m d, .int .i64 f])).P (vs 2) w2 := hd 2 (by decide)
  have d3 : (Jo.Fact.dy N2 E2 m).P (vs 3) w2 := hd 3 (by decide)
  clear hd
  simp only [Jo.putl, List.foldl_cons, List.foldl_nil, Act.put, List.setIfInBounds_toArray, List.set_cons_zero, List.set_cons_succ]
  generalize vs 0 = u0 at d0 ⊢
  generalize vs 1 = u1 at d1 ⊢
  generalize vs 2 = u2 at d2 ⊢
  generalize vs 3 = u3 at d3 ⊢
  clear vs
  replace d0 : u0 = _ := d0
  subst d0
  obtain ⟨s1, A1, n1, c1, rfl, p1, k1⟩ := d1
  replace d2 : u2 = _ := d2
  subst d2
  obtain ⟨s2, A2, n2, c2, rfl, p2, k2⟩ := d3
  replace X1 := X1.below hJ
  replace X2 := X2.below hJ
  replace hT := hT.below hJ
  replace h := h.below hJ
  replace k := k.below hJ
  replace HB := Lib.hid (bt HB.out hJ)
  have xX10 := X1.at (i := 0) (v := .bool s) rfl
  have zX10 := X1.frozen 0
  have xX11 := X1.at (i := 1) (v := .slice A n c) rfl
  have zX11 := X1.frozen 1
  have xX12 := X1.at (i := 2) (v := .int .i64 e) rfl
  have zX12 := X1.frozen 2
  refine Jo.jnext (i := 4) (o := ⟨none, _, _, _, _, _⟩) (by kernel_rfl) rfl (fun K hK => ?_)
  go_simp
  refine hK.out _ _ ?_
  clear hK K xX10 zX10 xX11 zX11 xX12 zX12
  have SX := StN.mk3 X1 (.bool s1) (.slice A1 n1 c1) (.int .i64 E1)
  replace X2 := X2.stn SX (by omega)
  replace p1 := p1.stn SX (by simp [no32])
  replace p2 := p2.stn SX (by simp [no32])
  replace HB := Lib.hid (SX.below HB.out (by omega))
  replace X1 := SX.box
  clear SX
  generalize (World.setCell (World.setCell (World.setCell w2 ⟨w.heap.size, 0, none⟩ (.bool s1)) ⟨w.heap.size, 1, none⟩ (.slice A1 n1 c1)) ⟨w.heap.size, 2, none⟩ (.int .i64 E1)) = w3 at *
  have xX20 := X2.at (i := 0) (v := .bool t) rfl
  have zX20 := X2.frozen 0
  have xX21 := X2.at (i := 1) (v := .slice B m d) rfl
  have zX21 := X2.frozen 1
  have xX22 := X2.at (i := 2) (v := .int .i64 f) rfl
  have zX22 := X2.frozen 2
  refine Jo.jnext (i := 5) (o := ⟨none, _, _, _, _, _⟩) (by kernel_rfl) rfl (fun K hK => ?_)
  go_simp
  refine hK.out _ _ ?_
  clear hK K xX20 zX20 xX21 zX21 xX22 zX22
  have SX := StN.mk3 X2 (.bool s2) (.slice A2 n2 c2) (.int .i64 E2)
  replace X1 := X1.stn SX (by omega)
  replace p1 := p1.stn SX (by simp [no32])
  replace p2 := p2.stn SX (by simp [no32])
  replace HB := Lib.hid (SX.below HB.out (by omega))
  replace X2 := SX.box
  clear SX
  generalize (World.setCell (World.setCell (World.setCell w3 ⟨w.heap.size + 1, 0, none⟩ (.bool s2)) ⟨w.heap.size + 1, 1, none⟩ (.slice A2 n2 c2)) ⟨w.heap.size + 1, 2, none⟩ (.int .i64 E2)) = w4 at *
  refine Jo.jdone (by kernel_rfl) ?_
  go_upto_region 2 with (fail)
  refine Jo.region_joint (T := [0, 1, 2, 3, 4, 5, 6, 7]) (ds := [some 13, some 14, some 15, some 16, some 17, some 18, some 5, some 6]) (ls := [[], [0], [1], [], [3], [4], [2], [5]]) (k := 8) (L := [(some 13, 0), (some 14, 1), (some 15, 2), (some 16, 3), (some 17, 4), (some 18, 5), (some 5, 6), (some 6, 7)]) (fuel := 0) (J := fun wj => Below (World.heap w4).size w4 wj)
    (F := [Jo.Fact.eq (.pointer (some ⟨w.heap.size, 0, none⟩)), Jo.Fact.eq (.agg #[.bool s1, .slice A1 n1 c1]), Jo.Fact.eq (.int .i64 σ), Jo.Fact.eq (.pointer (some ⟨w.heap.size + 1, 0, none⟩)), Jo.Fact.eq (.agg #[.bool s2, .slice A2 n2 c2]), Jo.Fact.eq (.int .i64 σ), Jo.Fact.eq (.int .i64 σ), Jo.Fact.eq (.int .i64 σ)])
    (by kernel_rfl) (by kernel_rfl) (by decide) rfl rfl (fun _ _ h b => bt h b) ((Below.refl _ _).drew) ?_ (fun vs w5 hJ hd => ?_)
  · refine Jo.jcons (i := 0) (o := ⟨some 13, _, _, _, _, _⟩) (di := some 13) (L := []) (f := Jo.Fact.eq (.pointer (some ⟨w.heap.size, 0, none⟩))) rfl rfl rfl rfl (fun vs wj hJ hd K hK => ?_) ?_
    · clear hd
      simp only [Jo.putl, List.foldl_nil, Act.put, List.setIfInBounds_toArray, List.set_cons_zero, List.set_cons_succ] at hK ⊢
      go_simp
      exact hK.out _ _ rfl (Below.refl _ _)
    refine Jo.jcons (i := 1) (o := ⟨some 14, _, _, _, _, _⟩) (di := some 14) (L := [(some 13, 0)]) (f := Jo.Fact.eq (.agg #[.bool s1, .slice A1 n1 c1])) rfl rfl rfl rfl (fun vs wj hJ hd K hK => ?_) ?_
    · have d0 : (Jo.Fact.eq (.pointer (some ⟨w.heap.size, 0, none⟩))).P (vs 0) wj := hd 0 (by decide)
      clear hd
      simp only [Jo.putl, List.foldl_cons, List.foldl_nil, Act.put, List.setIfInBounds_toArray, List.set_cons_zero, List.set_cons_succ] at hK ⊢
      generalize vs 0 = u0 at hK d0 ⊢
      replace d0 : u0 = _ := d0
      subst d0
      have xX10 : World.cell? wj ⟨w.heap.size, 0, none⟩ = some (.bool s1) := (X1.below hJ).cell 0
      have xX11 : World.cell? wj ⟨w.heap.size, 1, none⟩ = some (.slice A1 n1 c1) := (X1.below hJ).cell 1
      have xX12 : World.cell? wj ⟨w.heap.size, 2, none⟩ = some (.int .i64 E1) := (X1.below hJ).cell 2
      go_simp
      exact hK.out _ _ rfl (Below.refl _ _)
    refine Jo.jcons (i := 2) (o := ⟨some 15, _, _, _, _, _⟩) (di := some 15) (L := [(some 14, 1)]) (f := Jo.Fact.eq (.int .i64 σ)) rfl rfl rfl rfl (fun vs wj hJ hd K hK => ?_) ?_
    · have d1 : (Jo.Fact.eq (.agg #[.bool s1, .slice A1 n1 c1])).P (vs 1) wj := hd 1 (by decide)
      clear hd
      simp only [Jo.putl, List.foldl_cons, List.foldl_nil, Act.put, List.setIfInBounds_toArray, List.set_cons_zero, List.set_cons_succ] at hK ⊢
      generalize vs 1 = u1 at hK d1 ⊢
      replace d1 : u1 = _ := d1
      subst d1
      go_simp
      refine (wSign (p1.below hJ).wr HS.out).mono ?_
      rintro ee wk ⟨rfl, B⟩
      exact hK.out _ _ rfl B
    refine Jo.jcons (i := 3) (o := ⟨some 16, _, _, _, _, _⟩) (di := some 16) (L := []) (f := Jo.Fact.eq (.pointer (some ⟨w.heap.size + 1, 0, none⟩))) rfl rfl rfl rfl (fun vs wj hJ hd K hK => ?_) ?_
    · clear hd
      simp only [Jo.putl, List.foldl_nil, Act.put, List.setIfInBounds_toArray, List.set_cons_zero, List.set_cons_succ] at hK ⊢
      go_simp
      exact hK.out _ _ rfl (Below.refl _ _)
    refine Jo.jcons (i := 4) (o := ⟨some 17, _, _, _, _, _⟩) (di := some 17) (L := [(some 16, 3)]) (f := Jo.Fact.eq (.agg #[.bool s2, .slice A2 n2 c2])) rfl rfl rfl rfl (fun vs wj hJ hd K hK => ?_) ?_
    · have d3 : (Jo.Fact.eq (.pointer (some ⟨w.heap.size + 1, 0, none⟩))).P (vs 3) wj := hd 3 (by decide)
      clear hd
      simp only [Jo.putl, List.foldl_cons, List.foldl_nil, Act.put, List.setIfInBounds_toArray, List.set_cons_zero, List.set_cons_succ] at hK ⊢
      generalize vs 3 = u3 at hK d3 ⊢
      replace d3 : u3 = _ := d3
      subst d3
      have xX20 : World.cell? wj ⟨w.heap.size + 1, 0, none⟩ = some (.bool s2) := (X2.below hJ).cell 0
      have xX21 : World.cell? wj ⟨w.heap.size + 1, 1, none⟩ = some (.slice A2 n2 c2) := (X2.below hJ).cell 1
      have xX22 : World.cell? wj ⟨w.heap.size + 1, 2, none⟩ = some (.int .i64 E2) := (X2.below hJ).cell 2
      go_simp
      exact hK.out _ _ rfl (Below.refl _ _)
    refine Jo.jcons (i := 5) (o := ⟨some 18, _, _, _, _, _⟩) (di := some 18) (L := [(some 17, 4)]) (f := Jo.Fact.eq (.int .i64 σ)) rfl rfl rfl rfl (fun vs wj hJ hd K hK => ?_) ?_
    · have d4 : (Jo.Fact.eq (.agg #[.bool s2, .slice A2 n2 c2])).P (vs 4) wj := hd 4 (by decide)
      clear hd
      simp only [Jo.putl, List.foldl_cons, List.foldl_nil, Act.put, List.setIfInBounds_toArray, List.set_cons_zero, List.set_cons_succ] at hK ⊢
      generalize vs 4 = u4 at hK d4 ⊢
      replace d4 : u4 = _ := d4
      subst d4
      go_simp
      refine (wSign (p2.below hJ).wr HS2.out).mono ?_
      rintro ee wk ⟨rfl, B⟩
      exact hK.out _ _ rfl B
    refine Jo.jcons (i := 6) (o := ⟨some 5, _, _, _, _, _⟩) (di := some 5) (L := [(some 15, 2)]) (f := Jo.Fact.eq (.int .i64 σ)) rfl rfl rfl rfl (fun vs wj hJ hd K hK => ?_) ?_
    · have d2 : (Jo.Fact.eq (.int .i64 σ)).P (vs 2) wj := hd 2 (by decide)
      clear hd
      simp only [Jo.putl, List.foldl_cons, List.foldl_nil, Act.put, List.setIfInBounds_toArray, List.set_cons_zero, List.set_cons_succ] at hK ⊢
      generalize vs 2 = u2 at hK d2 ⊢
      replace d2 : u2 = _ := d2
      subst d2
      go_simp
      exact hK.out _ _ rfl (Below.refl _ _)
    refine Jo.jcons (i := 7) (o := ⟨some 6, _, _, _, _, _⟩) (di := some 6) (L := [(some 18, 5)]) (f := Jo.Fact.eq (.int .i64 σ)) rfl rfl rfl rfl (fun vs wj hJ hd K hK => ?_) ?_
    · have d5 : (Jo.Fact.eq (.int .i64 σ)).P (vs 5) wj := hd 5 (by decide)
      clear hd
      simp only [Jo.putl, List.foldl_cons, List.foldl_nil, Act.put, List.setIfInBounds_toArray, List.set_cons_zero, List.set_cons_succ] at hK ⊢
      generalize vs 5 = u5 at hK d5 ⊢
      replace d5 : u5 = _ := d5
      subst d5
      go_simp
      exact hK.out _ _ rfl (Below.refl _ _)
    exact Jo.Steps.nil
  have d0 : (Jo.Fact.eq (.pointer (some ⟨w.heap.size, 0, none⟩))).P (vs 0) w5 := hd 0 (by decide)
  have d1 : (Jo.Fact.eq (.agg #[.bool s1, .slice A1 n1 c1])).P (vs 1) w5 := hd 1 (by decide)
  have d2 : (Jo.Fact.eq (.int .i64 σ)).P (vs 2) w5 := hd 2 (by decide)
  have d3 : (Jo.Fact.eq (.pointer (some ⟨w.heap.size + 1, 0, none⟩))).P (vs 3) w5 := hd 3 (by decide)
  have d4 : (Jo.Fact.eq (.agg #[.bool s2, .slice A2 n2 c2])).P (vs 4) w5 := hd 4 (by decide)
  have d5 : (Jo.Fact.eq (.int .i64 σ)).P (vs 5) w5 := hd 5 (by decide)
  have d6 : (Jo.Fact.eq (.int .i64 σ)).P (vs 6) w5 := hd 6 (by decide)
  have d7 : (Jo.Fact.eq (.int .i64 σ)).P (vs 7) w5 := hd 7 (by decide)
  clear hd
  simp only [Jo.putl, List.foldl_cons, List.foldl_nil, Act.put, List.setIfInBounds_toArray, List.set_cons_zero, List.set_cons_succ]
  generalize vs 0 = u0 at d0 ⊢
  generalize vs 1 = u1 at d1 ⊢
  generalize vs 2 = u2 at d2 ⊢
  generalize vs 3 = u3 at d3 ⊢
  generalize vs 4 = u4 at d4 ⊢
  generalize vs 5 = u5 at d5 ⊢
  generalize vs 6 = u6 at d6 ⊢
  generalize vs 7 = u7 at d7 ⊢
  clear vs
  replace d0 : u0 = _ := d0
  subst d0
  replace d1 : u1 = _ := d1
  subst d1
  replace d2 : u2 = _ := d2
  subst d2
  replace d3 : u3 = _ := d3
  subst d3
  replace d4 : u4 = _ := d4
  subst d4
  replace d5 : u5 = _ := d5
  subst d5
  replace d6 : u6 = _ := d6
  subst d6
  replace d7 : u7 = _ := d7
  subst d7
  replace X1 := X1.below hJ
  replace X2 := X2.below hJ
  replace p1 := p1.below hJ
  replace p2 := p2.below hJ
  replace HB := Lib.hid (bt HB.out hJ)
  refine Jo.jdone (by kernel_rfl) ?_
  go_upto_region 5 with (fail)
  refine Jo.region_joint (T := [0, 1, 2, 3, 4, 5]) (ds := [some 25, some 26, some 27, some 28, some 29, some 7]) (ls := [[], [0], [], [2], [1, 3], [4]]) (k := 6) (L := [(some 25, 0), (some 26, 1), (some 27, 2), (some 28, 3), (some 29, 4), (some 7, 5)]) (fuel := 0) (J := fun wj => Below (World.heap w5).size w5 wj)
    (F := [Jo.Fact.eq (.agg #[.bool s1, .slice A1 n1 c1, .int .i64 E1]), Jo.Fact.eq (.int .i64 x1), Jo.Fact.eq (.agg #[.bool s2, .slice A2 n2 c2, .int .i64 E2]), Jo.Fact.eq (.int .i64 x2), Jo.Fact.eq (.int .i64 p), Jo.Fact.eq (.int .i64 p)])
    (by kernel_rfl) (by kernel_rfl) (by decide) rfl rfl (fun _ _ h b => bt h b) ((Below.refl _ _).drew) ?_ (fun vs w6 hJ hd => ?_)
  · refine Jo.jcons (i := 0) (o := ⟨some 25, _, _, _, _, _⟩) (di := some 25) (L := []) (f := Jo.Fact.eq (.agg #[.bool s1, .slice A1 n1 c1, .int .i64 E1])) rfl rfl rfl rfl (fun vs wj hJ hd K hK => ?_) ?_
    · clear hd
      simp only [Jo.putl, List.foldl_nil, Act.put, List.setIfInBounds_toArray, List.set_cons_zero, List.set_cons_succ] at hK ⊢
      have xX10 : World.cell? wj ⟨w.heap.size, 0, none⟩ = some (.bool s1) := (X1.below hJ).cell 0
      have xX11 : World.cell? wj ⟨w.heap.size, 1, none⟩ = some (.slice A1 n1 c1) := (X1.below hJ).cell 1
      have xX12 : World.cell? wj ⟨w.heap.size, 2, none⟩ = some (.int .i64 E1) := (X1.below hJ).cell 2
      go_simp
      exact hK.out _ _ rfl (Below.refl _ _)
    refine Jo.jcons (i := 1) (o := ⟨some 26, _, _, _, _, _⟩) (di := some 26) (L := [(some 25, 0)]) (f := Jo.Fact.eq (.int .i64 x1)) rfl rfl rfl rfl (fun vs wj hJ hd K hK => ?_) ?_
    · have d0 : (Jo.Fact.eq (.agg #[.bool s1, .slice A1 n1 c1, .int .i64 E1])).P (vs 0) wj := hd 0 (by decide)
      clear hd
      simp only [Jo.putl, List.foldl_cons, List.foldl_nil, Act.put, List.setIfInBounds_toArray, List.set_cons_zero, List.set_cons_succ] at hK ⊢
      generalize vs 0 = u0 at hK d0 ⊢
      replace d0 : u0 = _ := d0
      subst d0
      go_simp
      refine (dHighest (p1.below hJ) (by omega) b1 b2 HX1.out).mono ?_
      rintro ee wk ⟨rfl, B⟩
      exact hK.out _ _ rfl B
    refine Jo.jcons (i := 2) (o := ⟨some 27, _, _, _, _, _⟩) (di := some 27) (L := []) (f := Jo.Fact.eq (.agg #[.bool s2, .slice A2 n2 c2, .int .i64 E2])) rfl rfl rfl rfl (fun vs wj hJ hd K hK => ?_) ?_
    · clear hd
      simp only [Jo.putl, List.foldl_nil, Act.put, List.setIfInBounds_toArray, List.set_cons_zero, List.set_cons_succ] at hK ⊢
      have xX20 : World.cell? wj ⟨w.heap.size + 1, 0, none⟩ = some (.bool s2) := (X2.below hJ).cell 0
      have xX21 : World.cell? wj ⟨w.heap.size + 1, 1, none⟩ = some (.slice A2 n2 c2) := (X2.below hJ).cell 1
      have xX22 : World.cell? wj ⟨w.heap.size + 1, 2, none⟩ = some (.int .i64 E2) := (X2.below hJ).cell 2
      go_simp
      exact hK.out _ _ rfl (Below.refl _ _)
    refine Jo.jcons (i := 3) (o := ⟨some 28, _, _, _, _, _⟩) (di := some 28) (L := [(some 27, 2)]) (f := Jo.Fact.eq (.int .i64 x2)) rfl rfl rfl rfl (fun vs wj hJ hd K hK => ?_) ?_
    · have d2 : (Jo.Fact.eq (.agg #[.bool s2, .slice A2 n2 c2, .int .i64 E2])).P (vs 2) wj := hd 2 (by decide)
      clear hd
      simp only [Jo.putl, List.foldl_cons, List.foldl_nil, Act.put, List.setIfInBounds_toArray, List.set_cons_zero, List.set_cons_succ] at hK ⊢
      generalize vs 2 = u2 at hK d2 ⊢
      replace d2 : u2 = _ := d2
      subst d2
      go_simp
      refine (dHighest (p2.below hJ) (by omega) b3 b4 HX2.out).mono ?_
      rintro ee wk ⟨rfl, B⟩
      exact hK.out _ _ rfl B
    refine Jo.jcons (i := 4) (o := ⟨some 29, _, _, _, _, _⟩) (di := some 29) (L := [(some 26, 1), (some 28, 3)]) (f := Jo.Fact.eq (.int .i64 p)) rfl rfl rfl rfl (fun vs wj hJ hd K hK => ?_) ?_
    · have d1 : (Jo.Fact.eq (.int .i64 x1)).P (vs 1) wj := hd 1 (by decide)
      have d3 : (Jo.Fact.eq (.int .i64 x2)).P (vs 3) wj := hd 3 (by decide)
      clear hd
      simp only [Jo.putl, List.foldl_cons, List.foldl_nil, Act.put, List.setIfInBounds_toArray, List.set_cons_zero, List.set_cons_succ] at hK ⊢
      generalize vs 1 = u1 at hK d1 ⊢
      generalize vs 3 = u3 at hK d3 ⊢
      replace d1 : u1 = _ := d1
      subst d1
      replace d3 : u3 = _ := d3
      subst d3
      go_simp
      refine (compareInt_any x1 x2 wj).mono ?_
      rintro ee wk ⟨rfl, rfl⟩
      exact hK.out _ _ (val_int HP.out) (Below.refl _ _)
    refine Jo.jcons (i := 5) (o := ⟨some 7, _, _, _, _, _⟩) (di := some 7) (L := [(some 29, 4)]) (f := Jo.Fact.eq (.int .i64 p)) rfl rfl rfl rfl (fun vs wj hJ hd K hK => ?_) ?_
    · have d4 : (Jo.Fact.eq (.int .i64 p)).P (vs 4) wj := hd 4 (by decide)
      clear hd
      simp only [Jo.putl, List.foldl_cons, List.foldl_nil, Act.put, List.setIfInBounds_toArray, List.set_cons_zero, List.set_cons_succ] at hK ⊢
      generalize vs 4 = u4 at hK d4 ⊢
      replace d4 : u4 = _ := d4
      subst d4
      go_simp
      exact hK.out _ _ rfl (Below.refl _ _)
    exact Jo.Steps.nil
  have d0 : (Jo.Fact.eq (.agg #[.bool s1, .slice A1 n1 c1, .int .i64 E1])).P (vs 0) w6 := hd 0 (by decide)
  have d1 : (Jo.Fact.eq (.int .i64 x1)).P (vs 1) w6 := hd 1 (by decide)
  have d2 : (Jo.Fact.eq (.agg #[.bool s2, .slice A2 n2 c2, .int .i64 E2])).P (vs 2) w6 := hd 2 (by decide)
  have d3 : (Jo.Fact.eq (.int .i64 x2)).P (vs 3) w6 := hd 3 (by decide)
  have d4 : (Jo.Fact.eq (.int .i64 p)).P (vs 4) w6 := hd 4 (by decide)
  have d5 : (Jo.Fact.eq (.int .i64 p)).P (vs 5) w6 := hd 5 (by decide)
  clear hd
  simp only [Jo.putl, List.foldl_cons, List.foldl_nil, Act.put, List.setIfInBounds_toArray, List.set_cons_zero, List.set_cons_succ]
  generalize vs 0 = u0 at d0 ⊢
  generalize vs 1 = u1 at d1 ⊢
  generalize vs 2 = u2 at d2 ⊢
  generalize vs 3 = u3 at d3 ⊢
  generalize vs 4 = u4 at d4 ⊢
  generalize vs 5 = u5 at d5 ⊢
  clear vs
  replace d0 : u0 = _ := d0
  subst d0
  replace d1 : u1 = _ := d1
  subst d1
  replace d2 : u2 = _ := d2
  subst d2
  replace d3 : u3 = _ := d3
  subst d3
  replace d4 : u4 = _ := d4
  subst d4
  replace d5 : u5 = _ := d5
  subst d5
  replace X1 := X1.below hJ
  replace X2 := X2.below hJ
  replace p1 := p1.below hJ
  replace p2 := p2.below hJ
  replace HB := Lib.hid (bt HB.out hJ)
  refine Jo.jdone (by kernel_rfl) ?_
  have xX10 := X1.at (i := 0) (v := .bool s1) rfl
  have xX11 := X1.at (i := 1) (v := .slice A1 n1 c1) rfl
  have xX12 := X1.at (i := 2) (v := .int .i64 E1) rfl
  have xX20 := X2.at (i := 0) (v := .bool s2) rfl
  have xX21 := X2.at (i := 1) (v := .slice A2 n2 c2) rfl
  have xX22 := X2.at (i := 2) (v := .int .i64 E2) rfl
  go_upto_region 9 with (fail)
  clear xX10 xX11 xX12 xX20 xX21 xX22
  refine Jo.region_joint (T := [0, 1, 2, 3, 4, 5, 6, 7]) (ds := [some 40, some 41, some 42, some 43, some 44, some 45, some 46, some 4]) (ls := [[], [], [0, 1], [], [], [3, 4], [2, 5], [6]]) (k := 8) (L := [(some 40, 0), (some 41, 1), (some 42, 2), (some 43, 3), (some 44, 4), (some 45, 5), (some 46, 6), (some 4, 7)]) (fuel := 0) (J := fun wj => Below (World.heap w6).size w6 wj)
    (F := [Jo.Fact.eq (.agg #[.bool s1, .slice A1 n1 c1, .int .i64 E1]), Jo.Fact.eq (.int .i64 E2), Jo.Fact.wn (N1 * ((2 ^ (E1 - E2).toNat : Nat) : Int)) (n + 262200), Jo.Fact.eq (.agg #[.bool s2, .slice A2 n2 c2, .int .i64 E2]), Jo.Fact.eq (.int .i64 E2), Jo.Fact.wn (N2 * ((2 ^ (E2 - E2).toNat : Nat) : Int)) (m + 262200), Jo.Fact.eq (.int .i64 r), Jo.Fact.eq (.int .i64 r)])
    (by kernel_rfl) (by kernel_rfl) (by decide) rfl rfl (fun _ _ h b => bt h b) ((Below.refl _ _).drew) ?_ (fun vs w7 hJ hd => ?_)
  · refine Jo.jcons (i := 0) (o := ⟨some 40, _, _, _, _, _⟩) (di := some 40) (L := []) (f := Jo.Fact.eq (.agg #[.bool s1, .slice A1 n1 c1, .int .i64 E1])) rfl rfl rfl rfl (fun vs wj hJ hd K hK => ?_) ?_
    · clear hd
      simp only [Jo.putl, List.foldl_nil, Act.put, List.setIfInBounds_toArray, List.set_cons_zero, List.set_cons_succ] at hK ⊢
      have xX10 : World.cell? wj ⟨w.heap.size, 0, none⟩ = some (.bool s1) := (X1.below hJ).cell 0
      have xX11 : World.cell? wj ⟨w.heap.size, 1, none⟩ = some (.slice A1 n1 c1) := (X1.below hJ).cell 1
      have xX12 : World.cell? wj ⟨w.heap.size, 2, none⟩ = some (.int .i64 E1) := (X1.below hJ).cell 2
      go_simp
      exact hK.out _ _ rfl (Below.refl _ _)
    refine Jo.jcons (i := 1) (o := ⟨some 41, _, _, _, _, _⟩) (di := some 41) (L := []) (f := Jo.Fact.eq (.int .i64 E2)) rfl rfl rfl rfl (fun vs wj hJ hd K hK => ?_) ?_
    · clear hd
      simp only [Jo.putl, List.foldl_nil, Act.put, List.setIfInBounds_toArray, List.set_cons_zero, List.set_cons_succ] at hK ⊢
      go_simp
      exact hK.out _ _ rfl (Below.refl _ _)
    refine Jo.jcons (i := 2) (o := ⟨some 42, _, _, _, _, _⟩) (di := some 42) (L := [(some 40, 0), (some 41, 1)]) (f := Jo.Fact.wn (N1 * ((2 ^ (E1 - E2).toNat : Nat) : Int)) (n + 262200)) rfl rfl rfl rfl (fun vs wj hJ hd K hK => ?_) ?_
    · have d0 : (Jo.Fact.eq (.agg #[.bool s1, .slice A1 n1 c1, .int .i64 E1])).P (vs 0) wj := hd 0 (by decide)
      have d1 : (Jo.Fact.eq (.int .i64 E2)).P (vs 1) wj := hd 1 (by decide)
      clear hd
      simp only [Jo.putl, List.foldl_cons, List.foldl_nil, Act.put, List.setIfInBounds_toArray, List.set_cons_zero, List.set_cons_succ] at hK ⊢
      generalize vs 0 = u0 at hK d0 ⊢
      generalize vs 1 = u1 at hK d1 ⊢
      replace d0 : u0 = _ := d0
      subst d0
      replace d1 : u1 = _ := d1
      subst d1
      go_simp
      refine (dTimes (p1.below hJ) (by omega) (by omega) (by omega) rfl).mono ?_
      rintro ee wk ⟨s5, A5, n5, c5, rfl, p5, k5, B⟩
      exact hK.out _ _ ⟨s5, A5, n5, c5, rfl, p5, by omega⟩ B
    refine Jo.jcons (i := 3) (o := ⟨some 43, _, _, _, _, _⟩) (di := some 43) (L := []) (f := Jo.Fact.eq (.agg #[.bool s2, .slice A2 n2 c2, .int .i64 E2])) rfl rfl rfl rfl (fun vs wj hJ hd K hK => ?_) ?_
    · clear hd
      simp only [Jo.putl, List.foldl_nil, Act.put, List.setIfInBounds_toArray, List.set_cons_zero, List.set_cons_succ] at hK ⊢
      have xX20 : World.cell? wj ⟨w.heap.size + 1, 0, none⟩ = some (.bool s2) := (X2.below hJ).cell 0
      have xX21 : World.cell? wj ⟨w.heap.size + 1, 1, none⟩ = some (.slice A2 n2 c2) := (X2.below hJ).cell 1
      have xX22 : World.cell? wj ⟨w.heap.size + 1, 2, none⟩ = some (.int .i64 E2) := (X2.below hJ).cell 2
      go_simp
      exact hK.out _ _ rfl (Below.refl _ _)
    refine Jo.jcons (i := 4) (o := ⟨some 44, _, _, _, _, _⟩) (di := some 44) (L := []) (f := Jo.Fact.eq (.int .i64 E2)) rfl rfl rfl rfl (fun vs wj hJ hd K hK => ?_) ?_
    · clear hd
      simp only [Jo.putl, List.foldl_nil, Act.put, List.setIfInBounds_toArray, List.set_cons_zero, List.set_cons_succ] at hK ⊢
      go_simp
      exact hK.out _ _ rfl (Below.refl _ _)
    refine Jo.jcons (i := 5) (o := ⟨some 45, _, _, _, _, _⟩) (di := some 45) (L := [(some 43, 3), (some 44, 4)]) (f := Jo.Fact.wn (N2 * ((2 ^ (E2 - E2).toNat : Nat) : Int)) (m + 262200)) rfl rfl rfl rfl (fun vs wj hJ hd K hK => ?_) ?_
    · have d3 : (Jo.Fact.eq (.agg #[.bool s2, .slice A2 n2 c2, .int .i64 E2])).P (vs 3) wj := hd 3 (by decide)
      have d4 : (Jo.Fact.eq (.int .i64 E2)).P (vs 4) wj := hd 4 (by decide)
      clear hd
      simp only [Jo.putl, List.foldl_cons, List.foldl_nil, Act.put, List.setIfInBounds_toArray, List.set_cons_zero, List.set_cons_succ] at hK ⊢
      generalize vs 3 = u3 at hK d3 ⊢
      generalize vs 4 = u4 at hK d4 ⊢
      replace d3 : u3 = _ := d3
      subst d3
      replace d4 : u4 = _ := d4
      subst d4
      go_simp
      refine (dTimes (p2.below hJ) (by omega) (by omega) (by omega) rfl).mono ?_
      rintro ee wk ⟨s6, A6, n6, c6, rfl, p6, k6, B⟩
      exact hK.out _ _ ⟨s6, A6, n6, c6, rfl, p6, by omega⟩ B
    refine Jo.jcons (i := 6) (o := ⟨some 46, _, _, _, _, _⟩) (di := some 46) (L := [(some 42, 2), (some 45, 5)]) (f := Jo.Fact.eq (.int .i64 r)) rfl rfl rfl rfl (fun vs wj hJ hd K hK => ?_) ?_
    · have d2 : (Jo.Fact.wn (N1 * ((2 ^ (E1 - E2).toNat : Nat) : Int)) (n + 262200)).P (vs 2) wj := hd 2 (by decide)
      have d5 : (Jo.Fact.wn (N2 * ((2 ^ (E2 - E2).toNat : Nat) : Int)) (m + 262200)).P (vs 5) wj := hd 5 (by decide)
      clear hd
      simp only [Jo.putl, List.foldl_cons, List.foldl_nil, Act.put, List.setIfInBounds_toArray, List.set_cons_zero, List.set_cons_succ] at hK ⊢
      generalize vs 2 = u2 at hK d2 ⊢
      generalize vs 5 = u5 at hK d5 ⊢
      obtain ⟨s5, A5, n5, c5, rfl, p5, k5⟩ := d2
      obtain ⟨s6, A6, n6, c6, rfl, p6, k6⟩ := d5
      go_simp
      refine (wCmp p5.wr p6.wr HR.out).mono ?_
      rintro ee wk ⟨rfl, B⟩
      exact hK.out _ _ rfl B
    refine Jo.jcons (i := 7) (o := ⟨some 4, _, _, _, _, _⟩) (di := some 4) (L := [(some 46, 6)]) (f := Jo.Fact.eq (.int .i64 r)) rfl rfl rfl rfl (fun vs wj hJ hd K hK => ?_) ?_
    · have d6 : (Jo.Fact.eq (.int .i64 r)).P (vs 6) wj := hd 6 (by decide)
      clear hd
      simp only [Jo.putl, List.foldl_cons, List.foldl_nil, Act.put, List.setIfInBounds_toArray, List.set_cons_zero, List.set_cons_succ] at hK ⊢
      generalize vs 6 = u6 at hK d6 ⊢
      replace d6 : u6 = _ := d6
      subst d6
      go_simp
      exact hK.out _ _ rfl (Below.refl _ _)
    exact Jo.Steps.nil
  have d0 : (Jo.Fact.eq (.agg #[.bool s1, .slice A1 n1 c1, .int .i64 E1])).P (vs 0) w7 := hd 0 (by decide)
  have d1 : (Jo.Fact.eq (.int .i64 E2)).P (vs 1) w7 := hd 1 (by decide)
  have d2 : (Jo.Fact.wn (N1 * ((2 ^ (E1 - E2).toNat : Nat) : Int)) (n + 262200)).P (vs 2) w7 := hd 2 (by decide)
  have d3 : (Jo.Fact.eq (.agg #[.bool s2, .slice A2 n2 c2, .int .i64 E2])).P (vs 3) w7 := hd 3 (by decide)
  have d4 : (Jo.Fact.eq (.int .i64 E2)).P (vs 4) w7 := hd 4 (by decide)
  have d5 : (Jo.Fact.wn (N2 * ((2 ^ (E2 - E2).toNat : Nat) : Int)) (m + 262200)).P (vs 5) w7 := hd 5 (by decide)
  have d6 : (Jo.Fact.eq (.int .i64 r)).P (vs 6) w7 := hd 6 (by decide)
  have d7 : (Jo.Fact.eq (.int .i64 r)).P (vs 7) w7 := hd 7 (by decide)
  clear hd
  simp only [Jo.putl, List.foldl_cons, List.foldl_nil, Act.put, List.setIfInBounds_toArray, List.set_cons_zero, List.set_cons_succ]
  generalize vs 0 = u0 at d0 ⊢
  generalize vs 1 = u1 at d1 ⊢
  generalize vs 2 = u2 at d2 ⊢
  generalize vs 3 = u3 at d3 ⊢
  generalize vs 4 = u4 at d4 ⊢
  generalize vs 5 = u5 at d5 ⊢
  generalize vs 6 = u6 at d6 ⊢
  generalize vs 7 = u7 at d7 ⊢
  clear vs
  replace d0 : u0 = _ := d0
  subst d0
  replace d1 : u1 = _ := d1
  subst d1
  obtain ⟨s5, A5, n5, c5, rfl, _, _⟩ := d2
  replace d3 : u3 = _ := d3
  subst d3
  replace d4 : u4 = _ := d4
  subst d4
  obtain ⟨s6, A6, n6, c6, rfl, _, _⟩ := d5
  replace d6 : u6 = _ := d6
  subst d6
  replace d7 : u7 = _ := d7
  subst d7
  replace X1 := X1.below hJ
  replace X2 := X2.below hJ
  replace p1 := p1.below hJ
  replace p2 := p2.below hJ
  replace HB := Lib.hid (bt HB.out hJ)
  refine Jo.jdone (by kernel_rfl) ?_
  go_wp2
  go_ret
  exact ⟨rfl, HB.out⟩

theorem dCmp {w : World} {A B : Option Addr} {n c m d : Nat} {s t : Bool} {z e y f r : Int} (hT : Tab w) (h : Wr w s A n c z) (k : Wr w t B m d y) (hn : n ≤ 100000) (hm : m ≤ 100000) (hr : cmpI (vl (mk z e)) (vl (mk y f)) = r) :
    Calls Tryd.prog 31 #[.agg #[.bool s, .slice A n c, .int .i64 e], .agg #[.bool t, .slice B m d, .int .i64 f]] w (PI w r) := by
  obtain ⟨b1, b2⟩ := mk_bd z e
  obtain ⟨b3, b4⟩ := mk_bd y f
  by_cases hs : cmpI (mk z e).1 0 = cmpI (mk y f).1 0
  · by_cases hp : cmpI (((blen (mk z e).1.natAbs : Nat) : Int) + (mk z e).2) (((blen (mk y f).1.natAbs : Nat) : Int) + (mk y f).2) = 0
    · by_cases hle : (mk z e).2 ≤ (mk y f).2
      · refine dcmp_up hT h k hn hm b1 b2 b3 b4 (Lib.hid rfl) (Lib.hid rfl) (Lib.hid rfl) (Lib.hid rfl) (Lib.hid rfl) (Lib.hid rfl) hs (Lib.hid rfl) (Lib.hid rfl) (Lib.hid rfl) hp hle (Lib.hid ?_)
        rw [← hr, ← vl_cmp_low (Int.le_refl (mk z e).2) hle b1]
        simp
      · refine dcmp_dn hT h k hn hm b1 b2 b3 b4 (Lib.hid rfl) (Lib.hid rfl) (Lib.hid rfl) (Lib.hid rfl) (Lib.hid rfl) (Lib.hid rfl) hs (Lib.hid rfl) (Lib.hid rfl) (Lib.hid rfl) hp (by omega) (Lib.hid ?_)
        rw [← hr, ← vl_cmp_low (l := (mk y f).2) (by omega) (Int.le_refl _) b3]
        simp
    · refine dcmp_tops hT h k hn hm b1 b2 b3 b4 (Lib.hid rfl) (Lib.hid rfl) (Lib.hid rfl) (Lib.hid rfl) (Lib.hid rfl) (Lib.hid rfl) hs (Lib.hid rfl) (Lib.hid rfl) (Lib.hid rfl) hp (Lib.hid ?_)
      rw [← hr]
      exact vl_cmp_top (mk_nf _ _) (mk_nf _ _) hs rfl hp
  · refine dcmp_signs hT h k hn hm b1 b2 b3 b4 (Lib.hid rfl) (Lib.hid rfl) (Lib.hid rfl) (Lib.hid rfl) (Lib.hid rfl) (Lib.hid rfl) hs (Lib.hid ?_)
    rw [← hr, ← vl_sign, ← vl_sign]
    exact cmp_signs (by rw [vl_sign, vl_sign]; exact hs)
end Go.Proofs.YteoeoppkefcmdaaDoor

/-
  What pelorusref03.Two does: the sum of two.
-/
namespace Go.Proofs.YteoeoppkefcmdaaDoor
open Go.RowKit
set_option linter.unusedVariables false

set_option maxHeartbeats 4000000 in
theorem q3two_l {w : World} {A B : Option Addr} {n c m d : Nat} {s t : Bool} {z e y f N1 E1 N2 E2 : Int} (h : Wr w s A n c z) (k : Wr w t B m d y) (hn : n ≤ 20000) (hm : m ≤ 20000)
    (HN1 : Hid ((mk z e).1 = N1)) (HE1 : Hid ((mk z e).2 = E1)) (HN2 : Hid ((mk y f).1 = N2)) (HE2 : Hid ((mk y f).2 = E2)) (h1 : N1 = 0) :
    Calls Tryd.prog 50 #[.agg #[.bool s, .slice A n c, .int .i64 e], .agg #[.bool t, .slice B m d, .int .i64 f]] w (D1 w m N2 E2) := by
  go_enter Tryd.func50, Tryd.ntmps50
  go_upto_region 1 with (fail)
  have X1 := (Bo.newAt w (g := w.heap.size) (by simp) #[.bool s, .slice A n c, .int .i64 e] 27).below (bel2 _ (.cells #[.bool t, .slice B m d, .int .i64 f] 27) (.cells #[.bool false, .slice none 0 0, .int .i64 0] 27))
  have X2 := (Bo.newAt (w.alloc (.cells #[.bool s, .slice A n c, .int .i64 e] 27)) (g := w.heap.size + 1) (by simp) #[.bool t, .slice B m d, .int .i64 f] 27).below (bel1 _ (.cells #[.bool false, .slice none 0 0, .int .i64 0] 27))
  have XR := (Bo.newAt ((w.alloc (.cells #[.bool s, .slice A n c, .int .i64 e] 27)).alloc (.cells #[.bool t, .slice B m d, .int .i64 f] 27)) (g := w.heap.size + 1 + 1) (by simp) #[.bool false, .slice none 0 0, .int .i64 0] 27)
  have HB := Lib.hid (bel3 w (.cells #[.bool s, .slice A n c, .int .i64 e] 27) (.cells #[.bool t, .slice B m d, .int .i64 f] 27) (.cells #[.bool false, .slice none 0 0, .int .i64 0] 27))
  replace h := h.below HB.out
  replace k := k.below HB.out
  generalize hW1 : (((w.alloc (.cells #[.bool s, .slice A n c, .int .i64 e] 27)).alloc (.cells #[.bool t, .slice B m d, .int .i64 f] 27)).alloc (.cells #[.bool false, .slice none 0 0, .int .i64 0] 27)) = w1 at *
  clear hW1
  have xX10 := X1.at (i := 0) (v := .bool s) rfl
  have xX11 := X1.at (i := 1) (v := .slice A n c) rfl
  have xX12 := X1.at (i := 2) (v := .int .i64 e) rfl
  go_wp2_with fail
  refine (q3Make h (by omega) HN1.out HE1.out).mono ?_
  rintro ee w2 ⟨s1, A1, n1, c1, rfl, p1, k1, B⟩
  clear xX10 xX11 xX12
  replace X1 := X1.below B
  replace X2 := X2.below B
  replace XR := XR.below B
  replace h := h.below B
  replace k := k.below B
  replace HB := Lib.hid (bt HB.out B)
  clear B
  have xX20 := X2.at (i := 0) (v := .bool t) rfl
  have xX21 := X2.at (i := 1) (v := .slice B m d) rfl
  have xX22 := X2.at (i := 2) (v := .int .i64 f) rfl
  go_upto_region 2 with (fail)
  clear xX20 xX21 xX22
  have lX5 := Nat.le_refl (World.heap w2).size
  have nX5X2 := X2.lt
  have nX5XR := XR.lt
  replace X2 := X2.below (bel1 _ (.cells #[.bool s1, .slice A1 n1 c1, .int .i64 E1] 27))
  replace XR := XR.below (bel1 _ (.cells #[.bool s1, .slice A1 n1 c1, .int .i64 E1] 27))
  replace k := k.below (bel1 _ (.cells #[.bool s1, .slice A1 n1 c1, .int .i64 E1] 27))
  replace p1 := p1.below (bel1 _ (.cells #[.bool s1, .slice A1 n1 c1, .int .i64 E1] 27))
  replace HB := Lib.hid (bt HB.out (bel1 _ (.cells #[.bool s1, .slice A1 n1 c1, .int .i64 E1] 27)))
  have X5 := Bo.new w2 #[.bool s1, .slice A1 n1 c1, .int .i64 E1] 27
  generalize hWn : World.alloc w2 (.cells #[.bool s1, .slice A1 n1 c1, .int .i64 E1] 27) = w3 at *
  clear hWn
  have xX20 := X2.at (i := 0) (v := .bool t) rfl
  have xX21 := X2.at (i := 1) (v := .slice B m d) rfl
  have xX22 := X2.at (i := 2) (v := .int .i64 f) rfl
  go_wp2_with fail
  refine (q3Make k (by omega) HN2.out HE2.out).mono ?_
  rintro ee w4 ⟨s2, A2, n2, c2, rfl, p2, k2, B⟩
  clear xX20 xX21 xX22
  replace X2 := X2.below B
  replace XR := XR.below B
  replace X5 := X5.below B
  replace k := k.below B
  replace p1 := p1.below B
  replace HB := Lib.hid (bt HB.out B)
  clear B
  go_upto_region 3 with (fail)
  have lX6 := Nat.le_refl (World.heap w4).size
  have nX6XR := XR.lt
  have nX6X5 := X5.lt
  replace XR := XR.below (bel1 _ (.cells #[.bool s2, .slice A2 n2 c2, .int .i64 E2] 27))
  replace X5 := X5.below (bel1 _ (.cells #[.bool s2, .slice A2 n2 c2, .int .i64 E2] 27))
  replace p1 := p1.below (bel1 _ (.cells #[.bool s2, .slice A2 n2 c2, .int .i64 E2] 27))
  replace p2 := p2.below (bel1 _ (.cells #[.bool s2, .slice A2 n2 c2, .int .i64 E2] 27))
  replace HB := Lib.hid (bt HB.out (bel1 _ (.cells #[.bool s2, .slice A2 n2 c2, .int .i64 E2] 27)))
  have X6 := Bo.new w4 #[.bool s2, .slice A2 n2 c2, .int .i64 E2] 27
  generalize hWn : World.alloc w4 (.cells #[.bool s2, .slice A2 n2 c2, .int .i64 E2] 27) = w5 at *
  clear hWn
  clear lX6
  have hz : n1 = 0 := by have := p1.1.pos; omega
  subst hz
  have xX50 := X5.at (i := 0) (v := .bool s1) rfl
  have xX51 := X5.at (i := 1) (v := .slice A1 0 c1) rfl
  have xX52 := X5.at (i := 2) (v := .int .i64 E1) rfl
  have xX60 := X6.at (i := 0) (v := .bool s2) rfl
  have xX61 := X6.at (i := 1) (v := .slice A2 n2 c2) rfl
  have xX62 := X6.at (i := 2) (v := .int .i64 E2) rfl
  have xXR0 := XR.at (i := 0) (v := .bool false) rfl
  have zXR0 := XR.frozen 0
  have xXR1 := XR.at (i := 1) (v := .slice none 0 0) rfl
  have zXR1 := XR.frozen 1
  have xXR2 := XR.at (i := 2) (v := .int .i64 0) rfl
  have zXR2 := XR.frozen 2
  go_wp2
  clear xX50 xX51 xX52 xX60 xX61 xX62 xXR0 zXR0 xXR1 zXR1 xXR2 zXR2
  have SX := StN.mk3 XR (.bool s2) (.slice A2 n2 c2) (.int .i64 E2)
  replace p2 := p2.stn SX (by simp [no32])
  replace HB := Lib.hid (SX.below HB.out (by omega))
  replace XR := SX.box
  clear SX
  generalize (World.setCell (World.setCell (World.setCell w5 ⟨w.heap.size + 1 + 1, 0, none⟩ (.bool s2)) ⟨w.heap.size + 1 + 1, 1, none⟩ (.slice A2 n2 c2)) ⟨w.heap.size + 1 + 1, 2, none⟩ (.int .i64 E2)) = w6 at *
  have r0 := XR.cell 0
  have r1 := XR.cell 1
  have r2 := XR.cell 2
  exact bodyPost_ret (v := .agg #[.bool s2, .slice A2 n2 c2, .int .i64 E2]) (by simp [results, Tryd.results50, go_sem, r0, r1, r2]) rfl ⟨s2, _, _, _, rfl, p2, k2, HB.out⟩

set_option maxHeartbeats 4000000 in
theorem q3two_r {w : World} {A B : Option Addr} {n c m d : Nat} {s t : Bool} {z e y f N1 E1 N2 E2 : Int} (h : Wr w s A n c z) (k : Wr w t B m d y) (hn : n ≤ 20000) (hm : m ≤ 20000)
    (HN1 : Hid ((mk z e).1 = N1)) (HE1 : Hid ((mk z e).2 = E1)) (HN2 : Hid ((mk y f).1 = N2)) (HE2 : Hid ((mk y f).2 = E2)) (h1 : N1 ≠ 0) (h2 : N2 = 0) :
    Calls Tryd.prog 50 #[.agg #[.bool s, .slice A n c, .int .i64 e], .agg #[.bool t, .slice B m d, .int .i64 f]] w (D1 w n N1 E1) := by
  go_enter Tryd.func50, Tryd.ntmps50
  go_upto_region 1 with (fail)
  have X1 := (Bo.newAt w (g := w.heap.size) (by simp) #[.bool s, .slice A n c, .int .i64 e] 27).below (bel2 _ (.cells #[.bool t, .slice B m d, .int .i64 f] 27) (.cells #[.bool false, .slice none 0 0, .int .i64 0] 27))
  have X2 := (Bo.newAt (w.alloc (.cells #[.bool s, .slice A n c, .int .i64 e] 27)) (g := w.heap.size + 1) (by simp) #[.bool t, .slice B m d, .int .i64 f] 27).below (bel1 _ (.cells #[.bool false, .slice none 0 0, .int .i64 0] 27))
  have XR := (Bo.newAt ((w.alloc (.cells #[.bool s, .slice A n c, .int .i64 e] 27)).alloc (.cells #[.bool t, .slice B m d, .int .i64 f] 27)) (g := w.heap.size + 1 + 1) (by simp) #[.bool false, .slice none 0 0, .int .i64 0] 27)
  have HB := Lib.hid (bel3 w (.cells #[.bool s, .slice A n c, .int .i64 e] 27) (.cells #[.bool t, .slice B m d, .int .i64 f] 27) (.cells #[.bool false, .slice none 0 0, .int .i64 0] 27))
  replace h := h.below HB.out
  replace k := k.below HB.out
  generalize hW1 : (((w.alloc (.cells #[.bool s, .slice A n c, .int .i64 e] 27)).alloc (.cells #[.bool t, .slice B m d, .int .i64 f] 27)).alloc (.cells #[.bool false, .slice none 0 0, .int .i64 0] 27)) = w1 at *
  clear hW1
  have xX10 := X1.at (i := 0) (v := .bool s) rfl
  have xX11 := X1.at (i := 1) (v := .slice A n c) rfl
  have xX12 := X1.at (i := 2) (v := .int .i64 e) rfl
  go_wp2_with fail
  refine (q3Make h (by omega) HN1.out HE1.out).mono ?_
  rintro ee w2 ⟨s1, A1, n1, c1, rfl, p1, k1, B⟩
  clear xX10 xX11 xX12
  replace X1 := X1.below B
  replace X2 := X2.below B
  replace XR := XR.below B
  replace h := h.below B
  replace k := k.below B
  replace HB := Lib.hid (bt HB.out B)
  clear B
  have xX20 := X2.at (i := 0) (v := .bool t) rfl
  have xX21 := X2.at (i := 1) (v := .slice B m d) rfl
  have xX22 := X2.at (i := 2) (v := .int .i64 f) rfl
  go_upto_region 2 with (fail)
  clear xX20 xX21 xX22
  have lX5 := Nat.le_refl (World.heap w2).size
  have nX5X2 := X2.lt
  have nX5XR := XR.lt
  replace X2 := X2.below (bel1 _ (.cells #[.bool s1, .slice A1 n1 c1, .int .i64 E1] 27))
  replace XR := XR.below (bel1 _ (.cells #[.bool s1, .slice A1 n1 c1, .int .i64 E1] 27))
  replace k := k.below (bel1 _ (.cells #[.bool s1, .slice A1 n1 c1, .int .i64 E1] 27))
  replace p1 := p1.below (bel1 _ (.cells #[.bool s1, .slice A1 n1 c1, .int .i64 E1] 27))
  replace HB := Lib.hid (bt HB.out (bel1 _ (.cells #[.bool s1, .slice A1 n1 c1, .int .i64 E1] 27)))
  have X5 := Bo.new w2 #[.bool s1, .slice A1 n1 c1, .int .i64 E1] 27
  generalize hWn : World.alloc w2 (.cells #[.bool s1, .slice A1 n1 c1, .int .i64 E1] 27) = w3 at *
  clear hWn
  have xX20 := X2.at (i := 0) (v := .bool t) rfl
  have xX21 := X2.at (i := 1) (v := .slice B m d) rfl
  have xX22 := X2.at (i := 2) (v := .int .i64 f) rfl
  go_wp2_with fail
  refine (q3Make k (by omega) HN2.out HE2.out).mono ?_
  rintro ee w4 ⟨s2, A2, n2, c2, rfl, p2, k2, B⟩
  clear xX20 xX21 xX22
  replace X2 := X2.below B
  replace XR := XR.below B
  replace X5 := X5.below B
  replace k := k.below B
  replace p1 := p1.below B
  replace HB := Lib.hid (bt HB.out B)
  clear B
  go_upto_region 3 with (fail)
  have lX6 := Nat.le_refl (World.heap w4).size
  have nX6XR := XR.lt
  have nX6X5 := X5.lt
  replace XR := XR.below (bel1 _ (.cells #[.bool s2, .slice A2 n2 c2, .int .i64 E2] 27))
  replace X5 := X5.below (bel1 _ (.cells #[.bool s2, .slice A2 n2 c2, .int .i64 E2] 27))
  replace p1 := p1.below (bel1 _ (.cells #[.bool s2, .slice A2 n2 c2, .int .i64 E2] 27))
  replace p2 := p2.below (bel1 _ (.cells #[.bool s2, .slice A2 n2 c2, .int .i64 E2] 27))
  replace HB := Lib.hid (bt HB.out (bel1 _ (.cells #[.bool s2, .slice A2 n2 c2, .int .i64 E2] 27)))
  have X6 := Bo.new w4 #[.bool s2, .slice A2 n2 c2, .int .i64 E2] 27
  generalize hWn : World.alloc w4 (.cells #[.bool s2, .slice A2 n2 c2, .int .i64 E2] 27) = w5 at *
  clear hWn
  clear lX6
  have hpa : 0 < n1 := by have := p1.1.pos; omega
  have qa : ((n1 : Int) == 0) = false := by have : (n1 : Int) ≠ 0 := by omega
                                            simpa using this
  have la := p1.1.rd.big
  have hz : n2 = 0 := by have := p2.1.pos; omega
  subst hz
  have xX50 := X5.at (i := 0) (v := .bool s1) rfl
  have xX51 := X5.at (i := 1) (v := .slice A1 n1 c1) rfl
  have xX52 := X5.at (i := 2) (v := .int .i64 E1) rfl
  have xX60 := X6.at (i := 0) (v := .bool s2) rfl
  have xX61 := X6.at (i := 1) (v := .slice A2 0 c2) rfl
  have xX62 := X6.at (i := 2) (v := .int .i64 E2) rfl
  have xXR0 := XR.at (i := 0) (v := .bool false) rfl
  have zXR0 := XR.frozen 0
  have xXR1 := XR.at (i := 1) (v := .slice none 0 0) rfl
  have zXR1 := XR.frozen 1
  have xXR2 := XR.at (i := 2) (v := .int .i64 0) rfl
  have zXR2 := XR.frozen 2
  go_wp2
  clear xX50 xX51 xX52 xX60 xX61 xX62 xXR0 zXR0 xXR1 zXR1 xXR2 zXR2
  have SX := StN.mk3 XR (.bool s1) (.slice A1 n1 c1) (.int .i64 E1)
  replace p1 := p1.stn SX (by simp [no32])
  replace HB := Lib.hid (SX.below HB.out (by omega))
  replace XR := SX.box
  clear SX
  generalize (World.setCell (World.setCell (World.setCell w5 ⟨w.heap.size + 1 + 1, 0, none⟩ (.bool s1)) ⟨w.heap.size + 1 + 1, 1, none⟩ (.slice A1 n1 c1)) ⟨w.heap.size + 1 + 1, 2, none⟩ (.int .i64 E1)) = w6 at *
  have r0 := XR.cell 0
  have r1 := XR.cell 1
  have r2 := XR.cell 2
  exact bodyPost_ret (v := .agg #[.bool s1, .slice A1 n1 c1, .int .i64 E1]) (by simp [results, Tryd.results50, go_sem, r0, r1, r2]) rfl ⟨s1, _, _, _, rfl, p1, k1, HB.out⟩

set_option maxHeartbeats 8000000 in
theorem q3sum_up {w : World} {A B : Option Addr} {n c m d : Nat} {s t : Bool} {z e y f N1 E1 N2 E2 N E : Int} (h : Wr w s A n c z) (k : Wr w t B m d y) (hn : n ≤ 20000) (hm : m ≤ 20000)
    (HN1 : Hid ((mk z e).1 = N1)) (HE1 : Hid ((mk z e).2 = E1)) (HN2 : Hid ((mk y f).1 = N2)) (HE2 : Hid ((mk y f).2 = E2)) (h1 : N1 ≠ 0) (h2 : N2 ≠ 0) (hle : E1 ≤ E2) (hfar : E2 - E1 ≤ 640000) (b1 : -4194304 ≤ E1) (b2 : E2 ≤ 4194304)
    (HN : Hid ((mk (N1 + N2 * ((2 ^ (E2 - E1).toNat : Nat) : Int)) E1).1 = N)) (HE : Hid ((mk (N1 + N2 * ((2 ^ (E2 - E1).toNat : Nat) : Int)) E1).2 = E)) :
    Calls Tryd.prog 50 #[.agg #[.bool s, .slice A n c, .int .i64 e], .agg #[.bool t, .slice B m d, .int .i64 f]] w (D1 w (n + m + 20010) N E) := by
  obtain ⟨δ, hδ⟩ : ∃ x, E2 - E1 = x := ⟨_, rfl⟩
  have HW : Hid (IntKind.i64.wrap (E2 - E1) = δ) := Lib.hid (by rw [hδ]; exact IntWalk.i64_in _ (by omega))
  have hd0 : 0 ≤ δ := by omega
  rw [hδ] at hfar HN HE
  have tle : decide (E2 < E1) = false := by simp; omega
  clear hδ
  go_enter Tryd.func50, Tryd.ntmps50
  go_upto_region 1 with (fail)
  have X1 := (Bo.newAt w (g := w.heap.size) (by simp) #[.bool s, .slice A n c, .int .i64 e] 27).below (bel2 _ (.cells #[.bool t, .slice B m d, .int .i64 f] 27) (.cells #[.bool false, .slice none 0 0, .int .i64 0] 27))
  have X2 := (Bo.newAt (w.alloc (.cells #[.bool s, .slice A n c, .int .i64 e] 27)) (g := w.heap.size + 1) (by simp) #[.bool t, .slice B m d, .int .i64 f] 27).below (bel1 _ (.cells #[.bool false, .slice none 0 0, .int .i64 0] 27))
  have XR := (Bo.newAt ((w.alloc (.cells #[.bool s, .slice A n c, .int .i64 e] 27)).alloc (.cells #[.bool t, .slice B m d, .int .i64 f] 27)) (g := w.heap.size + 1 + 1) (by simp) #[.bool false, .slice none 0 0, .int .i64 0] 27)
  have HB := Lib.hid (bel3 w (.cells #[.bool s, .slice A n c, .int .i64 e] 27) (.cells #[.bool t, .slice B m d, .int .i64 f] 27) (.cells #[.bool false, .slice none 0 0, .int .i64 0] 27))
  replace h := h.below HB.out
  replace k := k.below HB.out
  generalize hW1 : (((w.alloc (.cells #[.bool s, .slice A n c, .int .i64 e] 27)).alloc (.cells #[.bool t, .slice B m d, .int .i64 f] 27)).alloc (.cells #[.bool false, .slice none 0 0, .int .i64 0] 27)) = w1 at *
  clear hW1
  have xX10 := X1.at (i := 0) (v := .bool s) rfl
  have xX11 := X1.at (i := 1) (v := .slice A n c) rfl
  have xX12 := X1.at (i := 2) (v := .int .i64 e) rfl
  go_wp2_with fail
  refine (q3Make h (by omega) HN1.out HE1.out).mono ?_
  rintro ee w2 ⟨s1, A1, n1, c1, rfl, p1, k1, B⟩
  clear xX10 xX11 xX12
  replace X1 := X1.below B
  replace X2 := X2.below B
  replace XR := XR.below B
  replace h := h.below B
  replace k := k.below B
  replace HB := Lib.hid (bt HB.out B)
  clear B
  have xX20 := X2.at (i := 0) (v := .bool t) rfl
  have xX21 := X2.at (i := 1) (v := .slice B m d) rfl
  have xX22 := X2.at (i := 2) (v := .int .i64 f) rfl
  go_upto_region 2 with (fail)
  clear xX20 xX21 xX22
  have lX5 := Nat.le_refl (World.heap w2).size
  have nX5X2 := X2.lt
  have nX5XR := XR.lt
  replace X2 := X2.below (bel1 _ (.cells #[.bool s1, .slice A1 n1 c1, .int .i64 E1] 27))
  replace XR := XR.below (bel1 _ (.cells #[.bool s1, .slice A1 n1 c1, .int .i64 E1] 27))
  replace k := k.below (bel1 _ (.cells #[.bool s1, .slice A1 n1 c1, .int .i64 E1] 27))
  replace p1 := p1.below (bel1 _ (.cells #[.bool s1, .slice A1 n1 c1, .int .i64 E1] 27))
  replace HB := Lib.hid (bt HB.out (bel1 _ (.cells #[.bool s1, .slice A1 n1 c1, .int .i64 E1] 27)))
  have X5 := Bo.new w2 #[.bool s1, .slice A1 n1 c1, .int .i64 E1] 27
  generalize hWn : World.alloc w2 (.cells #[.bool s1, .slice A1 n1 c1, .int .i64 E1] 27) = w3 at *
  clear hWn
  have xX20 := X2.at (i := 0) (v := .bool t) rfl
  have xX21 := X2.at (i := 1) (v := .slice B m d) rfl
  have xX22 := X2.at (i := 2) (v := .int .i64 f) rfl
  go_wp2_with fail
  refine (q3Make k (by omega) HN2.out HE2.out).mono ?_
  rintro ee w4 ⟨s2, A2, n2, c2, rfl, p2, k2, B⟩
  clear xX20 xX21 xX22
  replace X2 := X2.below B
  replace XR := XR.below B
  replace X5 := X5.below B
  replace k := k.below B
  replace p1 := p1.below B
  replace HB := Lib.hid (bt HB.out B)
  clear B
  go_upto_region 3 with (fail)
  have lX6 := Nat.le_refl (World.heap w4).size
  have nX6XR := XR.lt
  have nX6X5 := X5.lt
  replace XR := XR.below (bel1 _ (.cells #[.bool s2, .slice A2 n2 c2, .int .i64 E2] 27))
  replace X5 := X5.below (bel1 _ (.cells #[.bool s2, .slice A2 n2 c2, .int .i64 E2] 27))
  replace p1 := p1.below (bel1 _ (.cells #[.bool s2, .slice A2 n2 c2, .int .i64 E2] 27))
  replace p2 := p2.below (bel1 _ (.cells #[.bool s2, .slice A2 n2 c2, .int .i64 E2] 27))
  replace HB := Lib.hid (bt HB.out (bel1 _ (.cells #[.bool s2, .slice A2 n2 c2, .int .i64 E2] 27)))
  have X6 := Bo.new w4 #[.bool s2, .slice A2 n2 c2, .int .i64 E2] 27
  generalize hWn : World.alloc w4 (.cells #[.bool s2, .slice A2 n2 c2, .int .i64 E2] 27) = w5 at *
  clear hWn
  clear lX6
  have hpa : 0 < n1 := by have := p1.1.pos; omega
  have qa : ((n1 : Int) == 0) = false := by have : (n1 : Int) ≠ 0 := by omega
                                            simpa using this
  have la := p1.1.rd.big
  have hpb : 0 < n2 := by have := p2.1.pos; omega
  have qb : ((n2 : Int) == 0) = false := by have : (n2 : Int) ≠ 0 := by omega
                                            simpa using this
  have lb := p2.1.rd.big
  clear h1 h2
  have xX50 := X5.at (i := 0) (v := .bool s1) rfl
  have xX51 := X5.at (i := 1) (v := .slice A1 n1 c1) rfl
  have xX52 := X5.at (i := 2) (v := .int .i64 E1) rfl
  have xX60 := X6.at (i := 0) (v := .bool s2) rfl
  have xX61 := X6.at (i := 1) (v := .slice A2 n2 c2) rfl
  have xX62 := X6.at (i := 2) (v := .int .i64 E2) rfl
  go_upto_region 11 with (fail)
  clear xX50 xX51 xX52 xX60 xX61 xX62
  have HC := Lib.hid (sg_scale s2 N2 (2 ^ δ.toNat) p2.wr.eq)
  have lt5 := X5.lt
  have lt6 := X6.lt
  have ltR := XR.lt
  refine Jo.region_joint (T := [0, 1, 2, 3, 4, 5, 6, 7, 8, 9, 10, 11, 12, 13]) (ds := [some 39, some 40, some 41, some 42, some 43, some 44, some 45, some 46, some 47, some 48, some 49, some 50, some 51, some 8, none]) (ls := [[], [0], [1], [], [3], [4], [], [6], [], [8], [7, 9], [5, 10], [2, 11], [], []]) (k := 15) (L := [(some 39, 0), (some 40, 1), (some 41, 2), (some 42, 3), (some 43, 4), (some 44, 5), (some 45, 6), (some 46, 7), (some 47, 8), (some 48, 9), (some 49, 10), (some 50, 11), (some 51, 12), (some 8, 13)]) (fuel := 1) (J := fun wj => Below (World.heap w5).size w5 wj)
    (F := [Jo.Fact.eq (.pointer (some ⟨w4.heap.size, 0, none⟩)), Jo.Fact.eq (.pointer (some ⟨w4.heap.size, 0, none⟩)), Jo.Fact.eq (.bool s2), Jo.Fact.eq (.pointer (some ⟨w4.heap.size, 0, none⟩)), Jo.Fact.eq (.pointer (some ⟨w4.heap.size, 1, none⟩)), Jo.Fact.eq (.slice A2 n2 c2), Jo.Fact.eq (.pointer (some ⟨w4.heap.size, 2, none⟩)), Jo.Fact.eq (.int .i64 E2), Jo.Fact.eq (.pointer (some ⟨w2.heap.size, 2, none⟩)), Jo.Fact.eq (.int .i64 E1), Jo.Fact.eq (.int .i64 δ), Jo.Fact.nm (N2.natAbs * 2 ^ δ.toNat) (n2 + δ.toNat / 32 + 1), Jo.Fact.wn (N2 * ((2 ^ δ.toNat : Nat) : Int)) (n2 + δ.toNat / 32 + 1), Jo.Fact.bo w5.heap.size #[.bool false, .slice none 0 0] 24, Jo.Fact.any])
    (by kernel_rfl) (by kernel_rfl) (by decide) rfl rfl (fun _ _ h b => bt h b) ((Below.refl _ _).drew) ?_ (fun vs w9 hJ hd => ?_)
  · refine Jo.jcons (i := 0) (o := ⟨some 39, _, _, _, _, _⟩) (di := some 39) (L := []) (f := Jo.Fact.eq (.pointer (some ⟨w4.heap.size, 0, none⟩))) rfl rfl rfl rfl (fun vs wj hJ hd K hK => ?_) ?_
    · clear hd
      simp only [Jo.putl, List.foldl_nil, Act.put, List.setIfInBounds_toArray, List.set_cons_zero, List.set_cons_succ] at hK ⊢
      go_simp
      exact hK.out _ _ rfl (Below.refl _ _)
    refine Jo.jcons (i := 1) (o := ⟨some 40, _, _, _, _, _⟩) (di := some 40) (L := [(some 39, 0)]) (f := Jo.Fact.eq (.pointer (some ⟨w4.heap.size, 0, none⟩))) rfl rfl rfl rfl (fun vs wj hJ hd K hK => ?_) ?_
    · have d0 : (Jo.Fact.eq (.pointer (some ⟨w4.heap.size, 0, none⟩))).P (vs 0) wj := hd 0 (by decide)
      clear hd
      simp only [Jo.putl, List.foldl_cons, List.foldl_nil, Act.put, List.setIfInBounds_toArray, List.set_cons_zero, List.set_cons_succ] at hK ⊢
      generalize vs 0 = u0 at hK d0 ⊢
      replace d0 : u0 = _ := d0
      subst d0
      go_simp
      exact hK.out _ _ rfl (Below.refl _ _)
    refine Jo.jcons (i := 2) (o := ⟨some 41, _, _, _, _, _⟩) (di := some 41) (L := [(some 40, 1)]) (f := Jo.Fact.eq (.bool s2)) rfl rfl rfl rfl (fun vs wj hJ hd K hK => ?_) ?_
    · have d1 : (Jo.Fact.eq (.pointer (some ⟨w4.heap.size, 0, none⟩))).P (vs 1) wj := hd 1 (by decide)
      clear hd
      simp only [Jo.putl, List.foldl_cons, List.foldl_nil, Act.put, List.setIfInBounds_toArray, List.set_cons_zero, List.set_cons_succ] at hK ⊢
      generalize vs 1 = u1 at hK d1 ⊢
      replace d1 : u1 = _ := d1
      subst d1
      have xX60 : World.cell? wj ⟨w4.heap.size, 0, none⟩ = some (.bool s2) := (X6.below hJ).cell 0
      have xX61 : World.cell? wj ⟨w4.heap.size, 1, none⟩ = some (.slice A2 n2 c2) := (X6.below hJ).cell 1
      have xX62 : World.cell? wj ⟨w4.heap.size, 2, none⟩ = some (.int .i64 E2) := (X6.below hJ).cell 2
      go_simp
      exact hK.out _ _ rfl (Below.refl _ _)
    refine Jo.jcons (i := 3) (o := ⟨some 42, _, _, _, _, _⟩) (di := some 42) (L := []) (f := Jo.Fact.eq (.pointer (some ⟨w4.heap.size, 0, none⟩))) rfl rfl rfl rfl (fun vs wj hJ hd K hK => ?_) ?_
    · clear hd
      simp only [Jo.putl, List.foldl_nil, Act.put, List.setIfInBounds_toArray, List.set_cons_zero, List.set_cons_succ] at hK ⊢
      go_simp
      exact hK.out _ _ rfl (Below.refl _ _)
    refine Jo.jcons (i := 4) (o := ⟨some 43, _, _, _, _, _⟩) (di := some 43) (L := [(some 42, 3)]) (f := Jo.Fact.eq (.pointer (some ⟨w4.heap.size, 1, none⟩))) rfl rfl rfl rfl (fun vs wj hJ hd K hK => ?_) ?_
    · have d3 : (Jo.Fact.eq (.pointer (some ⟨w4.heap.size, 0, none⟩))).P (vs 3) wj := hd 3 (by decide)
      clear hd
      simp only [Jo.putl, List.foldl_cons, List.foldl_nil, Act.put, List.setIfInBounds_toArray, List.set_cons_zero, List.set_cons_succ] at hK ⊢
      generalize vs 3 = u3 at hK d3 ⊢
      replace d3 : u3 = _ := d3
      subst d3
      go_simp
      exact hK.out _ _ rfl (Below.refl _ _)
    refine Jo.jcons (i := 5) (o := ⟨some 44, _, _, _, _, _⟩) (di := some 44) (L := [(some 43, 4)]) (f := Jo.Fact.eq (.slice A2 n2 c2)) rfl rfl rfl rfl (fun vs wj hJ hd K hK => ?_) ?_
    · have d4 : (Jo.Fact.eq (.pointer (some ⟨w4.heap.size, 1, none⟩))).P (vs 4) wj := hd 4 (by decide)
      clear hd
      simp only [Jo.putl, List.foldl_cons, List.foldl_nil, Act.put, List.setIfInBounds_toArray, List.set_cons_zero, List.set_cons_succ] at hK ⊢
      generalize vs 4 = u4 at hK d4 ⊢
      replace d4 : u4 = _ := d4
      subst d4
      have xX60 : World.cell? wj ⟨w4.heap.size, 0, none⟩ = some (.bool s2) := (X6.below hJ).cell 0
      have xX61 : World.cell? wj ⟨w4.heap.size, 1, none⟩ = some (.slice A2 n2 c2) := (X6.below hJ).cell 1
      have xX62 : World.cell? wj ⟨w4.heap.size, 2, none⟩ = some (.int .i64 E2) := (X6.below hJ).cell 2
      go_simp
      exact hK.out _ _ rfl (Below.refl _ _)
    refine Jo.jcons (i := 6) (o := ⟨some 45, _, _, _, _, _⟩) (di := some 45) (L := []) (f := Jo.Fact.eq (.pointer (some ⟨w4.heap.size, 2, none⟩))) rfl rfl rfl rfl (fun vs wj hJ hd K hK => ?_) ?_
    · clear hd
      simp only [Jo.putl, List.foldl_nil, Act.put, List.setIfInBounds_toArray, List.set_cons_zero, List.set_cons_succ] at hK ⊢
      go_simp
      exact hK.out _ _ rfl (Below.refl _ _)
    refine Jo.jcons (i := 7) (o := ⟨some 46, _, _, _, _, _⟩) (di := some 46) (L := [(some 45, 6)]) (f := Jo.Fact.eq (.int .i64 E2)) rfl rfl rfl rfl (fun vs wj hJ hd K hK => ?_) ?_
    · have d6 : (Jo.Fact.eq (.pointer (some ⟨w4.heap.size, 2, none⟩))).P (vs 6) wj := hd 6 (by decide)
      clear hd
      simp only [Jo.putl, List.foldl_cons, List.foldl_nil, Act.put, List.setIfInBounds_toArray, List.set_cons_zero, List.set_cons_succ] at hK ⊢
      generalize vs 6 = u6 at hK d6 ⊢
      replace d6 : u6 = _ := d6
      subst d6
      have xX60 : World.cell? wj ⟨w4.heap.size, 0, none⟩ = some (.bool s2) := (X6.below hJ).cell 0
      have xX61 : World.cell? wj ⟨w4.heap.size, 1, none⟩ = some (.slice A2 n2 c2) := (X6.below hJ).cell 1
      have xX62 : World.cell? wj ⟨w4.heap.size, 2, none⟩ = some (.int .i64 E2) := (X6.below hJ).cell 2
      go_simp
      exact hK.out _ _ rfl (Below.refl _ _)
    refine Jo.jcons (i := 8) (o := ⟨some 47, _, _, _, _, _⟩) (di := some 47) (L := []) (f := Jo.Fact.eq (.pointer (some ⟨w2.heap.size, 2, none⟩))) rfl rfl rfl rfl (fun vs wj hJ hd K hK => ?_) ?_
    · clear hd
      simp only [Jo.putl, List.foldl_nil, Act.put, List.setIfInBounds_toArray, List.set_cons_zero, List.set_cons_succ] at hK ⊢
      go_simp
      exact hK.out _ _ rfl (Below.refl _ _)
    refine Jo.jcons (i := 9) (o := ⟨some 48, _, _, _, _, _⟩) (di := some 48) (L := [(some 47, 8)]) (f := Jo.Fact.eq (.int .i64 E1)) rfl rfl rfl rfl (fun vs wj hJ hd K hK => ?_) ?_
    · have d8 : (Jo.Fact.eq (.pointer (some ⟨w2.heap.size, 2, none⟩))).P (vs 8) wj := hd 8 (by decide)
      clear hd
      simp only [Jo.putl, List.foldl_cons, List.foldl_nil, Act.put, List.setIfInBounds_toArray, List.set_cons_zero, List.set_cons_succ] at hK ⊢
      generalize vs 8 = u8 at hK d8 ⊢
      replace d8 : u8 = _ := d8
      subst d8
      have xX50 : World.cell? wj ⟨w2.heap.size, 0, none⟩ = some (.bool s1) := (X5.below hJ).cell 0
      have xX51 : World.cell? wj ⟨w2.heap.size, 1, none⟩ = some (.slice A1 n1 c1) := (X5.below hJ).cell 1
      have xX52 : World.cell? wj ⟨w2.heap.size, 2, none⟩ = some (.int .i64 E1) := (X5.below hJ).cell 2
      go_simp
      exact hK.out _ _ rfl (Below.refl _ _)
    refine Jo.jcons (i := 10) (o := ⟨some 49, _, _, _, _, _⟩) (di := some 49) (L := [(some 46, 7), (some 48, 9)]) (f := Jo.Fact.eq (.int .i64 δ)) rfl rfl rfl rfl (fun vs wj hJ hd K hK => ?_) ?_
    · have d7 : (Jo.Fact.eq (.int .i64 E2)).P (vs 7) wj := hd 7 (by decide)
      have d9 : (Jo.Fact.eq (.int .i64 E1)).P (vs 9) wj := hd 9 (by decide)
      clear hd
      simp only [Jo.putl, List.foldl_cons, List.foldl_nil, Act.put, List.setIfInBounds_toArray, List.set_cons_zero, List.set_cons_succ] at hK ⊢
      generalize vs 7 = u7 at hK d7 ⊢
      generalize vs 9 = u9 at hK d9 ⊢
      replace d7 : u7 = _ := d7
      subst d7
      replace d9 : u9 = _ := d9
      subst d9
      have hw := HW.out
      go_simp
      exact hK.out _ _ rfl (Below.refl _ _)
    refine Jo.jcons (i := 11) (o := ⟨some 50, _, _, _, _, _⟩) (di := some 50) (L := [(some 44, 5), (some 49, 10)]) (f := Jo.Fact.nm (N2.natAbs * 2 ^ δ.toNat) (n2 + δ.toNat / 32 + 1)) rfl rfl rfl rfl (fun vs wj hJ hd K hK => ?_) ?_
    · have d5 : (Jo.Fact.eq (.slice A2 n2 c2)).P (vs 5) wj := hd 5 (by decide)
      have d10 : (Jo.Fact.eq (.int .i64 δ)).P (vs 10) wj := hd 10 (by decide)
      clear hd
      simp only [Jo.putl, List.foldl_cons, List.foldl_nil, Act.put, List.setIfInBounds_toArray, List.set_cons_zero, List.set_cons_succ] at hK ⊢
      generalize vs 5 = u5 at hK d5 ⊢
      generalize vs 10 = u10 at hK d10 ⊢
      replace d5 : u5 = _ := d5
      subst d5
      replace d10 : u10 = _ := d10
      subst d10
      go_simp
      refine (rShlN (p2.below hJ).1.rd (by omega) hd0 (by omega) rfl).mono ?_
      rintro ee wk ⟨A7, n7, c7, rfl, p7, k7, B⟩
      exact hK.out _ _ ⟨A7, n7, c7, rfl, p7, k7⟩ B
    refine Jo.jcons (i := 12) (o := ⟨some 51, _, _, _, _, _⟩) (di := some 51) (L := [(some 41, 2), (some 50, 11)]) (f := Jo.Fact.wn (N2 * ((2 ^ δ.toNat : Nat) : Int)) (n2 + δ.toNat / 32 + 1)) rfl rfl rfl rfl (fun vs wj hJ hd K hK => ?_) ?_
    · have d2 : (Jo.Fact.eq (.bool s2)).P (vs 2) wj := hd 2 (by decide)
      have d11 : (Jo.Fact.nm (N2.natAbs * 2 ^ δ.toNat) (n2 + δ.toNat / 32 + 1)).P (vs 11) wj := hd 11 (by decide)
      clear hd
      simp only [Jo.putl, List.foldl_cons, List.foldl_nil, Act.put, List.setIfInBounds_toArray, List.set_cons_zero, List.set_cons_succ] at hK ⊢
      generalize vs 2 = u2 at hK d2 ⊢
      generalize vs 11 = u11 at hK d11 ⊢
      replace d2 : u2 = _ := d2
      subst d2
      obtain ⟨A7, n7, c7, rfl, p7, k7⟩ := d11
      go_simp
      refine (qMake s2 p7.rd).mono ?_
      rintro ee wk ⟨s8, A8, n8, c8, rfl, p8, k8, B⟩
      exact hK.out _ _ ⟨s8, A8, n8, c8, rfl, HC.out ▸ p8, Nat.le_trans k8 k7⟩ B
    refine Jo.jcons (i := 13) (o := ⟨some 8, _, _, _, _, _⟩) (di := some 8) (L := []) (f := Jo.Fact.bo w5.heap.size #[.bool false, .slice none 0 0] 24) rfl rfl rfl rfl (fun vs wj hJ hd K hK => ?_) ?_
    · clear hd
      simp only [Jo.putl, List.foldl_nil, Act.put, List.setIfInBounds_toArray, List.set_cons_zero, List.set_cons_succ] at hK ⊢
      go_simp
      exact hK.out _ _ ⟨_, rfl, hJ.size, Bo.new _ _ _⟩ (bel1 _ _)
    exact Jo.Steps.nil
  have d0 : (Jo.Fact.eq (.pointer (some ⟨w4.heap.size, 0, none⟩))).P (vs 0) w9 := hd 0 (by decide)
  have d1 : (Jo.Fact.eq (.pointer (some ⟨w4.heap.size, 0, none⟩))).P (vs 1) w9 := hd 1 (by decide)
  have d2 : (Jo.Fact.eq (.bool s2)).P (vs 2) w9 := hd 2 (by decide)
  have d3 : (Jo.Fact.eq (.pointer (some ⟨w4.heap.size, 0, none⟩))).P (vs 3) w9 := hd 3 (by decide)
  have d4 : (Jo.Fact.eq (.pointer (some ⟨w4.heap.size, 1, none⟩))).P (vs 4) w9 := hd 4 (by decide)
  have d5 : (Jo.Fact.eq (.slice A2 n2 c2)).P (vs 5) w9 := hd 5 (by decide)
  have d6 : (Jo.Fact.eq (.pointer (some ⟨w4.heap.size, 2, none⟩))).P (vs 6) w9 := hd 6 (by decide)
  have d7 : (Jo.Fact.eq (.int .i64 E2)).P (vs 7) w9 := hd 7 (by decide)
  have d8 : (Jo.Fact.eq (.pointer (some ⟨w2.heap.size, 2, none⟩))).P (vs 8) w9 := hd 8 (by decide)
  have d9 : (Jo.Fact.eq (.int .i64 E1)).P (vs 9) w9 := hd 9 (by decide)
  have d10 : (Jo.Fact.eq (.int .i64 δ)).P (vs 10) w9 := hd 10 (by decide)
  have d11 : (Jo.Fact.nm (N2.natAbs * 2 ^ δ.toNat) (n2 + δ.toNat / 32 + 1)).P (vs 11) w9 := hd 11 (by decide)
  have d12 : (Jo.Fact.wn (N2 * ((2 ^ δ.toNat : Nat) : Int)) (n2 + δ.toNat / 32 + 1)).P (vs 12) w9 := hd 12 (by decide)
  have d13 : (Jo.Fact.bo w5.heap.size #[.bool false, .slice none 0 0] 24).P (vs 13) w9 := hd 13 (by decide)
  clear hd
  simp only [Jo.putl, List.foldl_cons, List.foldl_nil, Act.put, List.setIfInBounds_toArray, List.set_cons_zero, List.set_cons_succ]
  generalize vs 0 = u0 at d0 ⊢
  generalize vs 1 = u1 at d1 ⊢
  generalize vs 2 = u2 at d2 ⊢
  generalize vs 3 = u3 at d3 ⊢
  generalize vs 4 = u4 at d4 ⊢
  generalize vs 5 = u5 at d5 ⊢
  generalize vs 6 = u6 at d6 ⊢
  generalize vs 7 = u7 at d7 ⊢
  generalize vs 8 = u8 at d8 ⊢
  generalize vs 9 = u9 at d9 ⊢
  generalize vs 10 = u10 at d10 ⊢
  generalize vs 11 = u11 at d11 ⊢
  generalize vs 12 = u12 at d12 ⊢
  generalize vs 13 = u13 at d13 ⊢
  clear vs
  replace d0 : u0 = _ := d0
  subst d0
  replace d1 : u1 = _ := d1
  subst d1
  replace d2 : u2 = _ := d2
  subst d2
  replace d3 : u3 = _ := d3
  subst d3
  replace d4 : u4 = _ := d4
  subst d4
  replace d5 : u5 = _ := d5
  subst d5
  replace d6 : u6 = _ := d6
  subst d6
  replace d7 : u7 = _ := d7
  subst d7
  replace d8 : u8 = _ := d8
  subst d8
  replace d9 : u9 = _ := d9
  subst d9
  replace d10 : u10 = _ := d10
  subst d10
  obtain ⟨A7, n7, c7, rfl, _, _⟩ := d11
  obtain ⟨s8, A8, n8, c8, rfl, p8, k8⟩ := d12
  obtain ⟨g8, rfl, hg8, X8⟩ := d13
  replace XR := XR.below hJ
  replace X5 := X5.below hJ
  replace X6 := X6.below hJ
  replace p1 := p1.below hJ
  replace p2 := p2.below hJ
  replace HB := Lib.hid (bt HB.out hJ)
  have xX80 := X8.at (i := 0) (v := .bool false) rfl
  have zX80 := X8.frozen 0
  have xX81 := X8.at (i := 1) (v := .slice none 0 0) rfl
  have zX81 := X8.frozen 1
  refine Jo.jnext (i := 14) (o := ⟨none, _, _, _, _, _⟩) (by kernel_rfl) rfl (fun K hK => ?_)
  go_simp
  refine hK.out _ _ ?_
  clear hK K xX80 zX80 xX81 zX81
  have SX := StN.mk2 X8 (.bool s8) (.slice A8 n8 c8)
  replace XR := XR.stn SX (by omega)
  replace X5 := X5.stn SX (by omega)
  replace X6 := X6.stn SX (by omega)
  replace p1 := p1.stn SX (by simp [no32])
  replace p2 := p2.stn SX (by simp [no32])
  replace p8 := p8.stn SX (by simp [no32])
  replace HB := Lib.hid (SX.below HB.out (by omega))
  replace X8 := SX.box
  clear SX
  generalize (World.setCell (World.setCell w9 ⟨g8, 0, none⟩ (.bool s8)) ⟨g8, 1, none⟩ (.slice A8 n8 c8)) = w10 at *
  refine Jo.jdone (by kernel_rfl) ?_
  go_upto_region 12 with (fail)
  refine Jo.region_joint (T := [0, 1, 2, 3, 4, 5, 6]) (ds := [some 52, some 53, some 54, some 55, some 56, some 57, some 58, none]) (ls := [[], [0], [], [1, 2], [], [4], [3, 5], []]) (k := 8) (L := [(some 52, 0), (some 53, 1), (some 54, 2), (some 55, 3), (some 56, 4), (some 57, 5), (some 58, 6)]) (fuel := 1) (J := fun wj => Below (World.heap w10).size w10 wj)
    (F := [Jo.Fact.eq (.pointer (some ⟨w2.heap.size, 0, none⟩)), Jo.Fact.eq (.agg #[.bool s1, .slice A1 n1 c1]), Jo.Fact.eq (.agg #[.bool s8, .slice A8 n8 c8]), Jo.Fact.wn (N1 + N2 * ((2 ^ δ.toNat : Nat) : Int)) (n + m + 20010), Jo.Fact.eq (.pointer (some ⟨w2.heap.size, 2, none⟩)), Jo.Fact.eq (.int .i64 E1), Jo.Fact.dy N E (n + m + 20010), Jo.Fact.any])
    (by kernel_rfl) (by kernel_rfl) (by decide) rfl rfl (fun _ _ h b => bt h b) ((Below.refl _ _).drew) ?_ (fun vs w11 hJ hd => ?_)
  · refine Jo.jcons (i := 0) (o := ⟨some 52, _, _, _, _, _⟩) (di := some 52) (L := []) (f := Jo.Fact.eq (.pointer (some ⟨w2.heap.size, 0, none⟩))) rfl rfl rfl rfl (fun vs wj hJ hd K hK => ?_) ?_
    · clear hd
      simp only [Jo.putl, List.foldl_nil, Act.put, List.setIfInBounds_toArray, List.set_cons_zero, List.set_cons_succ] at hK ⊢
      go_simp
      exact hK.out _ _ rfl (Below.refl _ _)
    refine Jo.jcons (i := 1) (o := ⟨some 53, _, _, _, _, _⟩) (di := some 53) (L := [(some 52, 0)]) (f := Jo.Fact.eq (.agg #[.bool s1, .slice A1 n1 c1])) rfl rfl rfl rfl (fun vs wj hJ hd K hK => ?_) ?_
    · have d0 : (Jo.Fact.eq (.pointer (some ⟨w2.heap.size, 0, none⟩))).P (vs 0) wj := hd 0 (by decide)
      clear hd
      simp only [Jo.putl, List.foldl_cons, List.foldl_nil, Act.put, List.setIfInBounds_toArray, List.set_cons_zero, List.set_cons_succ] at hK ⊢
      generalize vs 0 = u0 at hK d0 ⊢
      replace d0 : u0 = _ := d0
      subst d0
      have xX50 : World.cell? wj ⟨w2.heap.size, 0, none⟩ = some (.bool s1) := (X5.below hJ).cell 0
      have xX51 : World.cell? wj ⟨w2.heap.size, 1, none⟩ = some (.slice A1 n1 c1) := (X5.below hJ).cell 1
      have xX52 : World.cell? wj ⟨w2.heap.size, 2, none⟩ = some (.int .i64 E1) := (X5.below hJ).cell 2
      go_simp
      exact hK.out _ _ rfl (Below.refl _ _)
    refine Jo.jcons (i := 2) (o := ⟨some 54, _, _, _, _, _⟩) (di := some 54) (L := []) (f := Jo.Fact.eq (.agg #[.bool s8, .slice A8 n8 c8])) rfl rfl rfl rfl (fun vs wj hJ hd K hK => ?_) ?_
    · clear hd
      simp only [Jo.putl, List.foldl_nil, Act.put, List.setIfInBounds_toArray, List.set_cons_zero, List.set_cons_succ] at hK ⊢
      have xX80 : World.cell? wj ⟨g8, 0, none⟩ = some (.bool s8) := (X8.below hJ).cell 0
      have xX81 : World.cell? wj ⟨g8, 1, none⟩ = some (.slice A8 n8 c8) := (X8.below hJ).cell 1
      go_simp
      exact hK.out _ _ rfl (Below.refl _ _)
    refine Jo.jcons (i := 3) (o := ⟨some 55, _, _, _, _, _⟩) (di := some 55) (L := [(some 53, 1), (some 54, 2)]) (f := Jo.Fact.wn (N1 + N2 * ((2 ^ δ.toNat : Nat) : Int)) (n + m + 20010)) rfl rfl rfl rfl (fun vs wj hJ hd K hK => ?_) ?_
    · have d1 : (Jo.Fact.eq (.agg #[.bool s1, .slice A1 n1 c1])).P (vs 1) wj := hd 1 (by decide)
      have d2 : (Jo.Fact.eq (.agg #[.bool s8, .slice A8 n8 c8])).P (vs 2) wj := hd 2 (by decide)
      clear hd
      simp only [Jo.putl, List.foldl_cons, List.foldl_nil, Act.put, List.setIfInBounds_toArray, List.set_cons_zero, List.set_cons_succ] at hK ⊢
      generalize vs 1 = u1 at hK d1 ⊢
      generalize vs 2 = u2 at hK d2 ⊢
      replace d1 : u1 = _ := d1
      subst d1
      replace d2 : u2 = _ := d2
      subst d2
      go_simp
      refine (qAdd (p1.below hJ).wr (p8.below hJ).wr (by omega) (by omega) rfl).mono ?_
      rintro ee wk ⟨s3, A3, n3, c3, rfl, p3, k3, B⟩
      exact hK.out _ _ ⟨s3, A3, n3, c3, rfl, p3, by omega⟩ B
    refine Jo.jcons (i := 4) (o := ⟨some 56, _, _, _, _, _⟩) (di := some 56) (L := []) (f := Jo.Fact.eq (.pointer (some ⟨w2.heap.size, 2, none⟩))) rfl rfl rfl rfl (fun vs wj hJ hd K hK => ?_) ?_
    · clear hd
      simp only [Jo.putl, List.foldl_nil, Act.put, List.setIfInBounds_toArray, List.set_cons_zero, List.set_cons_succ] at hK ⊢
      go_simp
      exact hK.out _ _ rfl (Below.refl _ _)
    refine Jo.jcons (i := 5) (o := ⟨some 57, _, _, _, _, _⟩) (di := some 57) (L := [(some 56, 4)]) (f := Jo.Fact.eq (.int .i64 E1)) rfl rfl rfl rfl (fun vs wj hJ hd K hK => ?_) ?_
    · have d4 : (Jo.Fact.eq (.pointer (some ⟨w2.heap.size, 2, none⟩))).P (vs 4) wj := hd 4 (by decide)
      clear hd
      simp only [Jo.putl, List.foldl_cons, List.foldl_nil, Act.put, List.setIfInBounds_toArray, List.set_cons_zero, List.set_cons_succ] at hK ⊢
      generalize vs 4 = u4 at hK d4 ⊢
      replace d4 : u4 = _ := d4
      subst d4
      have xX50 : World.cell? wj ⟨w2.heap.size, 0, none⟩ = some (.bool s1) := (X5.below hJ).cell 0
      have xX51 : World.cell? wj ⟨w2.heap.size, 1, none⟩ = some (.slice A1 n1 c1) := (X5.below hJ).cell 1
      have xX52 : World.cell? wj ⟨w2.heap.size, 2, none⟩ = some (.int .i64 E1) := (X5.below hJ).cell 2
      go_simp
      exact hK.out _ _ rfl (Below.refl _ _)
    refine Jo.jcons (i := 6) (o := ⟨some 58, _, _, _, _, _⟩) (di := some 58) (L := [(some 55, 3), (some 57, 5)]) (f := Jo.Fact.dy N E (n + m + 20010)) rfl rfl rfl rfl (fun vs wj hJ hd K hK => ?_) ?_
    · have d3 : (Jo.Fact.wn (N1 + N2 * ((2 ^ δ.toNat : Nat) : Int)) (n + m + 20010)).P (vs 3) wj := hd 3 (by decide)
      have d5 : (Jo.Fact.eq (.int .i64 E1)).P (vs 5) wj := hd 5 (by decide)
      clear hd
      simp only [Jo.putl, List.foldl_cons, List.foldl_nil, Act.put, List.setIfInBounds_toArray, List.set_cons_zero, List.set_cons_succ] at hK ⊢
      generalize vs 3 = u3 at hK d3 ⊢
      generalize vs 5 = u5 at hK d5 ⊢
      obtain ⟨s3, A3, n3, c3, rfl, p3, k3⟩ := d3
      replace d5 : u5 = _ := d5
      subst d5
      go_simp
      refine (q3Make p3.wr (by omega) HN.out HE.out).mono ?_
      rintro ee wk ⟨s4, A4, n4, c4, rfl, p4, k4, B⟩
      exact hK.out _ _ ⟨s4, A4, n4, c4, rfl, p4, Nat.le_trans k4 k3⟩ B
    exact Jo.Steps.nil
  have d0 : (Jo.Fact.eq (.pointer (some ⟨w2.heap.size, 0, none⟩))).P (vs 0) w11 := hd 0 (by decide)
  have d1 : (Jo.Fact.eq (.agg #[.bool s1, .slice A1 n1 c1])).P (vs 1) w11 := hd 1 (by decide)
  have d2 : (Jo.Fact.eq (.agg #[.bool s8, .slice A8 n8 c8])).P (vs 2) w11 := hd 2 (by decide)
  have d3 : (Jo.Fact.wn (N1 + N2 * ((2 ^ δ.toNat : Nat) : Int)) (n + m + 20010)).P (vs 3) w11 := hd 3 (by decide)
  have d4 : (Jo.Fact.eq (.pointer (some ⟨w2.heap.size, 2, none⟩))).P (vs 4) w11 := hd 4 (by decide)
  have d5 : (Jo.Fact.eq (.int .i64 E1)).P (vs 5) w11 := hd 5 (by decide)
  have d6 : (Jo.Fact.dy N E (n + m + 20010)).P (vs 6) w11 := hd 6 (by decide)
  clear hd
  simp only [Jo.putl, List.foldl_cons, List.foldl_nil, Act.put, List.setIfInBounds_toArray, List.set_cons_zero, List.set_cons_succ]
  generalize vs 0 = u0 at d0 ⊢
  generalize vs 1 = u1 at d1 ⊢
  generalize vs 2 = u2 at d2 ⊢
  generalize vs 3 = u3 at d3 ⊢
  generalize vs 4 = u4 at d4 ⊢
  generalize vs 5 = u5 at d5 ⊢
  generalize vs 6 = u6 at d6 ⊢
  clear vs
  replace d0 : u0 = _ := d0
  subst d0
  replace d1 : u1 = _ := d1
  subst d1
  replace d2 : u2 = _ := d2
  subst d2
  obtain ⟨s3, A3, n3, c3, rfl, _, _⟩ := d3
  replace d4 : u4 = _ := d4
  subst d4
  replace d5 : u5 = _ := d5
  subst d5
  obtain ⟨s4, A4, n4, c4, rfl, p4, k4⟩ := d6
  replace XR := XR.below hJ
  replace X5 := X5.below hJ
  replace X6 := X6.below hJ
  replace X8 := X8.below hJ
  replace p1 := p1.below hJ
  replace p2 := p2.below hJ
  replace p8 := p8.below hJ
  replace HB := Lib.hid (bt HB.out hJ)
  have xXR0 := XR.at (i := 0) (v := .bool false) rfl
  have zXR0 := XR.frozen 0
  have xXR1 := XR.at (i := 1) (v := .slice none 0 0) rfl
  have zXR1 := XR.frozen 1
  have xXR2 := XR.at (i := 2) (v := .int .i64 0) rfl
  have zXR2 := XR.frozen 2
  refine Jo.jnext (i := 7) (o := ⟨none, _, _, _, _, _⟩) (by kernel_rfl) rfl (fun K hK => ?_)
  go_simp
  refine hK.out _ _ ?_
  clear hK K xXR0 zXR0 xXR1 zXR1 xXR2 zXR2
  have SX := StN.mk3 XR (.bool s4) (.slice A4 n4 c4) (.int .i64 E)
  replace p4 := p4.stn SX (by simp [no32])
  replace HB := Lib.hid (SX.below HB.out (by omega))
  replace XR := SX.box
  clear SX
  generalize (World.setCell (World.setCell (World.setCell w11 ⟨w.heap.size + 1 + 1, 0, none⟩ (.bool s4)) ⟨w.heap.size + 1 + 1, 1, none⟩ (.slice A4 n4 c4)) ⟨w.heap.size + 1 + 1, 2, none⟩ (.int .i64 E)) = w12 at *
  refine Jo.jdone (by kernel_rfl) ?_
  go_wp2
  have r0 := XR.cell 0
  have r1 := XR.cell 1
  have r2 := XR.cell 2
  exact bodyPost_ret (v := .agg #[.bool s4, .slice A4 n4 c4, .int .i64 E]) (by simp [results, Tryd.results50, go_sem, r0, r1, r2]) rfl ⟨s4, _, _, _, rfl, p4, k4, HB.out⟩

set_option maxHeartbeats 8000000 in
theorem q3sum_dn {w : World} {A B : Option Addr} {n c m d : Nat} {s t : Bool} {z e y f N1 E1 N2 E2 N E : Int} (h : Wr w s A n c z) (k : Wr w t B m d y) (hn : n ≤ 20000) (hm : m ≤ 20000)
    (HN1 : Hid ((mk z e).1 = N1)) (HE1 : Hid ((mk z e).2 = E1)) (HN2 : Hid ((mk y f).1 = N2)) (HE2 : Hid ((mk y f).2 = E2)) (h1 : N1 ≠ 0) (h2 : N2 ≠ 0) (hle : E2 < E1) (hfar : E1 - E2 ≤ 640000) (b1 : -4194304 ≤ E2) (b2 : E1 ≤ 4194304)
    (HN : Hid ((mk (N2 + N1 * ((2 ^ (E1 - E2).toNat : Nat) : Int)) E2).1 = N)) (HE : Hid ((mk (N2 + N1 * ((2 ^ (E1 - E2).toNat : Nat) : Int)) E2).2 = E)) :
    Calls Tryd.prog 50 #[.agg #[.bool s, .slice A n c, .int .i64 e], .agg #[.bool t, .slice B m d, .int .i64 f]] w (D1 w (n + m + 20010) N E) := by
  obtain ⟨δ, hδ⟩ : ∃ x, E1 - E2 = x := ⟨_, rfl⟩
  have HW : Hid (IntKind.i64.wrap (E1 - E2) = δ) := Lib.hid (by rw [hδ]; exact IntWalk.i64_in _ (by omega))
  have hd0 : 0 ≤ δ := by omega
  rw [hδ] at hfar HN HE
  have tle : decide (E2 < E1) = true := by simp; omega
  clear hδ
  go_enter Tryd.func50, Tryd.ntmps50
  go_upto_region 1 with (fail)
  have X1 := (Bo.newAt w (g := w.heap.size) (by simp) #[.bool s, .slice A n c, .int .i64 e] 27).below (bel2 _ (.cells #[.bool t, .slice B m d, .int .i64 f] 27) (.cells #[.bool false, .slice none 0 0, .int .i64 0] 27))
  have X2 := (Bo.newAt (w.alloc (.cells #[.bool s, .slice A n c, .int .i64 e] 27)) (g := w.heap.size + 1) (by simp) #[.bool t, .slice B m d, .int .i64 f] 27).below (bel1 _ (.cells #[.bool false, .slice none 0 0, .int .i64 0] 27))
  have XR := (Bo.newAt ((w.alloc (.cells #[.bool s, .slice A n c, .int .i64 e] 27)).alloc (.cells #[.bool t, .slice B m d, .int .i64 f] 27)) (g := w.heap.size + 1 + 1) (by simp) #[.bool false, .slice none 0 0, .int .i64 0] 27)
  have HB := Lib.hid (bel3 w (.cells #[.bool s, .slice A n c, .int .i64 e] 27) (.cells #[.bool t, .slice B m d, .int .i64 f] 27) (.cells #[.bool false, .slice none 0 0, .int .i64 0] 27))
  replace h := h.below HB.out
  replace k := k.below HB.out
  generalize hW1 : (((w.alloc (.cells #[.bool s, .slice A n c, .int .i64 e] 27)).alloc (.cells #[.bool t, .slice B m d, .int .i64 f] 27)).alloc (.cells #[.bool false, .slice none 0 0, .int .i64 0] 27)) = w1 at *
  clear hW1
  have xX10 := X1.at (i := 0) (v := .bool s) rfl
  have xX11 := X1.at (i := 1) (v := .slice A n c) rfl
  have xX12 := X1.at (i := 2) (v := .int .i64 e) rfl
  go_wp2_with fail
  refine (q3Make h (by omega) HN1.out HE1.out).mono ?_
  rintro ee w2 ⟨s1, A1, n1, c1, rfl, p1, k1, B⟩
  clear xX10 xX11 xX12
  replace X1 := X1.below B
  replace X2 := X2.below B
  replace XR := XR.below B
  replace h := h.below B
  replace k := k.below B
  replace HB := Lib.hid (bt HB.out B)
  clear B
  have xX20 := X2.at (i := 0) (v := .bool t) rfl
  have xX21 := X2.at (i := 1) (v := .slice B m d) rfl
  have xX22 := X2.at (i := 2) (v := .int .i64 f) rfl
  go_upto_region 2 with (fail)
  clear xX20 xX21 xX22
  have lX5 := Nat.le_refl (World.heap w2).size
  have nX5X2 := X2.lt
  have nX5XR := XR.lt
  replace X2 := X2.below (bel1 _ (.cells #[.bool s1, .slice A1 n1 c1, .int .i64 E1] 27))
  replace XR := XR.below (bel1 _ (.cells #[.bool s1, .slice A1 n1 c1, .int .i64 E1] 27))
  replace k := k.below (bel1 _ (.cells #[.bool s1, .slice A1 n1 c1, .int .i64 E1] 27))
  replace p1 := p1.below (bel1 _ (.cells #[.bool s1, .slice A1 n1 c1, .int .i64 E1] 27))
  replace HB := Lib.hid (bt HB.out (bel1 _ (.cells #[.bool s1, .slice A1 n1 c1, .int .i64 E1] 27)))
  have X5 := Bo.new w2 #[.bool s1, .slice A1 n1 c1, .int .i64 E1] 27
  generalize hWn : World.alloc w2 (.cells #[.bool s1, .slice A1 n1 c1, .int .i64 E1] 27) = w3 at *
  clear hWn
  have xX20 := X2.at (i := 0) (v := .bool t) rfl
  have xX21 := X2.at (i := 1) (v := .slice B m d) rfl
  have xX22 := X2.at (i := 2) (v := .int .i64 f) rfl
  go_wp2_with fail
  refine (q3Make k (by omega) HN2.out HE2.out).mono ?_
  rintro ee w4 ⟨s2, A2, n2, c2, rfl, p2, k2, B⟩
  clear xX20 xX21 xX22
  replace X2 := X2.below B
  replace XR := XR.below B
  replace X5 := X5.below B
  replace k := k.below B
  replace p1 := p1.below B
  replace HB := Lib.hid (bt HB.out B)
  clear B
  go_upto_region 3 with (fail)
  have lX6 := Nat.le_refl (World.heap w4).size
  have nX6XR := XR.lt
  have nX6X5 := X5.lt
  replace XR := XR.below (bel1 _ (.cells #[.bool s2, .slice A2 n2 c2, .int .i64 E2] 27))
  replace X5 := X5.below (bel1 _ (.cells #[.bool s2, .slice A2 n2 c2, .int .i64 E2] 27))
  replace p1 := p1.below (bel1 _ (.cells #[.bool s2, .slice A2 n2 c2, .int .i64 E2] 27))
  replace p2 := p2.below (bel1 _ (.cells #[.bool s2, .slice A2 n2 c2, .int .i64 E2] 27))
  replace HB := Lib.hid (bt HB.out (bel1 _ (.cells #[.bool s2, .slice A2 n2 c2, .int .i64 E2] 27)))
  have X6 := Bo.new w4 #[.bool s2, .slice A2 n2 c2, .int .i64 E2] 27
  generalize hWn : World.alloc w4 (.cells #[.bool s2, .slice A2 n2 c2, .int .i64 E2] 27) = w5 at *
  clear hWn
  clear lX6
  have hpa : 0 < n1 := by have := p1.1.pos; omega
  have qa : ((n1 : Int) == 0) = false := by have : (n1 : Int) ≠ 0 := by omega
                                            simpa using this
  have la := p1.1.rd.big
  have hpb : 0 < n2 := by have := p2.1.pos; omega
  have qb : ((n2 : Int) == 0) = false := by have : (n2 : Int) ≠ 0 := by omega
                                            simpa using this
  have lb := p2.1.rd.big
  clear h1 h2
  have xX50 := X5.at (i := 0) (v := .bool s1) rfl
  have xX51 := X5.at (i := 1) (v := .slice A1 n1 c1) rfl
  have xX52 := X5.at (i := 2) (v := .int .i64 E1) rfl
  have xX60 := X6.at (i := 0) (v := .bool s2) rfl
  have xX61 := X6.at (i := 1) (v := .slice A2 n2 c2) rfl
  have xX62 := X6.at (i := 2) (v := .int .i64 E2) rfl
  go_upto_region 9 with (fail)
  clear xX50 xX51 xX52 xX60 xX61 xX62
  have lX7 := Nat.le_refl (World.heap w5).size
  have nX7XR := XR.lt
  have nX7X5 := X5.lt
  have nX7X6 := X6.lt
  replace XR := XR.below (bel1 _ (.cells #[.bool s1, .slice A1 n1 c1, .int .i64 E1] 27))
  replace X5 := X5.below (bel1 _ (.cells #[.bool s1, .slice A1 n1 c1, .int .i64 E1] 27))
  replace X6 := X6.below (bel1 _ (.cells #[.bool s1, .slice A1 n1 c1, .int .i64 E1] 27))
  replace p1 := p1.below (bel1 _ (.cells #[.bool s1, .slice A1 n1 c1, .int .i64 E1] 27))
  replace p2 := p2.below (bel1 _ (.cells #[.bool s1, .slice A1 n1 c1, .int .i64 E1] 27))
  replace HB := Lib.hid (bt HB.out (bel1 _ (.cells #[.bool s1, .slice A1 n1 c1, .int .i64 E1] 27)))
  have X7 := Bo.new w5 #[.bool s1, .slice A1 n1 c1, .int .i64 E1] 27
  generalize hWn : World.alloc w5 (.cells #[.bool s1, .slice A1 n1 c1, .int .i64 E1] 27) = w6 at *
  clear hWn
  have xX60 := X6.at (i := 0) (v := .bool s2) rfl
  have xX61 := X6.at (i := 1) (v := .slice A2 n2 c2) rfl
  have xX62 := X6.at (i := 2) (v := .int .i64 E2) rfl
  have xX50 := X5.at (i := 0) (v := .bool s1) rfl
  have zX50 := X5.frozen 0
  have xX51 := X5.at (i := 1) (v := .slice A1 n1 c1) rfl
  have zX51 := X5.frozen 1
  have xX52 := X5.at (i := 2) (v := .int .i64 E1) rfl
  have zX52 := X5.frozen 2
  go_upto_region 10 with (fail)
  clear xX60 xX61 xX62 xX50 zX50 xX51 zX51 xX52 zX52
  have SX := StN.mk3 X5 (.bool s2) (.slice A2 n2 c2) (.int .i64 E2)
  replace XR := XR.stn SX (by omega)
  replace X6 := X6.stn SX (by omega)
  replace X7 := X7.stn SX (by omega)
  replace p1 := p1.stn SX (by simp [no32])
  replace p2 := p2.stn SX (by simp [no32])
  replace HB := Lib.hid (SX.below HB.out (by omega))
  replace X5 := SX.box
  clear SX
  generalize (World.setCell (World.setCell (World.setCell w6 ⟨w2.heap.size, 0, none⟩ (.bool s2)) ⟨w2.heap.size, 1, none⟩ (.slice A2 n2 c2)) ⟨w2.heap.size, 2, none⟩ (.int .i64 E2)) = w7 at *
  have xX70 := X7.at (i := 0) (v := .bool s1) rfl
  have xX71 := X7.at (i := 1) (v := .slice A1 n1 c1) rfl
  have xX72 := X7.at (i := 2) (v := .int .i64 E1) rfl
  have xX60 := X6.at (i := 0) (v := .bool s2) rfl
  have zX60 := X6.frozen 0
  have xX61 := X6.at (i := 1) (v := .slice A2 n2 c2) rfl
  have zX61 := X6.frozen 1
  have xX62 := X6.at (i := 2) (v := .int .i64 E2) rfl
  have zX62 := X6.frozen 2
  go_upto_region 11 with (fail)
  clear xX70 xX71 xX72 xX60 zX60 xX61 zX61 xX62 zX62
  have SX := StN.mk3 X6 (.bool s1) (.slice A1 n1 c1) (.int .i64 E1)
  replace XR := XR.stn SX (by omega)
  replace X5 := X5.stn SX (by omega)
  replace X7 := X7.stn SX (by omega)
  replace p1 := p1.stn SX (by simp [no32])
  replace p2 := p2.stn SX (by simp [no32])
  replace HB := Lib.hid (SX.below HB.out (by omega))
  replace X6 := SX.box
  clear SX
  generalize (World.setCell (World.setCell (World.setCell w7 ⟨w4.heap.size, 0, none⟩ (.bool s1)) ⟨w4.heap.size, 1, none⟩ (.slice A1 n1 c1)) ⟨w4.heap.size, 2, none⟩ (.int .i64 E1)) = w8 at *
  have HC := Lib.hid (sg_scale s1 N1 (2 ^ δ.toNat) p1.wr.eq)
  have lt5 := X5.lt
  have lt6 := X6.lt
  have ltR := XR.lt
  refine Jo.region_joint (T := [0, 1, 2, 3, 4, 5, 6, 7, 8, 9, 10, 11, 12, 13]) (ds := [some 39, some 40, some 41, some 42, some 43, some 44, some 45, some 46, some 47, some 48, some 49, some 50, some 51, some 8, none]) (ls := [[], [0], [1], [], [3], [4], [], [6], [], [8], [7, 9], [5, 10], [2, 11], [], []]) (k := 15) (L := [(some 39, 0), (some 40, 1), (some 41, 2), (some 42, 3), (some 43, 4), (some 44, 5), (some 45, 6), (some 46, 7), (some 47, 8), (some 48, 9), (some 49, 10), (some 50, 11), (some 51, 12), (some 8, 13)]) (fuel := 1) (J := fun wj => Below (World.heap w8).size w8 wj)
    (F := [Jo.Fact.eq (.pointer (some ⟨w4.heap.size, 0, none⟩)), Jo.Fact.eq (.pointer (some ⟨w4.heap.size, 0, none⟩)), Jo.Fact.eq (.bool s1), Jo.Fact.eq (.pointer (some ⟨w4.heap.size, 0, none⟩)), Jo.Fact.eq (.pointer (some ⟨w4.heap.size, 1, none⟩)), Jo.Fact.eq (.slice A1 n1 c1), Jo.Fact.eq (.pointer (some ⟨w4.heap.size, 2, none⟩)), Jo.Fact.eq (.int .i64 E1), Jo.Fact.eq (.pointer (some ⟨w2.heap.size, 2, none⟩)), Jo.Fact.eq (.int .i64 E2), Jo.Fact.eq (.int .i64 δ), Jo.Fact.nm (N1.natAbs * 2 ^ δ.toNat) (n1 + δ.toNat / 32 + 1), Jo.Fact.wn (N1 * ((2 ^ δ.toNat : Nat) : Int)) (n1 + δ.toNat / 32 + 1), Jo.Fact.bo w8.heap.size #[.bool false, .slice none 0 0] 24, Jo.Fact.any])
    (by kernel_rfl) (by kernel_rfl) (by decide) rfl rfl (fun _ _ h b => bt h b) ((Below.refl _ _).drew) ?_ (fun vs w9 hJ hd => ?_)
  · refine Jo.jcons (i := 0) (o := ⟨some 39, _, _, _, _, _⟩) (di := some 39) (L := []) (f := Jo.Fact.eq (.pointer (some ⟨w4.heap.size, 0, none⟩))) rfl rfl rfl rfl (fun vs wj hJ hd K hK => ?_) ?_
    · clear hd
      simp only [Jo.putl, List.foldl_nil, Act.put, List.setIfInBounds_toArray, List.set_cons_zero, List.set_cons_succ] at hK ⊢
      go_simp
      exact hK.out _ _ rfl (Below.refl _ _)
    refine Jo.jcons (i := 1) (o := ⟨some 40, _, _, _, _, _⟩) (di := some 40) (L := [(some 39, 0)]) (f := Jo.Fact.eq (.pointer (some ⟨w4.heap.size, 0, none⟩))) rfl rfl rfl rfl (fun vs wj hJ hd K hK => ?_) ?_
    · have d0 : (Jo.Fact.eq (.pointer (some ⟨w4.heap.size, 0, none⟩))).P (vs 0) wj := hd 0 (by decide)
      clear hd
      simp only [Jo.putl, List.foldl_cons, List.foldl_nil, Act.put, List.setIfInBounds_toArray, List.set_cons_zero, List.set_cons_succ] at hK ⊢
      generalize vs 0 = u0 at hK d0 ⊢
      replace d0 : u0 = _ := d0
      subst d0
      go_simp
      exact hK.out _ _ rfl (Below.refl _ _)
    refine Jo.jcons (i := 2) (o := ⟨some 41, _, _, _, _, _⟩) (di := some 41) (L := [(some 40, 1)]) (f := Jo.Fact.eq (.bool s1)) rfl rfl rfl rfl (fun vs wj hJ hd K hK => ?_) ?_
    · have d1 : (Jo.Fact.eq (.pointer (some ⟨w4.heap.size, 0, none⟩))).P (vs 1) wj := hd 1 (by decide)
      clear hd
      simp only [Jo.putl, List.foldl_cons, List.foldl_nil, Act.put, List.setIfInBounds_toArray, List.set_cons_zero, List.set_cons_succ] at hK ⊢
      generalize vs 1 = u1 at hK d1 ⊢
      replace d1 : u1 = _ := d1
      subst d1
      have xX60 : World.cell? wj ⟨w4.heap.size, 0, none⟩ = some (.bool s1) := (X6.below hJ).cell 0
      have xX61 : World.cell? wj ⟨w4.heap.size, 1, none⟩ = some (.slice A1 n1 c1) := (X6.below hJ).cell 1
      have xX62 : World.cell? wj ⟨w4.heap.size, 2, none⟩ = some (.int .i64 E1) := (X6.below hJ).cell 2
      go_simp
      exact hK.out _ _ rfl (Below.refl _ _)
    refine Jo.jcons (i := 3) (o := ⟨some 42, _, _, _, _, _⟩) (di := some 42) (L := []) (f := Jo.Fact.eq (.pointer (some ⟨w4.heap.size, 0, none⟩))) rfl rfl rfl rfl (fun vs wj hJ hd K hK => ?_) ?_
    · clear hd
      simp only [Jo.putl, List.foldl_nil, Act.put, List.setIfInBounds_toArray, List.set_cons_zero, List.set_cons_succ] at hK ⊢
      go_simp
      exact hK.out _ _ rfl (Below.refl _ _)
    refine Jo.jcons (i := 4) (o := ⟨some 43, _, _, _, _, _⟩) (di := some 43) (L := [(some 42, 3)]) (f := Jo.Fact.eq (.pointer (some ⟨w4.heap.size, 1, none⟩))) rfl rfl rfl rfl (fun vs wj hJ hd K hK => ?_) ?_
    · have d3 : (Jo.Fact.eq (.pointer (some ⟨w4.heap.size, 0, none⟩))).P (vs 3) wj := hd 3 (by decide)
      clear hd
      simp only [Jo.putl, List.foldl_cons, List.foldl_nil, Act.put, List.setIfInBounds_toArray, List.set_cons_zero, List.set_cons_succ] at hK ⊢
      generalize vs 3 = u3 at hK d3 ⊢
      replace d3 : u3 = _ := d3
      subst d3
      go_simp
      exact hK.out _ _ rfl (Below.refl _ _)
    refine Jo.jcons (i := 5) (o := ⟨some 44, _, _, _, _, _⟩) (di := some 44) (L := [(some 43, 4)]) (f := Jo.Fact.eq (.slice A1 n1 c1)) rfl rfl rfl rfl (fun vs wj hJ hd K hK => ?_) ?_
    · have d4 : (Jo.Fact.eq (.pointer (some ⟨w4.heap.size, 1, none⟩))).P (vs 4) wj := hd 4 (by decide)
      clear hd
      simp only [Jo.putl, List.foldl_cons, List.foldl_nil, Act.put, List.setIfInBounds_toArray, List.set_cons_zero, List.set_cons_succ] at hK ⊢
      generalize vs 4 = u4 at hK d4 ⊢
      replace d4 : u4 = _ := d4
      subst d4
      have xX60 : World.cell? wj ⟨w4.heap.size, 0, none⟩ = some (.bool s1) := (X6.below hJ).cell 0
      have xX61 : World.cell? wj ⟨w4.heap.size, 1, none⟩ = some (.slice A1 n1 c1) := (X6.below hJ).cell 1
      have xX62 : World.cell? wj ⟨w4.heap.size, 2, none⟩ = some (.int .i64 E1) := (X6.below hJ).cell 2
      go_simp
      exact hK.out _ _ rfl (Below.refl _ _)
    refine Jo.jcons (i := 6) (o := ⟨some 45, _, _, _, _, _⟩) (di := some 45) (L := []) (f := Jo.Fact.eq (.pointer (some ⟨w4.heap.size, 2, none⟩))) rfl rfl rfl rfl (fun vs wj hJ hd K hK => ?_) ?_
    · clear hd
      simp only [Jo.putl, List.foldl_nil, Act.put, List.setIfInBounds_toArray, List.set_cons_zero, List.set_cons_succ] at hK ⊢
      go_simp
      exact hK.out _ _ rfl (Below.refl _ _)
    refine Jo.jcons (i := 7) (o := ⟨some 46, _, _, _, _, _⟩) (di := some 46) (L := [(some 45, 6)]) (f := Jo.Fact.eq (.int .i64 E1)) rfl rfl rfl rfl (fun vs wj hJ hd K hK => ?_) ?_
    · have d6 : (Jo.Fact.eq (.pointer (some ⟨w4.heap.size, 2, none⟩))).P (vs 6) wj := hd 6 (by decide)
      clear hd
      simp only [Jo.putl, List.foldl_cons, List.foldl_nil, Act.put, List.setIfInBounds_toArray, List.set_cons_zero, List.set_cons_succ] at hK ⊢
      generalize vs 6 = u6 at hK d6 ⊢
      replace d6 : u6 = _ := d6
      subst d6
      have xX60 : World.cell? wj ⟨w4.heap.size, 0, none⟩ = some (.bool s1) := (X6.below hJ).cell 0
      have xX61 : World.cell? wj ⟨w4.heap.size, 1, none⟩ = some (.slice A1 n1 c1) := (X6.below hJ).cell 1
      have xX62 : World.cell? wj ⟨w4.heap.size, 2, none⟩ = some (.int .i64 E1) := (X6.below hJ).cell 2
      go_simp
      exact hK.out _ _ rfl (Below.refl _ _)
    refine Jo.jcons (i := 8) (o := ⟨some 47, _, _, _, _, _⟩) (di := some 47) (L := []) (f := Jo.Fact.eq (.pointer (some ⟨w2.heap.size, 2, none⟩))) rfl rfl rfl rfl (fun vs wj hJ hd K hK => ?_) ?_
    · clear hd
      simp only [Jo.putl, List.foldl_nil, Act.put, List.setIfInBounds_toArray, List.set_cons_zero, List.set_cons_succ] at hK ⊢
      go_simp
      exact hK.out _ _ rfl (Below.refl _ _)
    refine Jo.jcons (i := 9) (o := ⟨some 48, _, _, _, _, _⟩) (di := some 48) (L := [(some 47, 8)]) (f := Jo.Fact.eq (.int .i64 E2)) rfl rfl rfl rfl (fun vs wj hJ hd K hK => ?_) ?_
    · have d8 : (Jo.Fact.eq (.pointer (some ⟨w2.heap.size, 2, none⟩))).P (vs 8) wj := hd 8 (by decide)
      clear hd
      simp only [Jo.putl, List.foldl_cons, List.foldl_nil, Act.put, List.setIfInBounds_toArray, List.set_cons_zero, List.set_cons_succ] at hK ⊢
      generalize vs 8 = u8 at hK d8 ⊢
      replace d8 : u8 = _ := d8
      subst d8
      have xX50 : World.cell? wj ⟨w2.heap.size, 0, none⟩ = some (.bool s2) := (X5.below hJ).cell 0
      have xX51 : World.cell? wj ⟨w2.heap.size, 1, none⟩ = some (.slice A2 n2 c2) := (X5.below hJ).cell 1
      have xX52 : World.cell? wj ⟨w2.heap.size, 2, none⟩ = some (.int .i64 E2) := (X5.below hJ).cell 2
      go_simp
      exact hK.out _ _ rfl (Below.refl _ _)
    refine Jo.jcons (i := 10) (o := ⟨some 49, _, _, _, _, _⟩) (di := some 49) (L := [(some 46, 7), (some 48, 9)]) (f := Jo.Fact.eq (.int .i64 δ)) rfl rfl rfl rfl (fun vs wj hJ hd K hK => ?_) ?_
    · have d7 : (Jo.Fact.eq (.int .i64 E1)).P (vs 7) wj := hd 7 (by decide)
      have d9 : (Jo.Fact.eq (.int .i64 E2)).P (vs 9) wj := hd 9 (by decide)
      clear hd
      simp only [Jo.putl, List.foldl_cons, List.foldl_nil, Act.put, List.setIfInBounds_toArray, List.set_cons_zero, List.set_cons_succ] at hK ⊢
      generalize vs 7 = u7 at hK d7 ⊢
      generalize vs 9 = u9 at hK d9 ⊢
      replace d7 : u7 = _ := d7
      subst d7
      replace d9 : u9 = _ := d9
      subst d9
      have hw := HW.out
      go_simp
      exact hK.out _ _ rfl (Below.refl _ _)
    refine Jo.jcons (i := 11) (o := ⟨some 50, _, _, _, _, _⟩) (di := some 50) (L := [(some 44, 5), (some 49, 10)]) (f := Jo.Fact.nm (N1.natAbs * 2 ^ δ.toNat) (n1 + δ.toNat / 32 + 1)) rfl rfl rfl rfl (fun vs wj hJ hd K hK => ?_) ?_
    · have d5 : (Jo.Fact.eq (.slice A1 n1 c1)).P (vs 5) wj := hd 5 (by decide)
      have d10 : (Jo.Fact.eq (.int .i64 δ)).P (vs 10) wj := hd 10 (by decide)
      clear hd
      simp only [Jo.putl, List.foldl_cons, List.foldl_nil, Act.put, List.setIfInBounds_toArray, List.set_cons_zero, List.set_cons_succ] at hK ⊢
      generalize vs 5 = u5 at hK d5 ⊢
      generalize vs 10 = u10 at hK d10 ⊢
      replace d5 : u5 = _ := d5
      subst d5
      replace d10 : u10 = _ := d10
      subst d10
      go_simp
      refine (rShlN (p1.below hJ).1.rd (by omega) hd0 (by omega) rfl).mono ?_
      rintro ee wk ⟨A7, n7, c7, rfl, p7, k7, B⟩
      exact hK.out _ _ ⟨A7, n7, c7, rfl, p7, k7⟩ B
    refine Jo.jcons (i := 12) (o := ⟨some 51, _, _, _, _, _⟩) (di := some 51) (L := [(some 41, 2), (some 50, 11)]) (f := Jo.Fact.wn (N1 * ((2 ^ δ.toNat : Nat) : Int)) (n1 + δ.toNat / 32 + 1)) rfl rfl rfl rfl (fun vs wj hJ hd K hK => ?_) ?_
    · have d2 : (Jo.Fact.eq (.bool s1)).P (vs 2) wj := hd 2 (by decide)
      have d11 : (Jo.Fact.nm (N1.natAbs * 2 ^ δ.toNat) (n1 + δ.toNat / 32 + 1)).P (vs 11) wj := hd 11 (by decide)
      clear hd
      simp only [Jo.putl, List.foldl_cons, List.foldl_nil, Act.put, List.setIfInBounds_toArray, List.set_cons_zero, List.set_cons_succ] at hK ⊢
      generalize vs 2 = u2 at hK d2 ⊢
      generalize vs 11 = u11 at hK d11 ⊢
      replace d2 : u2 = _ := d2
      subst d2
      obtain ⟨A7, n7, c7, rfl, p7, k7⟩ := d11
      go_simp
      refine (qMake s1 p7.rd).mono ?_
      rintro ee wk ⟨s8, A8, n8, c8, rfl, p8, k8, B⟩
      exact hK.out _ _ ⟨s8, A8, n8, c8, rfl, HC.out ▸ p8, Nat.le_trans k8 k7⟩ B
    refine Jo.jcons (i := 13) (o := ⟨some 8, _, _, _, _, _⟩) (di := some 8) (L := []) (f := Jo.Fact.bo w8.heap.size #[.bool false, .slice none 0 0] 24) rfl rfl rfl rfl (fun vs wj hJ hd K hK => ?_) ?_
    · clear hd
      simp only [Jo.putl, List.foldl_nil, Act.put, List.setIfInBounds_toArray, List.set_cons_zero, List.set_cons_succ] at hK ⊢
      go_simp
      exact hK.out _ _ ⟨_, rfl, hJ.size, Bo.new _ _ _⟩ (bel1 _ _)
    exact Jo.Steps.nil
  have d0 : (Jo.Fact.eq (.pointer (some ⟨w4.heap.size, 0, none⟩))).P (vs 0) w9 := hd 0 (by decide)
  have d1 : (Jo.Fact.eq (.pointer (some ⟨w4.heap.size, 0, none⟩))).P (vs 1) w9 := hd 1 (by decide)
  have d2 : (Jo.Fact.eq (.bool s1)).P (vs 2) w9 := hd 2 (by decide)
  have d3 : (Jo.Fact.eq (.pointer (some ⟨w4.heap.size, 0, none⟩))).P (vs 3) w9 := hd 3 (by decide)
  have d4 : (Jo.Fact.eq (.pointer (some ⟨w4.heap.size, 1, none⟩))).P (vs 4) w9 := hd 4 (by decide)
  have d5 : (Jo.Fact.eq (.slice A1 n1 c1)).P (vs 5) w9 := hd 5 (by decide)
  have d6 : (Jo.Fact.eq (.pointer (some ⟨w4.heap.size, 2, none⟩))).P (vs 6) w9 := hd 6 (by decide)
  have d7 : (Jo.Fact.eq (.int .i64 E1)).P (vs 7) w9 := hd 7 (by decide)
  have d8 : (Jo.Fact.eq (.pointer (some ⟨w2.heap.size, 2, none⟩))).P (vs 8) w9 := hd 8 (by decide)
  have d9 : (Jo.Fact.eq (.int .i64 E2)).P (vs 9) w9 := hd 9 (by decide)
  have d10 : (Jo.Fact.eq (.int .i64 δ)).P (vs 10) w9 := hd 10 (by decide)
  have d11 : (Jo.Fact.nm (N1.natAbs * 2 ^ δ.toNat) (n1 + δ.toNat / 32 + 1)).P (vs 11) w9 := hd 11 (by decide)
  have d12 : (Jo.Fact.wn (N1 * ((2 ^ δ.toNat : Nat) : Int)) (n1 + δ.toNat / 32 + 1)).P (vs 12) w9 := hd 12 (by decide)
  have d13 : (Jo.Fact.bo w8.heap.size #[.bool false, .slice none 0 0] 24).P (vs 13) w9 := hd 13 (by decide)
  clear hd
  simp only [Jo.putl, List.foldl_cons, List.foldl_nil, Act.put, List.setIfInBounds_toArray, List.set_cons_zero, List.set_cons_succ]
  generalize vs 0 = u0 at d0 ⊢
  generalize vs 1 = u1 at d1 ⊢
  generalize vs 2 = u2 at d2 ⊢
  generalize vs 3 = u3 at d3 ⊢
  generalize vs 4 = u4 at d4 ⊢
  generalize vs 5 = u5 at d5 ⊢
  generalize vs 6 = u6 at d6 ⊢
  generalize vs 7 = u7 at d7 ⊢
  generalize vs 8 = u8 at d8 ⊢
  generalize vs 9 = u9 at d9 ⊢
  generalize vs 10 = u10 at d10 ⊢
  generalize vs 11 = u11 at d11 ⊢
  generalize vs 12 = u12 at d12 ⊢
  generalize vs 13 = u13 at d13 ⊢
  clear vs
  replace d0 : u0 = _ := d0
  subst d0
  replace d1 : u1 = _ := d1
  subst d1
  replace d2 : u2 = _ := d2
  subst d2
  replace d3 : u3 = _ := d3
  subst d3
  replace d4 : u4 = _ := d4
  subst d4
  replace d5 : u5 = _ := d5
  subst d5
  replace d6 : u6 = _ := d6
  subst d6
  replace d7 : u7 = _ := d7
  subst d7
  replace d8 : u8 = _ := d8
  subst d8
  replace d9 : u9 = _ := d9
  subst d9
  replace d10 : u10 = _ := d10
  subst d10
  obtain ⟨A7, n7, c7, rfl, _, _⟩ := d11
  obtain ⟨s8, A8, n8, c8, rfl, p8, k8⟩ := d12
  obtain ⟨g8, rfl, hg8, X8⟩ := d13
  replace XR := XR.below hJ
  replace X5 := X5.below hJ
  replace X6 := X6.below hJ
  replace p1 := p1.below hJ
  replace p2 := p2.below hJ
  replace HB := Lib.hid (bt HB.out hJ)
  have xX80 := X8.at (i := 0) (v := .bool false) rfl
  have zX80 := X8.frozen 0
  have xX81 := X8.at (i := 1) (v := .slice none 0 0) rfl
  have zX81 := X8.frozen 1
  refine Jo.jnext (i := 14) (o := ⟨none, _, _, _, _, _⟩) (by kernel_rfl) rfl (fun K hK => ?_)
  go_simp
  refine hK.out _ _ ?_
  clear hK K xX80 zX80 xX81 zX81
  have SX := StN.mk2 X8 (.bool s8) (.slice A8 n8 c8)
  replace XR := XR.stn SX (by omega)
  replace X5 := X5.stn SX (by omega)
  replace X6 := X6.stn SX (by omega)
  replace p1 := p1.stn SX (by simp [no32])
  replace p2 := p2.stn SX (by simp [no32])
  replace p8 := p8.stn SX (by simp [no32])
  replace HB := Lib.hid (SX.below HB.out (by omega))
  replace X8 := SX.box
  clear SX
  generalize (World.setCell (World.setCell w9 ⟨g8, 0, none⟩ (.bool s8)) ⟨g8, 1, none⟩ (.slice A8 n8 c8)) = w10 at *
  refine Jo.jdone (by kernel_rfl) ?_
  go_upto_region 12 with (fail)
  refine Jo.region_joint (T := [0, 1, 2, 3, 4, 5, 6]) (ds := [some 52, some 53, some 54, some 55, some 56, some 57, some 58, none]) (ls := [[], [0], [], [1, 2], [], [4], [3, 5], []]) (k := 8) (L := [(some 52, 0), (some 53, 1), (some 54, 2), (some 55, 3), (some 56, 4), (some 57, 5), (some 58, 6)]) (fuel := 1) (J := fun wj => Below (World.heap w10).size w10 wj)
    (F := [Jo.Fact.eq (.pointer (some ⟨w2.heap.size, 0, none⟩)), Jo.Fact.eq (.agg #[.bool s2, .slice A2 n2 c2]), Jo.Fact.eq (.agg #[.bool s8, .slice A8 n8 c8]), Jo.Fact.wn (N2 + N1 * ((2 ^ δ.toNat : Nat) : Int)) (n + m + 20010), Jo.Fact.eq (.pointer (some ⟨w2.heap.size, 2, none⟩)), Jo.Fact.eq (.int .i64 E2), Jo.Fact.dy N E (n + m + 20010), Jo.Fact.any])
    (by kernel_rfl) (by kernel_rfl) (by decide) rfl rfl (fun _ _ h b => bt h b) ((Below.refl _ _).drew) ?_ (fun vs w11 hJ hd => ?_)
  · refine Jo.jcons (i := 0) (o := ⟨some 52, _, _, _, _, _⟩) (di := some 52) (L := []) (f := Jo.Fact.eq (.pointer (some ⟨w2.heap.size, 0, none⟩))) rfl rfl rfl rfl (fun vs wj hJ hd K hK => ?_) ?_
    · clear hd
      simp only [Jo.putl, List.foldl_nil, Act.put, List.setIfInBounds_toArray, List.set_cons_zero, List.set_cons_succ] at hK ⊢
      go_simp
      exact hK.out _ _ rfl (Below.refl _ _)
    refine Jo.jcons (i := 1) (o := ⟨some 53, _, _, _, _, _⟩) (di := some 53) (L := [(some 52, 0)]) (f := Jo.Fact.eq (.agg #[.bool s2, .slice A2 n2 c2])) rfl rfl rfl rfl (fun vs wj hJ hd K hK => ?_) ?_
    · have d0 : (Jo.Fact.eq (.pointer (some ⟨w2.heap.size, 0, none⟩))).P (vs 0) wj := hd 0 (by decide)
      clear hd
      simp only [Jo.putl, List.foldl_cons, List.foldl_nil, Act.put, List.setIfInBounds_toArray, List.set_cons_zero, List.set_cons_succ] at hK ⊢
      generalize vs 0 = u0 at hK d0 ⊢
      replace d0 : u0 = _ := d0
      subst d0
      have xX50 : World.cell? wj ⟨w2.heap.size, 0, none⟩ = some (.bool s2) := (X5.below hJ).cell 0
      have xX51 : World.cell? wj ⟨w2.heap.size, 1, none⟩ = some (.slice A2 n2 c2) := (X5.below hJ).cell 1
      have xX52 : World.cell? wj ⟨w2.heap.size, 2, none⟩ = some (.int .i64 E2) := (X5.below hJ).cell 2
      go_simp
      exact hK.out _ _ rfl (Below.refl _ _)
    refine Jo.jcons (i := 2) (o := ⟨some 54, _, _, _, _, _⟩) (di := some 54) (L := []) (f := Jo.Fact.eq (.agg #[.bool s8, .slice A8 n8 c8])) rfl rfl rfl rfl (fun vs wj hJ hd K hK => ?_) ?_
    · clear hd
      simp only [Jo.putl, List.foldl_nil, Act.put, List.setIfInBounds_toArray, List.set_cons_zero, List.set_cons_succ] at hK ⊢
      have xX80 : World.cell? wj ⟨g8, 0, none⟩ = some (.bool s8) := (X8.below hJ).cell 0
      have xX81 : World.cell? wj ⟨g8, 1, none⟩ = some (.slice A8 n8 c8) := (X8.below hJ).cell 1
      go_simp
      exact hK.out _ _ rfl (Below.refl _ _)
    refine Jo.jcons (i := 3) (o := ⟨some 55, _, _, _, _, _⟩) (di := some 55) (L := [(some 53, 1), (some 54, 2)]) (f := Jo.Fact.wn (N2 + N1 * ((2 ^ δ.toNat : Nat) : Int)) (n + m + 20010)) rfl rfl rfl rfl (fun vs wj hJ hd K hK => ?_) ?_
    · have d1 : (Jo.Fact.eq (.agg #[.bool s2, .slice A2 n2 c2])).P (vs 1) wj := hd 1 (by decide)
      have d2 : (Jo.Fact.eq (.agg #[.bool s8, .slice A8 n8 c8])).P (vs 2) wj := hd 2 (by decide)
      clear hd
      simp only [Jo.putl, List.foldl_cons, List.foldl_nil, Act.put, List.setIfInBounds_toArray, List.set_cons_zero, List.set_cons_succ] at hK ⊢
      generalize vs 1 = u1 at hK d1 ⊢
      generalize vs 2 = u2 at hK d2 ⊢
      replace d1 : u1 = _ := d1
      subst d1
      replace d2 : u2 = _ := d2
      subst d2
      go_simp
      refine (qAdd (p2.below hJ).wr (p8.below hJ).wr (by omega) (by omega) rfl).mono ?_
      rintro ee wk ⟨s3, A3, n3, c3, rfl, p3, k3, B⟩
      exact hK.out _ _ ⟨s3, A3, n3, c3, rfl, p3, by omega⟩ B
    refine Jo.jcons (i := 4) (o := ⟨some 56, _, _, _, _, _⟩) (di := some 56) (L := []) (f := Jo.Fact.eq (.pointer (some ⟨w2.heap.size, 2, none⟩))) rfl rfl rfl rfl (fun vs wj hJ hd K hK => ?_) ?_
    · clear hd
      simp only [Jo.putl, List.foldl_nil, Act.put, List.setIfInBounds_toArray, List.set_cons_zero, List.set_cons_succ] at hK ⊢
      go_simp
      exact hK.out _ _ rfl (Below.refl _ _)
    refine Jo.jcons (i := 5) (o := ⟨some 57, _, _, _, _, _⟩) (di := some 57) (L := [(some 56, 4)]) (f := Jo.Fact.eq (.int .i64 E2)) rfl rfl rfl rfl (fun vs wj hJ hd K hK => ?_) ?_
    · have d4 : (Jo.Fact.eq (.pointer (some ⟨w2.heap.size, 2, none⟩))).P (vs 4) wj := hd 4 (by decide)
      clear hd
      simp only [Jo.putl, List.foldl_cons, List.foldl_nil, Act.put, List.setIfInBounds_toArray, List.set_cons_zero, List.set_cons_succ] at hK ⊢
      generalize vs 4 = u4 at hK d4 ⊢
      replace d4 : u4 = _ := d4
      subst d4
      have xX50 : World.cell? wj ⟨w2.heap.size, 0, none⟩ = some (.bool s2) := (X5.below hJ).cell 0
      have xX51 : World.cell? wj ⟨w2.heap.size, 1, none⟩ = some (.slice A2 n2 c2) := (X5.below hJ).cell 1
      have xX52 : World.cell? wj ⟨w2.heap.size, 2, none⟩ = some (.int .i64 E2) := (X5.below hJ).cell 2
      go_simp
      exact hK.out _ _ rfl (Below.refl _ _)
    refine Jo.jcons (i := 6) (o := ⟨some 58, _, _, _, _, _⟩) (di := some 58) (L := [(some 55, 3), (some 57, 5)]) (f := Jo.Fact.dy N E (n + m + 20010)) rfl rfl rfl rfl (fun vs wj hJ hd K hK => ?_) ?_
    · have d3 : (Jo.Fact.wn (N2 + N1 * ((2 ^ δ.toNat : Nat) : Int)) (n + m + 20010)).P (vs 3) wj := hd 3 (by decide)
      have d5 : (Jo.Fact.eq (.int .i64 E2)).P (vs 5) wj := hd 5 (by decide)
      clear hd
      simp only [Jo.putl, List.foldl_cons, List.foldl_nil, Act.put, List.setIfInBounds_toArray, List.set_cons_zero, List.set_cons_succ] at hK ⊢
      generalize vs 3 = u3 at hK d3 ⊢
      generalize vs 5 = u5 at hK d5 ⊢
      obtain ⟨s3, A3, n3, c3, rfl, p3, k3⟩ := d3
      replace d5 : u5 = _ := d5
      subst d5
      go_simp
      refine (q3Make p3.wr (by omega) HN.out HE.out).mono ?_
      rintro ee wk ⟨s4, A4, n4, c4, rfl, p4, k4, B⟩
      exact hK.out _ _ ⟨s4, A4, n4, c4, rfl, p4, Nat.le_trans k4 k3⟩ B
    exact Jo.Steps.nil
  have d0 : (Jo.Fact.eq (.pointer (some ⟨w2.heap.size, 0, none⟩))).P (vs 0) w11 := hd 0 (by decide)
  have d1 : (Jo.Fact.eq (.agg #[.bool s2, .slice A2 n2 c2])).P (vs 1) w11 := hd 1 (by decide)
  have d2 : (Jo.Fact.eq (.agg #[.bool s8, .slice A8 n8 c8])).P (vs 2) w11 := hd 2 (by decide)
  have d3 : (Jo.Fact.wn (N2 + N1 * ((2 ^ δ.toNat : Nat) : Int)) (n + m + 20010)).P (vs 3) w11 := hd 3 (by decide)
  have d4 : (Jo.Fact.eq (.pointer (some ⟨w2.heap.size, 2, none⟩))).P (vs 4) w11 := hd 4 (by decide)
  have d5 : (Jo.Fact.eq (.int .i64 E2)).P (vs 5) w11 := hd 5 (by decide)
  have d6 : (Jo.Fact.dy N E (n + m + 20010)).P (vs 6) w11 := hd 6 (by decide)
  clear hd
  simp only [Jo.putl, List.foldl_cons, List.foldl_nil, Act.put, List.setIfInBounds_toArray, List.set_cons_zero, List.set_cons_succ]
  generalize vs 0 = u0 at d0 ⊢
  generalize vs 1 = u1 at d1 ⊢
  generalize vs 2 = u2 at d2 ⊢
  generalize vs 3 = u3 at d3 ⊢
  generalize vs 4 = u4 at d4 ⊢
  generalize vs 5 = u5 at d5 ⊢
  generalize vs 6 = u6 at d6 ⊢
  clear vs
  replace d0 : u0 = _ := d0
  subst d0
  replace d1 : u1 = _ := d1
  subst d1
  replace d2 : u2 = _ := d2
  subst d2
  obtain ⟨s3, A3, n3, c3, rfl, _, _⟩ := d3
  replace d4 : u4 = _ := d4
  subst d4
  replace d5 : u5 = _ := d5
  subst d5
  obtain ⟨s4, A4, n4, c4, rfl, p4, k4⟩ := d6
  replace XR := XR.below hJ
  replace X5 := X5.below hJ
  replace X6 := X6.below hJ
  replace X8 := X8.below hJ
  replace p1 := p1.below hJ
  replace p2 := p2.below hJ
  replace p8 := p8.below hJ
  replace HB := Lib.hid (bt HB.out hJ)
  have xXR0 := XR.at (i := 0) (v := .bool false) rfl
  have zXR0 := XR.frozen 0
  have xXR1 := XR.at (i := 1) (v := .slice none 0 0) rfl
  have zXR1 := XR.frozen 1
  have xXR2 := XR.at (i := 2) (v := .int .i64 0) rfl
  have zXR2 := XR.frozen 2
  refine Jo.jnext (i := 7) (o := ⟨none, _, _, _, _, _⟩) (by kernel_rfl) rfl (fun K hK => ?_)
  go_simp
  refine hK.out _ _ ?_
  clear hK K xXR0 zXR0 xXR1 zXR1 xXR2 zXR2
  have SX := StN.mk3 XR (.bool s4) (.slice A4 n4 c4) (.int .i64 E)
  replace p4 := p4.stn SX (by simp [no32])
  replace HB := Lib.hid (SX.below HB.out (by omega))
  replace XR := SX.box
  clear SX
  generalize (World.setCell (World.setCell (World.setCell w11 ⟨w.heap.size + 1 + 1, 0, none⟩ (.bool s4)) ⟨w.heap.size + 1 + 1, 1, none⟩ (.slice A4 n4 c4)) ⟨w.heap.size + 1 + 1, 2, none⟩ (.int .i64 E)) = w12 at *
  refine Jo.jdone (by kernel_rfl) ?_
  go_wp2
  have r0 := XR.cell 0
  have r1 := XR.cell 1
  have r2 := XR.cell 2
  exact bodyPost_ret (v := .agg #[.bool s4, .slice A4 n4 c4, .int .i64 E]) (by simp [results, Tryd.results50, go_sem, r0, r1, r2]) rfl ⟨s4, _, _, _, rfl, p4, k4, HB.out⟩

theorem q3Two {w : World} {A B : Option Addr} {n c m d : Nat} {s t : Bool} {z e y f N E : Int} (h : Wr w s A n c z) (k : Wr w t B m d y) (hn : n ≤ 20000) (hm : m ≤ 20000) (hf : Near (mk z e) (mk y f))
    (hN : (pl (mk z e) (mk y f)).1 = N) (hE : (pl (mk z e) (mk y f)).2 = E) :
    Calls Tryd.prog 50 #[.agg #[.bool s, .slice A n c, .int .i64 e], .agg #[.bool t, .slice B m d, .int .i64 f]] w (D1 w (n + m + 20010) N E) := by
  have mono : ∀ K, K ≤ n + m + 20010 → ∀ N E e w', D1 w K N E e w' → D1 w (n + m + 20010) N E e w' := fun K hK N E e w' ⟨s, A, n, c, e1, p, q, b⟩ => ⟨s, A, n, c, e1, p, Nat.le_trans q hK, b⟩
  obtain ⟨b1, b2⟩ := mk_bd z e
  obtain ⟨b3, b4⟩ := mk_bd y f
  unfold pl at hN hE
  by_cases h1 : (mk z e).1 = 0
  · rw [if_pos h1] at hN hE
    subst hN; subst hE
    exact (q3two_l h k hn hm (Lib.hid rfl) (Lib.hid rfl) (Lib.hid rfl) (Lib.hid rfl) h1).mono (mono _ (by omega) _ _)
  · rw [if_neg h1] at hN hE
    by_cases h2 : (mk y f).1 = 0
    · rw [if_pos h2] at hN hE
      subst hN; subst hE
      exact (q3two_r h k hn hm (Lib.hid rfl) (Lib.hid rfl) (Lib.hid rfl) (Lib.hid rfl) h1 h2).mono (mono _ (by omega) _ _)
    · rw [if_neg h2] at hN hE
      obtain ⟨g1, g2⟩ := hf h1 h2
      by_cases hle : (mk z e).2 ≤ (mk y f).2
      · rw [Int.min_eq_left hle] at hN hE
        exact q3sum_up h k hn hm (Lib.hid rfl) (Lib.hid rfl) (Lib.hid rfl) (Lib.hid rfl) h1 h2 hle g2 b1 b4 (Lib.hid (by simpa using hN)) (Lib.hid (by simpa using hE))
      · rw [Int.min_eq_right (by omega), Int.add_comm] at hN hE
        exact q3sum_dn h k hn hm (Lib.hid rfl) (Lib.hid rfl) (Lib.hid rfl) (Lib.hid rfl) h1 h2 (by omega) g1 b3 b2 (Lib.hid (by simpa using hN)) (Lib.hid (by simpa using hE))
end Go.Proofs.YteoeoppkefcmdaaDoor

/-
  What pelorusref03.Add, Sub and Cmp do.
-/
namespace Go.Proofs.YteoeoppkefcmdaaDoor
open Go.RowKit
set_option linter.unusedVariables false

set_option maxRecDepth 20000 in
set_option maxHeartbeats 4000000 in
theorem q3Add {w : World} {A : Option Addr} {n c K : Nat} {l : List (Int × Int)} {N E : Int} (h : Dl w A n c K l) (hK : K ≤ 20000) (hC : Can l) (hN : (smd l).1 = N) (hE : (smd l).2 = E) :
    Calls Tryd.prog 21 #[.slice A n c] w (D1 w 20000 N E) := by
  have HN := Lib.hid hN
  have HE := Lib.hid hE
  have HC := Lib.hid hC
  have HLn := Lib.hid h.1
  have hcap := h.2.1
  have hbig := h.2.2.1
  have hD0 := h
  clear hN hE hC
  go_enter Tryd.func21, Tryd.ntmps21
  go_upto_region 1 with (fail)
  have XR := (Bo.newAt w (g := w.heap.size) (by simp) #[.bool false, .slice none 0 0, .int .i64 0] 27)
  have HB := Lib.hid (bel1 w (.cells #[.bool false, .slice none 0 0, .int .i64 0] 27))
  replace h := h.below HB.out
  generalize hW1 : (w.alloc (.cells #[.bool false, .slice none 0 0, .int .i64 0] 27)) = w1 at *
  clear hW1
  go_upto_region 2 with (fail)
  have hg3 := XR.lt
  have lX3 := Nat.le_refl (World.heap w1).size
  have nX3XR := XR.lt
  replace XR := XR.below (bel1 _ (.cells #[.bool false, .slice none 0 0, .int .i64 0] 27))
  replace h := h.below (bel1 _ (.cells #[.bool false, .slice none 0 0, .int .i64 0] 27))
  replace HB := Lib.hid (bt HB.out (bel1 _ (.cells #[.bool false, .slice none 0 0, .int .i64 0] 27)))
  have X3 := Bo.new w1 #[.bool false, .slice none 0 0, .int .i64 0] 27
  generalize hWn : World.alloc w1 (.cells #[.bool false, .slice none 0 0, .int .i64 0] 27) = w2 at *
  clear hWn
  go_wp2_with fail
  generalize w1.heap.size = g3 at *
  clear h w1
  go_loopw [4] (fun i wr => ∃ k : Nat, k ≤ n ∧ i = .int .i64 k ∧ DAddInv w g3 l k wr) (fun i _ => n - (intOf i).toNat)
  case atStart => exact ⟨0, Nat.zero_le _, rfl, false, none, 0, 0, XR, X3, Wn.zero, HB.out⟩
  case round =>
    obtain ⟨k, hk, rfl, hI⟩ := hrel
    obtain ⟨s, B, p, d, XR, X3, hw, hB⟩ := hI
    have HB := Lib.hid hB
    have h := hD0.below hB
    clear hB
    by_cases hlt : k < n
    · obtain ⟨b, o, rfl, hcell⟩ := h.2.2.2 (by omega)
      obtain ⟨t, D, q, e, c0, c1, c2, hv, hq⟩ := hcell k hlt
      clear hcell h hD0
      obtain ⟨l1, l2, l3⟩ := HC.out k (by rw [HLn.out]; exact hlt)
      have hp := hw.lm l1
      have HT := Lib.hid (smd_take (by rw [HLn.out]; exact hlt : k < l.length))
      have HF1 := Lib.hid (smd_nf (l.take k))
      generalize hS : smd (l.take (k + 1)) = S at *
      generalize smd (l.take k) = R at *
      generalize hP : l.getD k (0, 0) = P at *
      obtain ⟨N1, E1⟩ := R
      obtain ⟨z2, e2⟩ := P
      simp only at hv c2 X3 hw l1 l2
      have hT0 := HT.out
      simp only at hT0
      have hF1 : mk N1 E1 = (N1, E1) := HF1.out
      have HT := Lib.hid hT0
      have HL0 := Lib.hid l2
      have HL3 := Lib.hid l3
      have HS := Lib.hid hS
      have HT1 : Hid ((pl (mk N1 E1) (mk z2 e2)).1 = S.1) := Lib.hid (by rw [hF1, ← hT0])
      have HT2 : Hid ((pl (mk N1 E1) (mk z2 e2)).2 = S.2) := Lib.hid (by rw [hF1, ← hT0])
      clear l1 l2 l3 hS hP hT0
      have i1 : (k : Int) < n := by omega
      have i2 : (0 : Int) ≤ k := by omega
      have HL2 : Hid (Near (mk N1 E1) (mk z2 e2)) := Lib.hid (by rw [hF1]; exact HL0.out)
      clear hF1
      go_upto_region 5 with (fail)
      refine Jo.region_joint (T := [0, 1, 2, 3, 4, 5]) (ds := [some 12, some 13, some 14, some 15, some 16, some 17, none]) (ls := [[], [], [], [1, 2], [3], [0, 4], []]) (k := 7) (L := [(some 12, 0), (some 13, 1), (some 14, 2), (some 15, 3), (some 16, 4), (some 17, 5)]) (fuel := 1) (J := fun wj => Below (World.heap wr).size wr wj)
        (F := [Jo.Fact.eq (.agg #[.bool s, .slice B p d, .int .i64 E1]), Jo.Fact.eq (.slice (some ⟨b, o, none⟩) n c), Jo.Fact.eq (.int .i64 (k : Int)), Jo.Fact.eq (.pointer (some ⟨b, o + k * 3, none⟩)), Jo.Fact.eq (.agg #[.bool t, .slice D q e, .int .i64 e2]), Jo.Fact.dy S.1 S.2 20000, Jo.Fact.any])
        (by kernel_rfl) (by kernel_rfl) (by decide) rfl rfl (fun _ _ h b => bt h b) ((Below.refl _ _).drew) ?_ (fun vs w4 hJ hd => ?_)
      · refine Jo.jcons (i := 0) (o := ⟨some 12, _, _, _, _, _⟩) (di := some 12) (L := []) (f := Jo.Fact.eq (.agg #[.bool s, .slice B p d, .int .i64 E1])) rfl rfl rfl rfl (fun vs wj hJ hd K hK => ?_) ?_
        · clear hd
          simp only [Jo.putl, List.foldl_nil, Act.put, List.setIfInBounds_toArray, List.set_cons_zero, List.set_cons_succ] at hK ⊢
          have xX30 : World.cell? wj ⟨g3, 0, none⟩ = some (.bool s) := (X3.below hJ).cell 0
          have xX31 : World.cell? wj ⟨g3, 1, none⟩ = some (.slice B p d) := (X3.below hJ).cell 1
          have xX32 : World.cell? wj ⟨g3, 2, none⟩ = some (.int .i64 E1) := (X3.below hJ).cell 2
          go_simp
          exact hK.out _ _ rfl (Below.refl _ _)
        refine Jo.jcons (i := 1) (o := ⟨some 13, _, _, _, _, _⟩) (di := some 13) (L := []) (f := Jo.Fact.eq (.slice (some ⟨b, o, none⟩) n c)) rfl rfl rfl rfl (fun vs wj hJ hd K hK => ?_) ?_
        · clear hd
          simp only [Jo.putl, List.foldl_nil, Act.put, List.setIfInBounds_toArray, List.set_cons_zero, List.set_cons_succ] at hK ⊢
          go_simp
          exact hK.out _ _ rfl (Below.refl _ _)
        refine Jo.jcons (i := 2) (o := ⟨some 14, _, _, _, _, _⟩) (di := some 14) (L := []) (f := Jo.Fact.eq (.int .i64 (k : Int))) rfl rfl rfl rfl (fun vs wj hJ hd K hK => ?_) ?_
        · clear hd
          simp only [Jo.putl, List.foldl_nil, Act.put, List.setIfInBounds_toArray, List.set_cons_zero, List.set_cons_succ] at hK ⊢
          go_simp
          exact hK.out _ _ rfl (Below.refl _ _)
        refine Jo.jcons (i := 3) (o := ⟨some 15, _, _, _, _, _⟩) (di := some 15) (L := [(some 13, 1), (some 14, 2)]) (f := Jo.Fact.eq (.pointer (some ⟨b, o + k * 3, none⟩))) rfl rfl rfl rfl (fun vs wj hJ hd K hK => ?_) ?_
        · have d1 : (Jo.Fact.eq (.slice (some ⟨b, o, none⟩) n c)).P (vs 1) wj := hd 1 (by decide)
          have d2 : (Jo.Fact.eq (.int .i64 (k : Int))).P (vs 2) wj := hd 2 (by decide)
          clear hd
          simp only [Jo.putl, List.foldl_cons, List.foldl_nil, Act.put, List.setIfInBounds_toArray, List.set_cons_zero, List.set_cons_succ] at hK ⊢
          generalize vs 1 = u1 at hK d1 ⊢
          generalize vs 2 = u2 at hK d2 ⊢
          replace d1 : u1 = _ := d1
          subst d1
          replace d2 : u2 = _ := d2
          subst d2
          go_simp
          exact hK.out _ _ rfl (Below.refl _ _)
        refine Jo.jcons (i := 4) (o := ⟨some 16, _, _, _, _, _⟩) (di := some 16) (L := [(some 15, 3)]) (f := Jo.Fact.eq (.agg #[.bool t, .slice D q e, .int .i64 e2])) rfl rfl rfl rfl (fun vs wj hJ hd K hK => ?_) ?_
        · have d3 : (Jo.Fact.eq (.pointer (some ⟨b, o + k * 3, none⟩))).P (vs 3) wj := hd 3 (by decide)
          clear hd
          simp only [Jo.putl, List.foldl_cons, List.foldl_nil, Act.put, List.setIfInBounds_toArray, List.set_cons_zero, List.set_cons_succ] at hK ⊢
          generalize vs 3 = u3 at hK d3 ⊢
          replace d3 : u3 = _ := d3
          subst d3
          have y0 := (hJ.cell (p := ⟨b, _, none⟩) (block_lt_of_cell c0)).trans c0
          have y1 := (hJ.cell (p := ⟨b, _, none⟩) (block_lt_of_cell c1)).trans c1
          have y2 := (hJ.cell (p := ⟨b, _, none⟩) (block_lt_of_cell c2)).trans c2
          go_simp
          exact hK.out _ _ rfl (Below.refl _ _)
        refine Jo.jcons (i := 5) (o := ⟨some 17, _, _, _, _, _⟩) (di := some 17) (L := [(some 12, 0), (some 16, 4)]) (f := Jo.Fact.dy S.1 S.2 20000) rfl rfl rfl rfl (fun vs wj hJ hd K hK => ?_) ?_
        · have d0 : (Jo.Fact.eq (.agg #[.bool s, .slice B p d, .int .i64 E1])).P (vs 0) wj := hd 0 (by decide)
          have d4 : (Jo.Fact.eq (.agg #[.bool t, .slice D q e, .int .i64 e2])).P (vs 4) wj := hd 4 (by decide)
          clear hd
          simp only [Jo.putl, List.foldl_cons, List.foldl_nil, Act.put, List.setIfInBounds_toArray, List.set_cons_zero, List.set_cons_succ] at hK ⊢
          generalize vs 0 = u0 at hK d0 ⊢
          generalize vs 4 = u4 at hK d4 ⊢
          replace d0 : u0 = _ := d0
          subst d0
          replace d4 : u4 = _ := d4
          subst d4
          go_simp
          refine (q3Two (N := S.1) (E := S.2) (hw.below hJ).wr (hv.below hJ) hp (by omega) HL2.out HT1.out HT2.out).mono ?_
          rintro ee wk ⟨s4, A4, n4, c4, rfl, p4, k4, B⟩
          exact hK.out _ _ ⟨s4, A4, n4, c4, rfl, p4, p4.lm HL3.out⟩ B
        exact Jo.Steps.nil
      have d0 : (Jo.Fact.eq (.agg #[.bool s, .slice B p d, .int .i64 E1])).P (vs 0) w4 := hd 0 (by decide)
      have d1 : (Jo.Fact.eq (.slice (some ⟨b, o, none⟩) n c)).P (vs 1) w4 := hd 1 (by decide)
      have d2 : (Jo.Fact.eq (.int .i64 (k : Int))).P (vs 2) w4 := hd 2 (by decide)
      have d3 : (Jo.Fact.eq (.pointer (some ⟨b, o + k * 3, none⟩))).P (vs 3) w4 := hd 3 (by decide)
      have d4 : (Jo.Fact.eq (.agg #[.bool t, .slice D q e, .int .i64 e2])).P (vs 4) w4 := hd 4 (by decide)
      have d5 : (Jo.Fact.dy S.1 S.2 20000).P (vs 5) w4 := hd 5 (by decide)
      clear hd
      simp only [Jo.putl, List.foldl_cons, List.foldl_nil, Act.put, List.setIfInBounds_toArray, List.set_cons_zero, List.set_cons_succ]
      generalize vs 0 = u0 at d0 ⊢
      generalize vs 1 = u1 at d1 ⊢
      generalize vs 2 = u2 at d2 ⊢
      generalize vs 3 = u3 at d3 ⊢
      generalize vs 4 = u4 at d4 ⊢
      generalize vs 5 = u5 at d5 ⊢
      clear vs
      replace d0 : u0 = _ := d0
      subst d0
      replace d1 : u1 = _ := d1
      subst d1
      replace d2 : u2 = _ := d2
      subst d2
      replace d3 : u3 = _ := d3
      subst d3
      replace d4 : u4 = _ := d4
      subst d4
      obtain ⟨s4, A4, n4, c4, rfl, p4, k4⟩ := d5
      replace XR := XR.below hJ
      replace X3 := X3.below hJ
      replace hw := hw.below hJ
      replace hv := hv.below hJ
      replace HB := Lib.hid (bt HB.out hJ)
      have xX30 := X3.at (i := 0) (v := .bool s) rfl
      have zX30 := X3.frozen 0
      have xX31 := X3.at (i := 1) (v := .slice B p d) rfl
      have zX31 := X3.frozen 1
      have xX32 := X3.at (i := 2) (v := .int .i64 E1) rfl
      have zX32 := X3.frozen 2
      refine Jo.jnext (i := 6) (o := ⟨none, _, _, _, _, _⟩) (by kernel_rfl) rfl (fun K hK => ?_)
      go_simp
      refine hK.out _ _ ?_
      clear hK K xX30 zX30 xX31 zX31 xX32 zX32
      have SX := StN.mk3 X3 (.bool s4) (.slice A4 n4 c4) (.int .i64 S.2)
      replace XR := XR.stn SX (by omega)
      replace p4 := p4.stn SX (by simp [no32])
      replace HB := Lib.hid (SX.below HB.out (by omega))
      replace X3 := SX.box
      clear SX
      generalize (World.setCell (World.setCell (World.setCell w4 ⟨g3, 0, none⟩ (.bool s4)) ⟨g3, 1, none⟩ (.slice A4 n4 c4)) ⟨g3, 2, none⟩ (.int .i64 S.2)) = w5 at *
      refine Jo.jdone (by kernel_rfl) ?_
      go_wp2
      go_roundw
      case rel =>
        refine ⟨k + 1, by omega, by go_num, s4, A4, n4, c4, XR, ?_, ?_, HB.out⟩
        · rw [HS.out]; exact X3
        · rw [HS.out]; exact p4
      case measure => simp [intOf]; omega
    · obtain rfl : k = n := by omega
      have HR : Hid (smd (l.take k) = smd l) := Lib.hid (by rw [List.take_of_length_le (by rw [HLn.out]; omega)])
      have HL : Hid (Lm (smd l).1 ∨ k = 0) := Lib.hid (by
        rcases Nat.eq_zero_or_pos k with e | e
        · exact .inr e
        · have := (HC.out (k - 1) (by rw [HLn.out]; omega)).2.2
          rw [show k - 1 + 1 = k by omega, List.take_of_length_le (by rw [HLn.out]; omega)] at this
          exact .inl this)
      rw [HR.out, HN.out] at hw
      rw [HR.out, HE.out] at X3
      have hp : p ≤ 20000 := by
        rcases HL.out with e | e
        · rw [HN.out] at e; exact hw.lm e
        · have e0 := HR.out
          rw [e] at e0
          have : N = 0 := by rw [← HN.out, ← e0]; rfl
          rw [this] at hw
          have := hw.1.pos
          simp at this
          omega
      have xX30 := X3.at (i := 0) (v := .bool s) rfl
      have xX31 := X3.at (i := 1) (v := .slice B p d) rfl
      have xX32 := X3.at (i := 2) (v := .int .i64 E) rfl
      have zXR0 := XR.frozen 0
      have zXR1 := XR.frozen 1
      have zXR2 := XR.frozen 2
      have y0 := XR.cell 0
      have y1 := XR.cell 1
      have y2 := XR.cell 2
      go_wp2
      clear xX30 xX31 xX32
      clear zXR0 zXR1 zXR2 y0 y1 y2
      have SX := StN.mk3 XR (.bool s) (.slice B p d) (.int .i64 E)
      replace X3 := X3.stn SX (by omega)
      replace hw := hw.stn SX (by simp [no32])
      replace HB := Lib.hid (SX.below HB.out (by omega))
      replace XR := SX.box
      clear SX
      generalize (World.setCell (World.setCell (World.setCell wr ⟨w.heap.size, 0, none⟩ (.bool s)) ⟨w.heap.size, 1, none⟩ (.slice B p d)) ⟨w.heap.size, 2, none⟩ (.int .i64 E)) = w5 at *
      have r0 := XR.cell 0
      have r1 := XR.cell 1
      have r2 := XR.cell 2
      exact bodyPost_ret (v := .agg #[.bool s, .slice B p d, .int .i64 E]) (by simp [results, Tryd.results21, go_sem, r0, r1, r2]) rfl ⟨s, B, p, d, rfl, hw, hp, HB.out⟩

set_option maxHeartbeats 4000000 in
theorem q3Sub {w : World} {A B : Option Addr} {n c m d : Nat} {s t : Bool} {z e y f N E : Int} (h : Wr w s A n c z) (k : Wr w t B m d y) (hn : n ≤ 20000) (hm : m ≤ 20000) (hf : Near (mk z e) (ng (mk y f)))
    (hN : (pl (mk z e) (ng (mk y f))).1 = N) (hE : (pl (mk z e) (ng (mk y f))).2 = E) :
    Calls Tryd.prog 23 #[.agg #[.bool s, .slice A n c, .int .i64 e], .agg #[.bool t, .slice B m d, .int .i64 f]] w (D1 w (n + m + 20010) N E) := by
  have hnn : mk (ng (mk y f)).1 (ng (mk y f)).2 = ng (mk y f) := ng_nf (mk_nf y f)
  have h1 : (mk (-y) f).1 = (ng (mk y f)).1 := by rw [mk_neg]; rfl
  have h2 : (mk (-y) f).2 = (ng (mk y f)).2 := by rw [mk_neg]; rfl
  rw [← hnn] at hN hE hf
  have HN := Lib.hid hN
  have HE := Lib.hid hE
  have HF := Lib.hid hf
  have HQ1 := Lib.hid h1
  have HQ2 := Lib.hid h2
  clear hN hE hf h1 h2 hnn
  generalize ng (mk y f) = Q at *
  obtain ⟨N2, E2⟩ := Q
  go_enter Tryd.func23, Tryd.ntmps23
  go_upto_region 1 with (fail)
  have X1 := (Bo.newAt w (g := w.heap.size) (by simp) #[.bool s, .slice A n c, .int .i64 e] 27).below (bel2 _ (.cells #[.bool t, .slice B m d, .int .i64 f] 27) (.cells #[.bool false, .slice none 0 0, .int .i64 0] 27))
  have X2 := (Bo.newAt (w.alloc (.cells #[.bool s, .slice A n c, .int .i64 e] 27)) (g := w.heap.size + 1) (by simp) #[.bool t, .slice B m d, .int .i64 f] 27).below (bel1 _ (.cells #[.bool false, .slice none 0 0, .int .i64 0] 27))
  have XR := (Bo.newAt ((w.alloc (.cells #[.bool s, .slice A n c, .int .i64 e] 27)).alloc (.cells #[.bool t, .slice B m d, .int .i64 f] 27)) (g := w.heap.size + 1 + 1) (by simp) #[.bool false, .slice none 0 0, .int .i64 0] 27)
  have HB := Lib.hid (bel3 w (.cells #[.bool s, .slice A n c, .int .i64 e] 27) (.cells #[.bool t, .slice B m d, .int .i64 f] 27) (.cells #[.bool false, .slice none 0 0, .int .i64 0] 27))
  replace h := h.below HB.out
  replace k := k.below HB.out
  generalize hW1 : (((w.alloc (.cells #[.bool s, .slice A n c, .int .i64 e] 27)).alloc (.cells #[.bool t, .slice B m d, .int .i64 f] 27)).alloc (.cells #[.bool false, .slice none 0 0, .int .i64 0] 27)) = w1 at *
  clear hW1
  refine Jo.region_joint (T := [0, 1, 2, 3]) (ds := [some 5, some 6, some 7, some 8, none]) (ls := [[], [], [1], [0, 2], []]) (k := 5) (L := [(some 5, 0), (some 6, 1), (some 7, 2), (some 8, 3)]) (fuel := 1) (J := fun wj => Below (World.heap w1).size w1 wj)
    (F := [Jo.Fact.eq (.agg #[.bool s, .slice A n c, .int .i64 e]), Jo.Fact.eq (.agg #[.bool t, .slice B m d, .int .i64 f]), Jo.Fact.dy N2 E2 m, Jo.Fact.dy N E (n + m + 20010), Jo.Fact.any])
    (by kernel_rfl) (by kernel_rfl) (by decide) rfl rfl (fun _ _ h b => bt h b) ((Below.refl _ _).drew) ?_ (fun vs w2 hJ hd => ?_)
  · refine Jo.jcons (i := 0) (o := ⟨some 5, _, _, _, _, _⟩) (di := some 5) (L := []) (f := Jo.Fact.eq (.agg #[.bool s, .slice A n c, .int .i64 e])) rfl rfl rfl rfl (fun vs wj hJ hd K hK => ?_) ?_
    · clear hd
      simp only [Jo.putl, List.foldl_nil, Act.put, List.setIfInBounds_toArray, List.set_cons_zero, List.set_cons_succ] at hK ⊢
      have xX10 : World.cell? wj ⟨w.heap.size, 0, none⟩ = some (.bool s) := (X1.below hJ).cell 0
      have xX11 : World.cell? wj ⟨w.heap.size, 1, none⟩ = some (.slice A n c) := (X1.below hJ).cell 1
      have xX12 : World.cell? wj ⟨w.heap.size, 2, none⟩ = some (.int .i64 e) := (X1.below hJ).cell 2
      go_simp
      exact hK.out _ _ rfl (Below.refl _ _)
    refine Jo.jcons (i := 1) (o := ⟨some 6, _, _, _, _, _⟩) (di := some 6) (L := []) (f := Jo.Fact.eq (.agg #[.bool t, .slice B m d, .int .i64 f])) rfl rfl rfl rfl (fun vs wj hJ hd K hK => ?_) ?_
    · clear hd
      simp only [Jo.putl, List.foldl_nil, Act.put, List.setIfInBounds_toArray, List.set_cons_zero, List.set_cons_succ] at hK ⊢
      have xX20 : World.cell? wj ⟨w.heap.size + 1, 0, none⟩ = some (.bool t) := (X2.below hJ).cell 0
      have xX21 : World.cell? wj ⟨w.heap.size + 1, 1, none⟩ = some (.slice B m d) := (X2.below hJ).cell 1
      have xX22 : World.cell? wj ⟨w.heap.size + 1, 2, none⟩ = some (.int .i64 f) := (X2.below hJ).cell 2
      go_simp
      exact hK.out _ _ rfl (Below.refl _ _)
    refine Jo.jcons (i := 2) (o := ⟨some 7, _, _, _, _, _⟩) (di := some 7) (L := [(some 6, 1)]) (f := Jo.Fact.dy N2 E2 m) rfl rfl rfl rfl (fun vs wj hJ hd K hK => ?_) ?_
    · have d1 : (Jo.Fact.eq (.agg #[.bool t, .slice B m d, .int .i64 f])).P (vs 1) wj := hd 1 (by decide)
      clear hd
      simp only [Jo.putl, List.foldl_cons, List.foldl_nil, Act.put, List.setIfInBounds_toArray, List.set_cons_zero, List.set_cons_succ] at hK ⊢
      generalize vs 1 = u1 at hK d1 ⊢
      replace d1 : u1 = _ := d1
      subst d1
      go_simp
      refine (q3Neg (k.below hJ) (by omega) HQ1.out HQ2.out).mono ?_
      rintro ee wk ⟨s2, A2, n2, c2, rfl, p2, k2, B⟩
      exact hK.out _ _ ⟨s2, A2, n2, c2, rfl, p2, k2⟩ B
    refine Jo.jcons (i := 3) (o := ⟨some 8, _, _, _, _, _⟩) (di := some 8) (L := [(some 5, 0), (some 7, 2)]) (f := Jo.Fact.dy N E (n + m + 20010)) rfl rfl rfl rfl (fun vs wj hJ hd K hK => ?_) ?_
    · have d0 : (Jo.Fact.eq (.agg #[.bool s, .slice A n c, .int .i64 e])).P (vs 0) wj := hd 0 (by decide)
      have d2 : (Jo.Fact.dy N2 E2 m).P (vs 2) wj := hd 2 (by decide)
      clear hd
      simp only [Jo.putl, List.foldl_cons, List.foldl_nil, Act.put, List.setIfInBounds_toArray, List.set_cons_zero, List.set_cons_succ] at hK ⊢
      generalize vs 0 = u0 at hK d0 ⊢
      generalize vs 2 = u2 at hK d2 ⊢
      replace d0 : u0 = _ := d0
      subst d0
      obtain ⟨s2, A2, n2, c2, rfl, p2, k2⟩ := d2
      go_simp
      refine (q3Two (h.below hJ) p2.wr hn (by omega) HF.out HN.out HE.out).mono ?_
      rintro ee wk ⟨s4, A4, n4, c4, rfl, p4, k4, B⟩
      exact hK.out _ _ ⟨s4, A4, n4, c4, rfl, p4, by omega⟩ B
    exact Jo.Steps.nil
  have d0 : (Jo.Fact.eq (.agg #[.bool s, .slice A n c, .int .i64 e])).P (vs 0) w2 := hd 0 (by decide)
  have d1 : (Jo.Fact.eq (.agg #[.bool t, .slice B m d, .int .i64 f])).P (vs 1) w2 := hd 1 (by decide)
  have d2 : (Jo.Fact.dy N2 E2 m).P (vs 2) w2 := hd 2 (by decide)
  have d3 : (Jo.Fact.dy N E (n + m + 20010)).P (vs 3) w2 := hd 3 (by decide)
  clear hd
  simp only [Jo.putl, List.foldl_cons, List.foldl_nil, Act.put, List.setIfInBounds_toArray, List.set_cons_zero, List.set_cons_succ]
  generalize vs 0 = u0 at d0 ⊢
  generalize vs 1 = u1 at d1 ⊢
  generalize vs 2 = u2 at d2 ⊢
  generalize vs 3 = u3 at d3 ⊢
  clear vs
  replace d0 : u0 = _ := d0
  subst d0
  replace d1 : u1 = _ := d1
  subst d1
  obtain ⟨s2, A2, n2, c2, rfl, _, _⟩ := d2
  obtain ⟨s4, A4, n4, c4, rfl, p4, k4⟩ := d3
  replace X1 := X1.below hJ
  replace X2 := X2.below hJ
  replace XR := XR.below hJ
  replace h := h.below hJ
  replace k := k.below hJ
  replace HB := Lib.hid (bt HB.out hJ)
  have xXR0 := XR.at (i := 0) (v := .bool false) rfl
  have zXR0 := XR.frozen 0
  have xXR1 := XR.at (i := 1) (v := .slice none 0 0) rfl
  have zXR1 := XR.frozen 1
  have xXR2 := XR.at (i := 2) (v := .int .i64 0) rfl
  have zXR2 := XR.frozen 2
  refine Jo.jnext (i := 4) (o := ⟨none, _, _, _, _, _⟩) (by kernel_rfl) rfl (fun K hK => ?_)
  go_simp
  refine hK.out _ _ ?_
  clear hK K xXR0 zXR0 xXR1 zXR1 xXR2 zXR2
  have SX := StN.mk3 XR (.bool s4) (.slice A4 n4 c4) (.int .i64 E)
  replace X1 := X1.stn SX (by omega)
  replace X2 := X2.stn SX (by omega)
  replace p4 := p4.stn SX (by simp [no32])
  replace HB := Lib.hid (SX.below HB.out (by omega))
  replace XR := SX.box
  clear SX
  generalize (World.setCell (World.setCell (World.setCell w2 ⟨w.heap.size + 1 + 1, 0, none⟩ (.bool s4)) ⟨w.heap.size + 1 + 1, 1, none⟩ (.slice A4 n4 c4)) ⟨w.heap.size + 1 + 1, 2, none⟩ (.int .i64 E)) = w3 at *
  refine Jo.jdone (by kernel_rfl) ?_
  go_wp2
  have r0 := XR.cell 0
  have r1 := XR.cell 1
  have r2 := XR.cell 2
  exact bodyPost_ret (v := .agg #[.bool s4, .slice A4 n4 c4, .int .i64 E]) (by simp [results, Tryd.results23, go_sem, r0, r1, r2]) rfl ⟨s4, A4, n4, c4, rfl, p4, k4, HB.out⟩

set_option maxHeartbeats 4000000 in
theorem q3Cmp {w : World} {A B : Option Addr} {n c m d : Nat} {s t : Bool} {z e y f r : Int} (h : Wr w s A n c z) (k : Wr w t B m d y) (hn : n ≤ 20000) (hm : m ≤ 20000) (hf : Near (mk z e) (ng (mk y f)))
    (hr : cmpI (pl (mk z e) (ng (mk y f))).1 0 = r) :
    Calls Tryd.prog 32 #[.agg #[.bool s, .slice A n c, .int .i64 e], .agg #[.bool t, .slice B m d, .int .i64 f]] w (PI w r) := by
  obtain ⟨S, hS⟩ : ∃ S, pl (mk z e) (ng (mk y f)) = S := ⟨_, rfl⟩
  rw [hS] at hr
  have HS1 := Lib.hid (congrArg Prod.fst hS)
  have HS2 := Lib.hid (congrArg Prod.snd hS)
  obtain ⟨N, E⟩ := S
  simp only at HS1 HS2 hr
  have HR := Lib.hid hr
  have HF := Lib.hid hf
  clear hr hf hS
  go_enter Tryd.func32, Tryd.ntmps32
  go_upto_region 1 with (fail)
  have X1 := (Bo.newAt w (g := w.heap.size) (by simp) #[.bool s, .slice A n c, .int .i64 e] 27).below (bel1 _ (.cells #[.bool t, .slice B m d, .int .i64 f] 27))
  have X2 := (Bo.newAt (w.alloc (.cells #[.bool s, .slice A n c, .int .i64 e] 27)) (g := w.heap.size + 1) (by simp) #[.bool t, .slice B m d, .int .i64 f] 27)
  have HB := Lib.hid (bel2 w (.cells #[.bool s, .slice A n c, .int .i64 e] 27) (.cells #[.bool t, .slice B m d, .int .i64 f] 27))
  replace h := h.below HB.out
  replace k := k.below HB.out
  generalize hW1 : ((w.alloc (.cells #[.bool s, .slice A n c, .int .i64 e] 27)).alloc (.cells #[.bool t, .slice B m d, .int .i64 f] 27)) = w1 at *
  clear hW1
  have xX10 := X1.at (i := 0) (v := .bool s) rfl
  have xX11 := X1.at (i := 1) (v := .slice A n c) rfl
  have xX12 := X1.at (i := 2) (v := .int .i64 e) rfl
  have xX20 := X2.at (i := 0) (v := .bool t) rfl
  have xX21 := X2.at (i := 1) (v := .slice B m d) rfl
  have xX22 := X2.at (i := 2) (v := .int .i64 f) rfl
  go_wp2_with fail
  refine (q3Sub h k hn hm HF.out HS1.out HS2.out).mono ?_
  rintro ee w2 ⟨s1, A1, n1, c1, rfl, p1, k1, B⟩
  clear xX10 xX11 xX12 xX20 xX21 xX22
  replace X1 := X1.below B
  replace X2 := X2.below B
  replace h := h.below B
  replace k := k.below B
  replace HB := Lib.hid (bt HB.out B)
  clear B
  go_upto_region 2 with (fail)
  have lX5 := Nat.le_refl (World.heap w2).size
  replace p1 := p1.below (bel1 _ (.cells #[.bool s1, .slice A1 n1 c1, .int .i64 E] 27))
  replace HB := Lib.hid (bt HB.out (bel1 _ (.cells #[.bool s1, .slice A1 n1 c1, .int .i64 E] 27)))
  have X5 := Bo.new w2 #[.bool s1, .slice A1 n1 c1, .int .i64 E] 27
  generalize hWn : World.alloc w2 (.cells #[.bool s1, .slice A1 n1 c1, .int .i64 E] 27) = w3 at *
  clear hWn
  have xX50 := X5.at (i := 0) (v := .bool s1) rfl
  have xX51 := X5.at (i := 1) (v := .slice A1 n1 c1) rfl
  have xX52 := X5.at (i := 2) (v := .int .i64 E) rfl
  go_wp2_with fail
  refine (qSign p1.wr HR.out).mono ?_
  rintro ee w4 ⟨rfl, B⟩
  clear xX50 xX51 xX52
  replace X5 := X5.below B
  replace p1 := p1.below B
  replace HB := Lib.hid (bt HB.out B)
  clear B
  go_wp2
  go_ret
  exact ⟨rfl, HB.out⟩
end Go.Proofs.YteoeoppkefcmdaaDoor

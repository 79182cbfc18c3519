/-
  Contracts and words that the statement's proof rests on, several texts in one: Hh, Hj, Hk, Ia, Ib, Ic, Mp.
-/
import Derived.Below
import Derived.BigQuiet
import Derived.Carry
import Derived.Deep.DeepCutAuto
import Derived.Deep.Draws
import Derived.Deep.MidRow
import Derived.Deep.QuietTactic
import Derived.Deep.RegionHeld3
import Derived.Deep.RegionWith
import Derived.IntWalk
import Derived.Laws.Bits64b
import Derived.Laws.CopyOwn
import Derived.Laws.Externs
import Derived.Laws.MakeOwn
import Derived.Laws.OwnMore
import Derived.Laws.Rows
import Derived.Lib.BitFns
import Derived.Lib.Hide
import Derived.Lib.Mul64
import Derived.Lib.TrailingZeros
import Derived.Maps.AppendAt
import Derived.StillTailTactics
import Derived.Test.YtpmakljahhhnfaaDoorRows
import Derived.WalkKit
import Derived.WalkLawsBesides
import Derived.WalkSpells
import Derived.Test.YtpmakljahhhnfaaDoorYBar
import Derived.Test.YtpmakljahhhnfaaDoorYBas
/-
  What the sum, the product, the difference of two numbers, a half and twice a number are, rounded.
-/
namespace Go.Proofs.YtpmakljahhhnfaaDoor
open Go.RowKit
set_option linter.unusedVariables false
set_option linter.unusedSimpArgs false
set_option maxRecDepth 100000

theorem fq_tk {D : Int} {s : Bool} {M E : Int} (hM : M < 18446744073709551616) : ∃ K1 s1 M1 E1, Fq K1 s1 M1 E1 (rk D s M E) := by
  by_cases hm : MayQ D s M E
  · exact ⟨_, _, _, _, rk_fq hM hm⟩
  · rw [rk_not hm]
    exact ⟨_, _, _, _, Fq.nought⟩
set_option maxHeartbeats 2000000 in
theorem aTaken {w : World} {D M E : Int} {s : Bool} {K1 M1 E1 x : Int} {s1 : Bool} (hM : M < 18446744073709551616) (q : Fq K1 s1 M1 E1 x) (hx : rk D s M E = x) : Calls Tryd.prog 77 #[.agg #[.int .i64 D, .bool s, .int .u64 M, .int .i64 E]] w (fun e w' => e = .returned (.agg #[.int .i64 K1, .bool s1, .int .u64 M1, .int .i64 E1]) ∧ Below w.heap.size w w') := by
  by_cases hm : MayQ D s M E
  · obtain ⟨rfl, rfl, rfl, rfl⟩ := q.uniq (hx ▸ rk_fq hM hm)
    have HC := Lib.hid (show decide (MayQ K1 s1 M1 E1) = true from decide_eq_true hm)
    clear hm hx hM q
    go_enter Tryd.func77, Tryd.ntmps77
    go_upto_region 1 with (fail)
    have X1 := (Bo.newAt w (g := w.heap.size) (by simp) #[.int .i64 K1, .bool s1, .int .u64 M1, .int .i64 E1] 24).below (bel1 _ (.cells #[.int .i64 0, .bool false, .int .u64 0, .int .i64 0] 24))
    have XR := (Bo.newAt (w.alloc (.cells #[.int .i64 K1, .bool s1, .int .u64 M1, .int .i64 E1] 24)) (g := w.heap.size + 1) (by simp) #[.int .i64 0, .bool false, .int .u64 0, .int .i64 0] 24)
    have HB := Lib.hid (bel2 w (.cells #[.int .i64 K1, .bool s1, .int .u64 M1, .int .i64 E1] 24) (.cells #[.int .i64 0, .bool false, .int .u64 0, .int .i64 0] 24))
    generalize hW1 : ((w.alloc (.cells #[.int .i64 K1, .bool s1, .int .u64 M1, .int .i64 E1] 24)).alloc (.cells #[.int .i64 0, .bool false, .int .u64 0, .int .i64 0] 24)) = w1 at *
    clear hW1
    have xX10 := X1.a 0 (.int .i64 K1) rfl
    have xX11 := X1.a 1 (.bool s1) rfl
    have xX12 := X1.a 2 (.int .u64 M1) rfl
    have xX13 := X1.a 3 (.int .i64 E1) rfl
    go_wp2_with fail
    refine (nMay HC.out).mono ?_
    rintro ee w2 ⟨rfl, B⟩
    clear xX10 xX11 xX12 xX13
    replace X1 := X1.below B
    replace XR := XR.below B
    replace HB := Lib.hid (bt HB.out B)
    clear B
    have xXR0 := XR.a 0 (.int .i64 0) rfl
    have zXR0 := XR.frozen 0
    have xXR1 := XR.a 1 (.bool false) rfl
    have zXR1 := XR.frozen 1
    have xXR2 := XR.a 2 (.int .u64 0) rfl
    have zXR2 := XR.frozen 2
    have xXR3 := XR.a 3 (.int .i64 0) rfl
    have zXR3 := XR.frozen 3
    have xX10 := X1.a 0 (.int .i64 K1) rfl
    have xX11 := X1.a 1 (.bool s1) rfl
    have xX12 := X1.a 2 (.int .u64 M1) rfl
    have xX13 := X1.a 3 (.int .i64 E1) rfl
    go_wp2
    clear xXR0 zXR0 xXR1 zXR1 xXR2 zXR2 xXR3 zXR3 xX10 xX11 xX12 xX13
    have SX := StN.mk4 XR (.int .i64 K1) (.bool s1) (.int .u64 M1) (.int .i64 E1)
    replace X1 := X1.stn SX (by omega)
    replace HB := Lib.hid (SX.below HB.out (by omega))
    replace XR := SX.box
    clear SX
    generalize (World.setCell (World.setCell (World.setCell (World.setCell w2 ⟨w.heap.size + 1, 0, none⟩ (.int .i64 K1)) ⟨w.heap.size + 1, 1, none⟩ (.bool s1)) ⟨w.heap.size + 1, 2, none⟩ (.int .u64 M1)) ⟨w.heap.size + 1, 3, none⟩ (.int .i64 E1)) = w3 at *
    have r0 := XR.cell 0
    have r1 := XR.cell 1
    have r2 := XR.cell 2
    have r3 := XR.cell 3
    exact bodyPost_ret (v := .agg #[.int .i64 K1, .bool s1, .int .u64 M1, .int .i64 E1]) (by simp [results, Tryd.results77, go_sem, r0, r1, r2, r3]) rfl ⟨rfl, HB.out⟩
  · rw [rk_not hm] at hx
    subst hx
    obtain ⟨rfl, rfl, rfl, rfl⟩ := q.uniq Fq.nought
    have HC := Lib.hid (show decide (MayQ D s M E) = false from decide_eq_false hm)
    clear hm hM q
    go_enter Tryd.func77, Tryd.ntmps77
    go_upto_region 1 with (fail)
    have X1 := (Bo.newAt w (g := w.heap.size) (by simp) #[.int .i64 D, .bool s, .int .u64 M, .int .i64 E] 24).below (bel1 _ (.cells #[.int .i64 0, .bool false, .int .u64 0, .int .i64 0] 24))
    have XR := (Bo.newAt (w.alloc (.cells #[.int .i64 D, .bool s, .int .u64 M, .int .i64 E] 24)) (g := w.heap.size + 1) (by simp) #[.int .i64 0, .bool false, .int .u64 0, .int .i64 0] 24)
    have HB := Lib.hid (bel2 w (.cells #[.int .i64 D, .bool s, .int .u64 M, .int .i64 E] 24) (.cells #[.int .i64 0, .bool false, .int .u64 0, .int .i64 0] 24))
    generalize hW1 : ((w.alloc (.cells #[.int .i64 D, .bool s, .int .u64 M, .int .i64 E] 24)).alloc (.cells #[.int .i64 0, .bool false, .int .u64 0, .int .i64 0] 24)) = w1 at *
    clear hW1
    have xX10 := X1.a 0 (.int .i64 D) rfl
    have xX11 := X1.a 1 (.bool s) rfl
    have xX12 := X1.a 2 (.int .u64 M) rfl
    have xX13 := X1.a 3 (.int .i64 E) rfl
    go_wp2_with fail
    refine (nMay HC.out).mono ?_
    rintro ee w2 ⟨rfl, B⟩
    clear xX10 xX11 xX12 xX13
    replace X1 := X1.below B
    replace XR := XR.below B
    replace HB := Lib.hid (bt HB.out B)
    clear B
    have xXR0 := XR.a 0 (.int .i64 0) rfl
    have zXR0 := XR.frozen 0
    have xXR1 := XR.a 1 (.bool false) rfl
    have zXR1 := XR.frozen 1
    have xXR2 := XR.a 2 (.int .u64 0) rfl
    have zXR2 := XR.frozen 2
    have xXR3 := XR.a 3 (.int .i64 0) rfl
    have zXR3 := XR.frozen 3
    have xX10 := X1.a 0 (.int .i64 D) rfl
    have xX11 := X1.a 1 (.bool s) rfl
    have xX12 := X1.a 2 (.int .u64 M) rfl
    have xX13 := X1.a 3 (.int .i64 E) rfl
    go_wp2
    clear xXR0 zXR0 xXR1 zXR1 xXR2 zXR2 xXR3 zXR3 xX10 xX11 xX12 xX13
    have SX := StN.mk4 XR (.int .i64 0) (.bool false) (.int .u64 0) (.int .i64 0)
    replace X1 := X1.stn SX (by omega)
    replace HB := Lib.hid (SX.below HB.out (by omega))
    replace XR := SX.box
    clear SX
    generalize (World.setCell (World.setCell (World.setCell (World.setCell w2 ⟨w.heap.size + 1, 0, none⟩ (.int .i64 0)) ⟨w.heap.size + 1, 1, none⟩ (.bool false)) ⟨w.heap.size + 1, 2, none⟩ (.int .u64 0)) ⟨w.heap.size + 1, 3, none⟩ (.int .i64 0)) = w3 at *
    have r0 := XR.cell 0
    have r1 := XR.cell 1
    have r2 := XR.cell 2
    have r3 := XR.cell 3
    exact bodyPost_ret (v := .agg #[.int .i64 0, .bool false, .int .u64 0, .int .i64 0]) (by simp [results, Tryd.results77, go_sem, r0, r1, r2, r3]) rfl ⟨rfl, HB.out⟩
set_option maxHeartbeats 8000000 in
theorem aMul {w : World} {D D' M M' E E' : Int} {s s' : Bool} {up : Bool} {x y r : Int} (hM : M < 18446744073709551616) (hM' : M' < 18446744073709551616) (hx : rk D s M E = x) (hy : rk D' s' M' E' = y) (hr : mulp up x y = r) : Calls Tryd.prog 54 #[.agg #[.int .i64 D, .bool s, .int .u64 M, .int .i64 E], .agg #[.int .i64 D', .bool s', .int .u64 M', .int .i64 E'], .bool up] w (PN w r) := by
  obtain ⟨K1, s1, M1, E1, q1⟩ := fq_tk (D := D) (s := s) (M := M) (E := E) hM
  obtain ⟨K2, s2, M2, E2, q2⟩ := fq_tk (D := D') (s := s') (M := M') (E := E') hM'
  rw [hx] at q1
  rw [hy] at q2
  have HX := Lib.hid hx
  have HY := Lib.hid hy
  clear hx hy
  go_enter Tryd.func54, Tryd.ntmps54
  go_upto_region 1 with (fail)
  have X3 := (Bo.newAt w (g := w.heap.size) (by simp) #[.int .i64 D, .bool s, .int .u64 M, .int .i64 E] 24).below (bel2 _ (.cells #[.int .i64 D', .bool s', .int .u64 M', .int .i64 E'] 24) (.cells #[.int .i64 0, .bool false, .int .u64 0, .int .i64 0] 24))
  have X4 := (Bo.newAt (w.alloc (.cells #[.int .i64 D, .bool s, .int .u64 M, .int .i64 E] 24)) (g := w.heap.size + 1) (by simp) #[.int .i64 D', .bool s', .int .u64 M', .int .i64 E'] 24).below (bel1 _ (.cells #[.int .i64 0, .bool false, .int .u64 0, .int .i64 0] 24))
  have XR := (Bo.newAt ((w.alloc (.cells #[.int .i64 D, .bool s, .int .u64 M, .int .i64 E] 24)).alloc (.cells #[.int .i64 D', .bool s', .int .u64 M', .int .i64 E'] 24)) (g := w.heap.size + 1 + 1) (by simp) #[.int .i64 0, .bool false, .int .u64 0, .int .i64 0] 24)
  have HB := Lib.hid (bel3 w (.cells #[.int .i64 D, .bool s, .int .u64 M, .int .i64 E] 24) (.cells #[.int .i64 D', .bool s', .int .u64 M', .int .i64 E'] 24) (.cells #[.int .i64 0, .bool false, .int .u64 0, .int .i64 0] 24))
  generalize hW1 : (((w.alloc (.cells #[.int .i64 D, .bool s, .int .u64 M, .int .i64 E] 24)).alloc (.cells #[.int .i64 D', .bool s', .int .u64 M', .int .i64 E'] 24)).alloc (.cells #[.int .i64 0, .bool false, .int .u64 0, .int .i64 0] 24)) = w1 at *
  clear hW1
  refine Jo.region_joint (T := [0, 1, 2, 3]) (ds := [some 7, some 8, some 9, some 10, none, none]) (ls := [[], [0], [], [2], [], []]) (k := 6) (L := [(some 7, 0), (some 8, 1), (some 9, 2), (some 10, 3)]) (fuel := 2) (J := fun wj => Below (World.heap w1).size w1 wj)
    (F := [Jo.Fact.eq (.agg #[.int .i64 D, .bool s, .int .u64 M, .int .i64 E]), Jo.Fact.eq (.agg #[.int .i64 K1, .bool s1, .int .u64 M1, .int .i64 E1]), Jo.Fact.eq (.agg #[.int .i64 D', .bool s', .int .u64 M', .int .i64 E']), Jo.Fact.eq (.agg #[.int .i64 K2, .bool s2, .int .u64 M2, .int .i64 E2]), Jo.Fact.any, Jo.Fact.any])
    (by kernel_rfl) (by kernel_rfl) (by decide) rfl rfl (fun _ _ h b => bt h b) ((Below.refl _ _).drew) ?_ (fun vs w2 hJ hd => ?_)
  · refine Jo.jd 0 (some 7) [] (Jo.Fact.eq (.agg #[.int .i64 D, .bool s, .int .u64 M, .int .i64 E])) rfl rfl rfl rfl (fun vs wj hJ hd K hK => ?_) ?_
    · simp only [Jo.putl, Jo.ze, Act.put, Jo.za, Jo.zb, Jo.zc] at hK ⊢
      clear hd
      have xX30 := (X3.below hJ).a 0 (.int .i64 D) rfl
      have xX31 := (X3.below hJ).a 1 (.bool s) rfl
      have xX32 := (X3.below hJ).a 2 (.int .u64 M) rfl
      have xX33 := (X3.below hJ).a 3 (.int .i64 E) rfl
      go_simp
      exact hK.out _ _ rfl (Below.refl _ _)
    refine Jo.jd 1 (some 8) [(some 7, 0)] (Jo.Fact.eq (.agg #[.int .i64 K1, .bool s1, .int .u64 M1, .int .i64 E1])) rfl rfl rfl rfl (fun vs wj hJ hd K hK => ?_) ?_
    · simp only [Jo.putl, Jo.zd, Jo.ze, Act.put, Jo.za, Jo.zb, Jo.zc] at hK ⊢
      rw [show vs 0 = _ from hd 0 (by decide)] at hK ⊢
      clear hd
      go_simp
      refine (aTaken hM q1 HX.out).mono ?_
      rintro ee wk ⟨rfl, B⟩
      exact hK.out _ _ rfl B
    refine Jo.jd 2 (some 9) [] (Jo.Fact.eq (.agg #[.int .i64 D', .bool s', .int .u64 M', .int .i64 E'])) rfl rfl rfl rfl (fun vs wj hJ hd K hK => ?_) ?_
    · simp only [Jo.putl, Jo.ze, Act.put, Jo.za, Jo.zb, Jo.zc] at hK ⊢
      clear hd
      have xX40 := (X4.below hJ).a 0 (.int .i64 D') rfl
      have xX41 := (X4.below hJ).a 1 (.bool s') rfl
      have xX42 := (X4.below hJ).a 2 (.int .u64 M') rfl
      have xX43 := (X4.below hJ).a 3 (.int .i64 E') rfl
      go_simp
      exact hK.out _ _ rfl (Below.refl _ _)
    refine Jo.jd 3 (some 10) [(some 9, 2)] (Jo.Fact.eq (.agg #[.int .i64 K2, .bool s2, .int .u64 M2, .int .i64 E2])) rfl rfl rfl rfl (fun vs wj hJ hd K hK => ?_) ?_
    · simp only [Jo.putl, Jo.zd, Jo.ze, Act.put, Jo.za, Jo.zb, Jo.zc] at hK ⊢
      rw [show vs 2 = _ from hd 2 (by decide)] at hK ⊢
      clear hd
      go_simp
      refine (aTaken hM' q2 HY.out).mono ?_
      rintro ee wk ⟨rfl, B⟩
      exact hK.out _ _ rfl B
    exact Jo.Steps.nil
  have d1 : (Jo.Fact.eq (.agg #[.int .i64 K1, .bool s1, .int .u64 M1, .int .i64 E1])).P (vs 1) w2 := hd 1 (by decide)
  have d2 : (Jo.Fact.eq (.agg #[.int .i64 D', .bool s', .int .u64 M', .int .i64 E'])).P (vs 2) w2 := hd 2 (by decide)
  simp only [Jo.putl, Jo.zd, Jo.ze, Act.put, Jo.za, Jo.zb, Jo.zc]
  rw [show vs 0 = _ from hd 0 (by decide), show vs 3 = _ from hd 3 (by decide)]
  clear hd
  generalize vs 1 = u1 at d1 ⊢
  generalize vs 2 = u2 at d2 ⊢
  replace d1 : u1 = _ := d1
  subst d1
  replace d2 : u2 = _ := d2
  subst d2
  replace X3 := X3.below hJ
  replace X4 := X4.below hJ
  replace XR := XR.below hJ
  replace HB := Lib.hid (bt HB.out hJ)
  have xX30 := X3.a 0 (.int .i64 D) rfl
  have zX30 := X3.frozen 0
  have xX31 := X3.a 1 (.bool s) rfl
  have zX31 := X3.frozen 1
  have xX32 := X3.a 2 (.int .u64 M) rfl
  have zX32 := X3.frozen 2
  have xX33 := X3.a 3 (.int .i64 E) rfl
  have zX33 := X3.frozen 3
  refine Jo.jnext (i := 4) (o := ⟨none, _, _, _, _, _⟩) (by kernel_rfl) rfl (fun K hK => ?_)
  go_simp
  refine hK.out _ _ ?_
  clear hK K xX30 zX30 xX31 zX31 xX32 zX32 xX33 zX33
  have SX := StN.mk4 X3 (.int .i64 K1) (.bool s1) (.int .u64 M1) (.int .i64 E1)
  replace X4 := X4.stn SX (by omega)
  replace XR := XR.stn SX (by omega)
  replace HB := Lib.hid (SX.below HB.out (by omega))
  replace X3 := SX.box
  clear SX
  generalize (World.setCell (World.setCell (World.setCell (World.setCell w2 ⟨w.heap.size, 0, none⟩ (.int .i64 K1)) ⟨w.heap.size, 1, none⟩ (.bool s1)) ⟨w.heap.size, 2, none⟩ (.int .u64 M1)) ⟨w.heap.size, 3, none⟩ (.int .i64 E1)) = w3 at *
  have xX40 := X4.a 0 (.int .i64 D') rfl
  have zX40 := X4.frozen 0
  have xX41 := X4.a 1 (.bool s') rfl
  have zX41 := X4.frozen 1
  have xX42 := X4.a 2 (.int .u64 M') rfl
  have zX42 := X4.frozen 2
  have xX43 := X4.a 3 (.int .i64 E') rfl
  have zX43 := X4.frozen 3
  refine Jo.jnext (i := 5) (o := ⟨none, _, _, _, _, _⟩) (by kernel_rfl) rfl (fun K hK => ?_)
  go_simp
  refine hK.out _ _ ?_
  clear hK K xX40 zX40 xX41 zX41 xX42 zX42 xX43 zX43
  have SX := StN.mk4 X4 (.int .i64 K2) (.bool s2) (.int .u64 M2) (.int .i64 E2)
  replace X3 := X3.stn SX (by omega)
  replace XR := XR.stn SX (by omega)
  replace HB := Lib.hid (SX.below HB.out (by omega))
  replace X4 := SX.box
  clear SX
  generalize (World.setCell (World.setCell (World.setCell (World.setCell w3 ⟨w.heap.size + 1, 0, none⟩ (.int .i64 K2)) ⟨w.heap.size + 1, 1, none⟩ (.bool s2)) ⟨w.heap.size + 1, 2, none⟩ (.int .u64 M2)) ⟨w.heap.size + 1, 3, none⟩ (.int .i64 E2)) = w4 at *
  refine Jo.jdone (by kernel_rfl) ?_
  clear HX HY hM hM'
  have i1 := fq_inf q1
  have i2 := fq_inf q2
  have z1 := q1.zero_iff
  have z2 := q2.zero_iff
  have d1 := q1.bd
  have d2 := q2.bd
  have kk1 : K1 = 2 ∨ K1 = 0 ∨ K1 = 1 := by rcases q1.cases with ⟨h, _⟩ | ⟨h, _⟩ | ⟨h, _⟩ <;> omega
  have kk2 : K2 = 2 ∨ K2 = 0 ∨ K2 = 1 := by rcases q2.cases with ⟨h, _⟩ | ⟨h, _⟩ | ⟨h, _⟩ <;> omega
  rcases kk1 with rfl | rfl | rfl
  · rcases kk2 with rfl | rfl | rfl
    · have hnz : ¬ (x = 0 ∨ y = 0) := fun c => c.elim (fun c => absurd (z1.2 c) (by decide)) (fun c => absurd (z2.2 c) (by decide))
      have sx : decide (x < 0) = s1 := by
        rcases q1.three with ⟨a, _⟩ | ⟨_, rfl, b⟩ | ⟨_, rfl, b⟩
        · exact absurd a (by decide)
        · exact decide_eq_false (by omega)
        · exact decide_eq_true b
      have sy : decide (y < 0) = s2 := by
        rcases q2.three with ⟨a, _⟩ | ⟨_, rfl, b⟩ | ⟨_, rfl, b⟩
        · exact absurd a (by decide)
        · exact decide_eq_false (by omega)
        · exact decide_eq_true b
      rw [mulp_inf up hnz (.inl i1), sx, sy] at hr
      have HRR := Lib.hid hr
      clear i1 i2 z1 z2 d1 d2 q1 q2 hr sx sy hnz
      have xX30 := X3.a 0 (.int .i64 2) rfl
      have xX31 := X3.a 1 (.bool s1) rfl
      have xX32 := X3.a 2 (.int .u64 M1) rfl
      have xX33 := X3.a 3 (.int .i64 E1) rfl
      have xX40 := X4.a 0 (.int .i64 2) rfl
      have xX41 := X4.a 1 (.bool s2) rfl
      have xX42 := X4.a 2 (.int .u64 M2) rfl
      have xX43 := X4.a 3 (.int .i64 E2) rfl
      go_wp2_with fail
      refine (nInf (s := s1 != s2) HRR.out).mono ?_
      rintro ee w5 ⟨K3, s3, M3, E3, rfl, q3, B⟩
      clear xX30 xX31 xX32 xX33 xX40 xX41 xX42 xX43
      replace X3 := X3.below B
      replace X4 := X4.below B
      replace XR := XR.below B
      replace HB := Lib.hid (bt HB.out B)
      clear B
      have xXR0 := XR.a 0 (.int .i64 0) rfl
      have zXR0 := XR.frozen 0
      have xXR1 := XR.a 1 (.bool false) rfl
      have zXR1 := XR.frozen 1
      have xXR2 := XR.a 2 (.int .u64 0) rfl
      have zXR2 := XR.frozen 2
      have xXR3 := XR.a 3 (.int .i64 0) rfl
      have zXR3 := XR.frozen 3
      go_wp2
      clear xXR0 zXR0 xXR1 zXR1 xXR2 zXR2 xXR3 zXR3
      have SX := StN.mk4 XR (.int .i64 K3) (.bool s3) (.int .u64 M3) (.int .i64 E3)
      replace X3 := X3.stn SX (by omega)
      replace X4 := X4.stn SX (by omega)
      replace HB := Lib.hid (SX.below HB.out (by omega))
      replace XR := SX.box
      clear SX
      generalize (World.setCell (World.setCell (World.setCell (World.setCell w5 ⟨w.heap.size + 1 + 1, 0, none⟩ (.int .i64 K3)) ⟨w.heap.size + 1 + 1, 1, none⟩ (.bool s3)) ⟨w.heap.size + 1 + 1, 2, none⟩ (.int .u64 M3)) ⟨w.heap.size + 1 + 1, 3, none⟩ (.int .i64 E3)) = w6 at *
      have r0 := XR.cell 0
      have r1 := XR.cell 1
      have r2 := XR.cell 2
      have r3 := XR.cell 3
      exact bodyPost_ret (v := .agg #[.int .i64 K3, .bool s3, .int .u64 M3, .int .i64 E3]) (by simp [results, Tryd.results54, go_sem, r0, r1, r2, r3]) rfl ⟨_, _, _, _, rfl, q3, HB.out⟩
    · rw [mulp_zero up (.inr (z2.1 rfl))] at hr
      subst hr
      clear i1 i2 z1 z2 d1 d2 q1 q2
      have xXR0 := XR.a 0 (.int .i64 0) rfl
      have zXR0 := XR.frozen 0
      have xXR1 := XR.a 1 (.bool false) rfl
      have zXR1 := XR.frozen 1
      have xXR2 := XR.a 2 (.int .u64 0) rfl
      have zXR2 := XR.frozen 2
      have xXR3 := XR.a 3 (.int .i64 0) rfl
      have zXR3 := XR.frozen 3
      have xX30 := X3.a 0 (.int .i64 2) rfl
      have xX31 := X3.a 1 (.bool s1) rfl
      have xX32 := X3.a 2 (.int .u64 M1) rfl
      have xX33 := X3.a 3 (.int .i64 E1) rfl
      have xX40 := X4.a 0 (.int .i64 0) rfl
      have xX41 := X4.a 1 (.bool s2) rfl
      have xX42 := X4.a 2 (.int .u64 M2) rfl
      have xX43 := X4.a 3 (.int .i64 E2) rfl
      go_wp2
      clear xXR0 zXR0 xXR1 zXR1 xXR2 zXR2 xXR3 zXR3 xX30 xX31 xX32 xX33 xX40 xX41 xX42 xX43
      have SX := StN.mk4 XR (.int .i64 0) (.bool false) (.int .u64 0) (.int .i64 0)
      replace X3 := X3.stn SX (by omega)
      replace X4 := X4.stn SX (by omega)
      replace HB := Lib.hid (SX.below HB.out (by omega))
      replace XR := SX.box
      clear SX
      generalize (World.setCell (World.setCell (World.setCell (World.setCell w4 ⟨w.heap.size + 1 + 1, 0, none⟩ (.int .i64 0)) ⟨w.heap.size + 1 + 1, 1, none⟩ (.bool false)) ⟨w.heap.size + 1 + 1, 2, none⟩ (.int .u64 0)) ⟨w.heap.size + 1 + 1, 3, none⟩ (.int .i64 0)) = w5 at *
      have r0 := XR.cell 0
      have r1 := XR.cell 1
      have r2 := XR.cell 2
      have r3 := XR.cell 3
      exact bodyPost_ret (v := .agg #[.int .i64 0, .bool false, .int .u64 0, .int .i64 0]) (by simp [results, Tryd.results54, go_sem, r0, r1, r2, r3]) rfl ⟨_, _, _, _, rfl, Fq.nought, HB.out⟩
    · have hnz : ¬ (x = 0 ∨ y = 0) := fun c => c.elim (fun c => absurd (z1.2 c) (by decide)) (fun c => absurd (z2.2 c) (by decide))
      have sx : decide (x < 0) = s1 := by
        rcases q1.three with ⟨a, _⟩ | ⟨_, rfl, b⟩ | ⟨_, rfl, b⟩
        · exact absurd a (by decide)
        · exact decide_eq_false (by omega)
        · exact decide_eq_true b
      have sy : decide (y < 0) = s2 := by
        rcases q2.three with ⟨a, _⟩ | ⟨_, rfl, b⟩ | ⟨_, rfl, b⟩
        · exact absurd a (by decide)
        · exact decide_eq_false (by omega)
        · exact decide_eq_true b
      rw [mulp_inf up hnz (.inl i1), sx, sy] at hr
      have HRR := Lib.hid hr
      clear i1 i2 z1 z2 d1 d2 q1 q2 hr sx sy hnz
      have xX30 := X3.a 0 (.int .i64 2) rfl
      have xX31 := X3.a 1 (.bool s1) rfl
      have xX32 := X3.a 2 (.int .u64 M1) rfl
      have xX33 := X3.a 3 (.int .i64 E1) rfl
      have xX40 := X4.a 0 (.int .i64 1) rfl
      have xX41 := X4.a 1 (.bool s2) rfl
      have xX42 := X4.a 2 (.int .u64 M2) rfl
      have xX43 := X4.a 3 (.int .i64 E2) rfl
      go_wp2_with fail
      refine (nInf (s := s1 != s2) HRR.out).mono ?_
      rintro ee w5 ⟨K3, s3, M3, E3, rfl, q3, B⟩
      clear xX30 xX31 xX32 xX33 xX40 xX41 xX42 xX43
      replace X3 := X3.below B
      replace X4 := X4.below B
      replace XR := XR.below B
      replace HB := Lib.hid (bt HB.out B)
      clear B
      have xXR0 := XR.a 0 (.int .i64 0) rfl
      have zXR0 := XR.frozen 0
      have xXR1 := XR.a 1 (.bool false) rfl
      have zXR1 := XR.frozen 1
      have xXR2 := XR.a 2 (.int .u64 0) rfl
      have zXR2 := XR.frozen 2
      have xXR3 := XR.a 3 (.int .i64 0) rfl
      have zXR3 := XR.frozen 3
      go_wp2
      clear xXR0 zXR0 xXR1 zXR1 xXR2 zXR2 xXR3 zXR3
      have SX := StN.mk4 XR (.int .i64 K3) (.bool s3) (.int .u64 M3) (.int .i64 E3)
      replace X3 := X3.stn SX (by omega)
      replace X4 := X4.stn SX (by omega)
      replace HB := Lib.hid (SX.below HB.out (by omega))
      replace XR := SX.box
      clear SX
      generalize (World.setCell (World.setCell (World.setCell (World.setCell w5 ⟨w.heap.size + 1 + 1, 0, none⟩ (.int .i64 K3)) ⟨w.heap.size + 1 + 1, 1, none⟩ (.bool s3)) ⟨w.heap.size + 1 + 1, 2, none⟩ (.int .u64 M3)) ⟨w.heap.size + 1 + 1, 3, none⟩ (.int .i64 E3)) = w6 at *
      have r0 := XR.cell 0
      have r1 := XR.cell 1
      have r2 := XR.cell 2
      have r3 := XR.cell 3
      exact bodyPost_ret (v := .agg #[.int .i64 K3, .bool s3, .int .u64 M3, .int .i64 E3]) (by simp [results, Tryd.results54, go_sem, r0, r1, r2, r3]) rfl ⟨_, _, _, _, rfl, q3, HB.out⟩
  · rcases kk2 with rfl | rfl | rfl
    · rw [mulp_zero up (.inl (z1.1 rfl))] at hr
      subst hr
      clear i1 i2 z1 z2 d1 d2 q1 q2
      have xXR0 := XR.a 0 (.int .i64 0) rfl
      have zXR0 := XR.frozen 0
      have xXR1 := XR.a 1 (.bool false) rfl
      have zXR1 := XR.frozen 1
      have xXR2 := XR.a 2 (.int .u64 0) rfl
      have zXR2 := XR.frozen 2
      have xXR3 := XR.a 3 (.int .i64 0) rfl
      have zXR3 := XR.frozen 3
      have xX30 := X3.a 0 (.int .i64 0) rfl
      have xX31 := X3.a 1 (.bool s1) rfl
      have xX32 := X3.a 2 (.int .u64 M1) rfl
      have xX33 := X3.a 3 (.int .i64 E1) rfl
      have xX40 := X4.a 0 (.int .i64 2) rfl
      have xX41 := X4.a 1 (.bool s2) rfl
      have xX42 := X4.a 2 (.int .u64 M2) rfl
      have xX43 := X4.a 3 (.int .i64 E2) rfl
      go_wp2
      clear xXR0 zXR0 xXR1 zXR1 xXR2 zXR2 xXR3 zXR3 xX30 xX31 xX32 xX33 xX40 xX41 xX42 xX43
      have SX := StN.mk4 XR (.int .i64 0) (.bool false) (.int .u64 0) (.int .i64 0)
      replace X3 := X3.stn SX (by omega)
      replace X4 := X4.stn SX (by omega)
      replace HB := Lib.hid (SX.below HB.out (by omega))
      replace XR := SX.box
      clear SX
      generalize (World.setCell (World.setCell (World.setCell (World.setCell w4 ⟨w.heap.size + 1 + 1, 0, none⟩ (.int .i64 0)) ⟨w.heap.size + 1 + 1, 1, none⟩ (.bool false)) ⟨w.heap.size + 1 + 1, 2, none⟩ (.int .u64 0)) ⟨w.heap.size + 1 + 1, 3, none⟩ (.int .i64 0)) = w5 at *
      have r0 := XR.cell 0
      have r1 := XR.cell 1
      have r2 := XR.cell 2
      have r3 := XR.cell 3
      exact bodyPost_ret (v := .agg #[.int .i64 0, .bool false, .int .u64 0, .int .i64 0]) (by simp [results, Tryd.results54, go_sem, r0, r1, r2, r3]) rfl ⟨_, _, _, _, rfl, Fq.nought, HB.out⟩
    · rw [mulp_zero up (.inl (z1.1 rfl))] at hr
      subst hr
      clear i1 i2 z1 z2 d1 d2 q1 q2
      have xXR0 := XR.a 0 (.int .i64 0) rfl
      have zXR0 := XR.frozen 0
      have xXR1 := XR.a 1 (.bool false) rfl
      have zXR1 := XR.frozen 1
      have xXR2 := XR.a 2 (.int .u64 0) rfl
      have zXR2 := XR.frozen 2
      have xXR3 := XR.a 3 (.int .i64 0) rfl
      have zXR3 := XR.frozen 3
      have xX30 := X3.a 0 (.int .i64 0) rfl
      have xX31 := X3.a 1 (.bool s1) rfl
      have xX32 := X3.a 2 (.int .u64 M1) rfl
      have xX33 := X3.a 3 (.int .i64 E1) rfl
      have xX40 := X4.a 0 (.int .i64 0) rfl
      have xX41 := X4.a 1 (.bool s2) rfl
      have xX42 := X4.a 2 (.int .u64 M2) rfl
      have xX43 := X4.a 3 (.int .i64 E2) rfl
      go_wp2
      clear xXR0 zXR0 xXR1 zXR1 xXR2 zXR2 xXR3 zXR3 xX30 xX31 xX32 xX33 xX40 xX41 xX42 xX43
      have SX := StN.mk4 XR (.int .i64 0) (.bool false) (.int .u64 0) (.int .i64 0)
      replace X3 := X3.stn SX (by omega)
      replace X4 := X4.stn SX (by omega)
      replace HB := Lib.hid (SX.below HB.out (by omega))
      replace XR := SX.box
      clear SX
      generalize (World.setCell (World.setCell (World.setCell (World.setCell w4 ⟨w.heap.size + 1 + 1, 0, none⟩ (.int .i64 0)) ⟨w.heap.size + 1 + 1, 1, none⟩ (.bool false)) ⟨w.heap.size + 1 + 1, 2, none⟩ (.int .u64 0)) ⟨w.heap.size + 1 + 1, 3, none⟩ (.int .i64 0)) = w5 at *
      have r0 := XR.cell 0
      have r1 := XR.cell 1
      have r2 := XR.cell 2
      have r3 := XR.cell 3
      exact bodyPost_ret (v := .agg #[.int .i64 0, .bool false, .int .u64 0, .int .i64 0]) (by simp [results, Tryd.results54, go_sem, r0, r1, r2, r3]) rfl ⟨_, _, _, _, rfl, Fq.nought, HB.out⟩
    · rw [mulp_zero up (.inl (z1.1 rfl))] at hr
      subst hr
      clear i1 i2 z1 z2 d1 d2 q1 q2
      have xXR0 := XR.a 0 (.int .i64 0) rfl
      have zXR0 := XR.frozen 0
      have xXR1 := XR.a 1 (.bool false) rfl
      have zXR1 := XR.frozen 1
      have xXR2 := XR.a 2 (.int .u64 0) rfl
      have zXR2 := XR.frozen 2
      have xXR3 := XR.a 3 (.int .i64 0) rfl
      have zXR3 := XR.frozen 3
      have xX30 := X3.a 0 (.int .i64 0) rfl
      have xX31 := X3.a 1 (.bool s1) rfl
      have xX32 := X3.a 2 (.int .u64 M1) rfl
      have xX33 := X3.a 3 (.int .i64 E1) rfl
      have xX40 := X4.a 0 (.int .i64 1) rfl
      have xX41 := X4.a 1 (.bool s2) rfl
      have xX42 := X4.a 2 (.int .u64 M2) rfl
      have xX43 := X4.a 3 (.int .i64 E2) rfl
      go_wp2
      clear xXR0 zXR0 xXR1 zXR1 xXR2 zXR2 xXR3 zXR3 xX30 xX31 xX32 xX33 xX40 xX41 xX42 xX43
      have SX := StN.mk4 XR (.int .i64 0) (.bool false) (.int .u64 0) (.int .i64 0)
      replace X3 := X3.stn SX (by omega)
      replace X4 := X4.stn SX (by omega)
      replace HB := Lib.hid (SX.below HB.out (by omega))
      replace XR := SX.box
      clear SX
      generalize (World.setCell (World.setCell (World.setCell (World.setCell w4 ⟨w.heap.size + 1 + 1, 0, none⟩ (.int .i64 0)) ⟨w.heap.size + 1 + 1, 1, none⟩ (.bool false)) ⟨w.heap.size + 1 + 1, 2, none⟩ (.int .u64 0)) ⟨w.heap.size + 1 + 1, 3, none⟩ (.int .i64 0)) = w5 at *
      have r0 := XR.cell 0
      have r1 := XR.cell 1
      have r2 := XR.cell 2
      have r3 := XR.cell 3
      exact bodyPost_ret (v := .agg #[.int .i64 0, .bool false, .int .u64 0, .int .i64 0]) (by simp [results, Tryd.results54, go_sem, r0, r1, r2, r3]) rfl ⟨_, _, _, _, rfl, Fq.nought, HB.out⟩
  · rcases kk2 with rfl | rfl | rfl
    · have hnz : ¬ (x = 0 ∨ y = 0) := fun c => c.elim (fun c => absurd (z1.2 c) (by decide)) (fun c => absurd (z2.2 c) (by decide))
      have sx : decide (x < 0) = s1 := by
        rcases q1.three with ⟨a, _⟩ | ⟨_, rfl, b⟩ | ⟨_, rfl, b⟩
        · exact absurd a (by decide)
        · exact decide_eq_false (by omega)
        · exact decide_eq_true b
      have sy : decide (y < 0) = s2 := by
        rcases q2.three with ⟨a, _⟩ | ⟨_, rfl, b⟩ | ⟨_, rfl, b⟩
        · exact absurd a (by decide)
        · exact decide_eq_false (by omega)
        · exact decide_eq_true b
      rw [mulp_inf up hnz (.inr i2), sx, sy] at hr
      have HRR := Lib.hid hr
      clear i1 i2 z1 z2 d1 d2 q1 q2 hr sx sy hnz
      have xX30 := X3.a 0 (.int .i64 1) rfl
      have xX31 := X3.a 1 (.bool s1) rfl
      have xX32 := X3.a 2 (.int .u64 M1) rfl
      have xX33 := X3.a 3 (.int .i64 E1) rfl
      have xX40 := X4.a 0 (.int .i64 2) rfl
      have xX41 := X4.a 1 (.bool s2) rfl
      have xX42 := X4.a 2 (.int .u64 M2) rfl
      have xX43 := X4.a 3 (.int .i64 E2) rfl
      go_wp2_with fail
      refine (nInf (s := s1 != s2) HRR.out).mono ?_
      rintro ee w5 ⟨K3, s3, M3, E3, rfl, q3, B⟩
      clear xX30 xX31 xX32 xX33 xX40 xX41 xX42 xX43
      replace X3 := X3.below B
      replace X4 := X4.below B
      replace XR := XR.below B
      replace HB := Lib.hid (bt HB.out B)
      clear B
      have xXR0 := XR.a 0 (.int .i64 0) rfl
      have zXR0 := XR.frozen 0
      have xXR1 := XR.a 1 (.bool false) rfl
      have zXR1 := XR.frozen 1
      have xXR2 := XR.a 2 (.int .u64 0) rfl
      have zXR2 := XR.frozen 2
      have xXR3 := XR.a 3 (.int .i64 0) rfl
      have zXR3 := XR.frozen 3
      go_wp2
      clear xXR0 zXR0 xXR1 zXR1 xXR2 zXR2 xXR3 zXR3
      have SX := StN.mk4 XR (.int .i64 K3) (.bool s3) (.int .u64 M3) (.int .i64 E3)
      replace X3 := X3.stn SX (by omega)
      replace X4 := X4.stn SX (by omega)
      replace HB := Lib.hid (SX.below HB.out (by omega))
      replace XR := SX.box
      clear SX
      generalize (World.setCell (World.setCell (World.setCell (World.setCell w5 ⟨w.heap.size + 1 + 1, 0, none⟩ (.int .i64 K3)) ⟨w.heap.size + 1 + 1, 1, none⟩ (.bool s3)) ⟨w.heap.size + 1 + 1, 2, none⟩ (.int .u64 M3)) ⟨w.heap.size + 1 + 1, 3, none⟩ (.int .i64 E3)) = w6 at *
      have r0 := XR.cell 0
      have r1 := XR.cell 1
      have r2 := XR.cell 2
      have r3 := XR.cell 3
      exact bodyPost_ret (v := .agg #[.int .i64 K3, .bool s3, .int .u64 M3, .int .i64 E3]) (by simp [results, Tryd.results54, go_sem, r0, r1, r2, r3]) rfl ⟨_, _, _, _, rfl, q3, HB.out⟩
    · rw [mulp_zero up (.inr (z2.1 rfl))] at hr
      subst hr
      clear i1 i2 z1 z2 d1 d2 q1 q2
      have xXR0 := XR.a 0 (.int .i64 0) rfl
      have zXR0 := XR.frozen 0
      have xXR1 := XR.a 1 (.bool false) rfl
      have zXR1 := XR.frozen 1
      have xXR2 := XR.a 2 (.int .u64 0) rfl
      have zXR2 := XR.frozen 2
      have xXR3 := XR.a 3 (.int .i64 0) rfl
      have zXR3 := XR.frozen 3
      have xX30 := X3.a 0 (.int .i64 1) rfl
      have xX31 := X3.a 1 (.bool s1) rfl
      have xX32 := X3.a 2 (.int .u64 M1) rfl
      have xX33 := X3.a 3 (.int .i64 E1) rfl
      have xX40 := X4.a 0 (.int .i64 0) rfl
      have xX41 := X4.a 1 (.bool s2) rfl
      have xX42 := X4.a 2 (.int .u64 M2) rfl
      have xX43 := X4.a 3 (.int .i64 E2) rfl
      go_wp2
      clear xXR0 zXR0 xXR1 zXR1 xXR2 zXR2 xXR3 zXR3 xX30 xX31 xX32 xX33 xX40 xX41 xX42 xX43
      have SX := StN.mk4 XR (.int .i64 0) (.bool false) (.int .u64 0) (.int .i64 0)
      replace X3 := X3.stn SX (by omega)
      replace X4 := X4.stn SX (by omega)
      replace HB := Lib.hid (SX.below HB.out (by omega))
      replace XR := SX.box
      clear SX
      generalize (World.setCell (World.setCell (World.setCell (World.setCell w4 ⟨w.heap.size + 1 + 1, 0, none⟩ (.int .i64 0)) ⟨w.heap.size + 1 + 1, 1, none⟩ (.bool false)) ⟨w.heap.size + 1 + 1, 2, none⟩ (.int .u64 0)) ⟨w.heap.size + 1 + 1, 3, none⟩ (.int .i64 0)) = w5 at *
      have r0 := XR.cell 0
      have r1 := XR.cell 1
      have r2 := XR.cell 2
      have r3 := XR.cell 3
      exact bodyPost_ret (v := .agg #[.int .i64 0, .bool false, .int .u64 0, .int .i64 0]) (by simp [results, Tryd.results54, go_sem, r0, r1, r2, r3]) rfl ⟨_, _, _, _, rfl, Fq.nought, HB.out⟩
    · have HRR := Lib.hid hr
      clear i1 i2 z1 z2 d1 d2 hr
      have xX30 := X3.a 0 (.int .i64 1) rfl
      have xX31 := X3.a 1 (.bool s1) rfl
      have xX32 := X3.a 2 (.int .u64 M1) rfl
      have xX33 := X3.a 3 (.int .i64 E1) rfl
      have xX40 := X4.a 0 (.int .i64 1) rfl
      have xX41 := X4.a 1 (.bool s2) rfl
      have xX42 := X4.a 2 (.int .u64 M2) rfl
      have xX43 := X4.a 3 (.int .i64 E2) rfl
      go_wp2_with fail
      refine (aProduct q1 q2).mono ?_
      rintro ee w5 ⟨s3, H3, L3, x3, rfl, p3, B⟩
      clear xX30 xX31 xX32 xX33 xX40 xX41 xX42 xX43
      replace X3 := X3.below B
      replace X4 := X4.below B
      replace XR := XR.below B
      replace HB := Lib.hid (bt HB.out B)
      clear B
      go_wp2_with fail
      refine (aRound p3 HRR.out).mono ?_
      rintro ee w6 ⟨K4, s4, M4, E4, rfl, q4, B⟩
      replace X3 := X3.below B
      replace X4 := X4.below B
      replace XR := XR.below B
      replace HB := Lib.hid (bt HB.out B)
      clear B
      have xXR0 := XR.a 0 (.int .i64 0) rfl
      have zXR0 := XR.frozen 0
      have xXR1 := XR.a 1 (.bool false) rfl
      have zXR1 := XR.frozen 1
      have xXR2 := XR.a 2 (.int .u64 0) rfl
      have zXR2 := XR.frozen 2
      have xXR3 := XR.a 3 (.int .i64 0) rfl
      have zXR3 := XR.frozen 3
      go_wp2
      clear xXR0 zXR0 xXR1 zXR1 xXR2 zXR2 xXR3 zXR3
      have SX := StN.mk4 XR (.int .i64 K4) (.bool s4) (.int .u64 M4) (.int .i64 E4)
      replace X3 := X3.stn SX (by omega)
      replace X4 := X4.stn SX (by omega)
      replace HB := Lib.hid (SX.below HB.out (by omega))
      replace XR := SX.box
      clear SX
      generalize (World.setCell (World.setCell (World.setCell (World.setCell w6 ⟨w.heap.size + 1 + 1, 0, none⟩ (.int .i64 K4)) ⟨w.heap.size + 1 + 1, 1, none⟩ (.bool s4)) ⟨w.heap.size + 1 + 1, 2, none⟩ (.int .u64 M4)) ⟨w.heap.size + 1 + 1, 3, none⟩ (.int .i64 E4)) = w7 at *
      have r0 := XR.cell 0
      have r1 := XR.cell 1
      have r2 := XR.cell 2
      have r3 := XR.cell 3
      exact bodyPost_ret (v := .agg #[.int .i64 K4, .bool s4, .int .u64 M4, .int .i64 E4]) (by simp [results, Tryd.results54, go_sem, r0, r1, r2, r3]) rfl ⟨_, _, _, _, rfl, q4, HB.out⟩
theorem fq_hlf : Fq 1 false 9223372036854775808 (-64) hlf := Fq.fin (by decide) (by decide) (by decide) (by decide) (by decide)
set_option maxHeartbeats 4000000 in
theorem aHalf {w : World} {D M E : Int} {s : Bool} {up : Bool} {x r : Int} (hM : M < 18446744073709551616) (hx : rk D s M E = x) (hr : mulp up x hlf = r) : Calls Tryd.prog 23 #[.agg #[.int .i64 D, .bool s, .int .u64 M, .int .i64 E], .bool up] w (PN w r) := by
  have HX := Lib.hid hx
  have HR := Lib.hid hr
  clear hx hr
  go_enter Tryd.func23, Tryd.ntmps23
  go_upto_region 1 with (fail)
  have X1 := (Bo.newAt w (g := w.heap.size) (by simp) #[.int .i64 D, .bool s, .int .u64 M, .int .i64 E] 24).below (bel1 _ (.cells #[.int .i64 0, .bool false, .int .u64 0, .int .i64 0] 24))
  have XR := (Bo.newAt (w.alloc (.cells #[.int .i64 D, .bool s, .int .u64 M, .int .i64 E] 24)) (g := w.heap.size + 1) (by simp) #[.int .i64 0, .bool false, .int .u64 0, .int .i64 0] 24)
  have HB := Lib.hid (bel2 w (.cells #[.int .i64 D, .bool s, .int .u64 M, .int .i64 E] 24) (.cells #[.int .i64 0, .bool false, .int .u64 0, .int .i64 0] 24))
  generalize hW1 : ((w.alloc (.cells #[.int .i64 D, .bool s, .int .u64 M, .int .i64 E] 24)).alloc (.cells #[.int .i64 0, .bool false, .int .u64 0, .int .i64 0] 24)) = w1 at *
  clear hW1
  go_wp2_with fail
  refine (nOf _ (by decide) (by decide) rfl).mono ?_
  rintro ee w2 ⟨K1, s1, M1, E1, rfl, q1, B⟩
  replace X1 := X1.below B
  replace XR := XR.below B
  replace HB := Lib.hid (bt HB.out B)
  clear B
  obtain ⟨rfl, rfl, rfl, rfl⟩ := q1.uniq fq_one
  clear q1
  go_upto_region 2 with (fail)
  have lX5 := Nat.le_refl (World.heap w2).size
  have nX5X1 := X1.lt
  have nX5XR := XR.lt
  replace X1 := X1.below (bel1 _ (.cells #[.int .i64 1, .bool false, .int .u64 9223372036854775808, .int .i64 (-63)] 24))
  replace XR := XR.below (bel1 _ (.cells #[.int .i64 1, .bool false, .int .u64 9223372036854775808, .int .i64 (-63)] 24))
  replace HB := Lib.hid (bt HB.out (bel1 _ (.cells #[.int .i64 1, .bool false, .int .u64 9223372036854775808, .int .i64 (-63)] 24)))
  have X5 := Bo.new w2 #[.int .i64 1, .bool false, .int .u64 9223372036854775808, .int .i64 (-63)] 24
  generalize hWn : World.alloc w2 (.cells #[.int .i64 1, .bool false, .int .u64 9223372036854775808, .int .i64 (-63)] 24) = w3 at *
  clear hWn
  clear lX5
  have xX50 := X5.a 0 (.int .i64 1) rfl
  have zX50 := X5.frozen 0
  have xX51 := X5.a 1 (.bool false) rfl
  have zX51 := X5.frozen 1
  have xX52 := X5.a 2 (.int .u64 9223372036854775808) rfl
  have zX52 := X5.frozen 2
  have xX53 := X5.a 3 (.int .i64 (-63)) rfl
  have zX53 := X5.frozen 3
  go_upto_region 3 with (fail)
  clear xX50 zX50 xX51 zX51 xX52 zX52 xX53 zX53
  have SX : StN w3 (World.setCell w3 ⟨w2.heap.size, 3, none⟩ (.int .i64 (-64))) _ _ #[.int .i64 1, .bool false, .int .u64 9223372036854775808, .int .i64 (-64)] _ := StN.at4 X5 3 (.int .i64 (-64))
  replace X1 := X1.stn SX (by omega)
  replace XR := XR.stn SX (by omega)
  replace HB := Lib.hid (SX.below HB.out (by omega))
  replace X5 := SX.box
  clear SX
  generalize World.setCell w3 ⟨w2.heap.size, 3, none⟩ (.int .i64 (-64)) = w4 at *
  have xX10 := X1.a 0 (.int .i64 D) rfl
  have xX11 := X1.a 1 (.bool s) rfl
  have xX12 := X1.a 2 (.int .u64 M) rfl
  have xX13 := X1.a 3 (.int .i64 E) rfl
  have xX50 := X5.a 0 (.int .i64 1) rfl
  have xX51 := X5.a 1 (.bool false) rfl
  have xX52 := X5.a 2 (.int .u64 9223372036854775808) rfl
  have xX53 := X5.a 3 (.int .i64 (-64)) rfl
  go_wp2_with fail
  refine (aMul hM fq_hlf.top HX.out fq_hlf.rk HR.out).mono ?_
  rintro ee w5 ⟨K2, s2, M2, E2, rfl, q2, B⟩
  clear xX10 xX11 xX12 xX13 xX50 xX51 xX52 xX53
  replace X1 := X1.below B
  replace XR := XR.below B
  replace X5 := X5.below B
  replace HB := Lib.hid (bt HB.out B)
  clear B
  have xXR0 := XR.a 0 (.int .i64 0) rfl
  have zXR0 := XR.frozen 0
  have xXR1 := XR.a 1 (.bool false) rfl
  have zXR1 := XR.frozen 1
  have xXR2 := XR.a 2 (.int .u64 0) rfl
  have zXR2 := XR.frozen 2
  have xXR3 := XR.a 3 (.int .i64 0) rfl
  have zXR3 := XR.frozen 3
  go_wp2
  clear xXR0 zXR0 xXR1 zXR1 xXR2 zXR2 xXR3 zXR3
  have SX := StN.mk4 XR (.int .i64 K2) (.bool s2) (.int .u64 M2) (.int .i64 E2)
  replace X1 := X1.stn SX (by omega)
  replace X5 := X5.stn SX (by omega)
  replace HB := Lib.hid (SX.below HB.out (by omega))
  replace XR := SX.box
  clear SX
  generalize (World.setCell (World.setCell (World.setCell (World.setCell w5 ⟨w.heap.size + 1, 0, none⟩ (.int .i64 K2)) ⟨w.heap.size + 1, 1, none⟩ (.bool s2)) ⟨w.heap.size + 1, 2, none⟩ (.int .u64 M2)) ⟨w.heap.size + 1, 3, none⟩ (.int .i64 E2)) = w6 at *
  have r0 := XR.cell 0
  have r1 := XR.cell 1
  have r2 := XR.cell 2
  have r3 := XR.cell 3
  exact bodyPost_ret (v := .agg #[.int .i64 K2, .bool s2, .int .u64 M2, .int .i64 E2]) (by simp [results, Tryd.results23, go_sem, r0, r1, r2, r3]) rfl ⟨_, _, _, _, rfl, q2, HB.out⟩
end Go.Proofs.YtpmakljahhhnfaaDoor

/-
  What every statement of layer 6 begins with: the chapter's examples, and the test of exponents.
-/
namespace Go.Proofs.YtpmakljahhhnfaaDoor
open Go.RowKit
set_option linter.unusedVariables false
set_option linter.unusedSimpArgs false
set_option maxRecDepth 100000

/-- Is its exponent from -1500 to 1500, or has it none? -/
def fewq (D E : Int) : Bool := decide (D ≠ 1) || (decide (-1500 ≤ E) && decide (E ≤ 1500))
end Go.Proofs.YtpmakljahhhnfaaDoor

/-
  What the statements of layer 6 rest on: products by what is below nought, twice and half, sums on the way, both sides of exact sums and products. Plain arithmetic; no Go text.
-/
namespace Go.Proofs.YtpmakljahhhnfaaDoor
open Go.RowKit
set_option linter.unusedVariables false

/-- Neither too far nor too near, or infinite. -/
def Fz (x : Int) (h : Nat) : Prop := infp x = true ∨ Fit h (ep x)
theorem Fz.mono {x : Int} {h k : Nat} (f : Fz x h) (hk : h ≤ k) : Fz x k := f.imp id fun g => g.mono hk
theorem Fz.zero (h : Nat) : Fz 0 h := .inr (by rw [ep_zero]; exact Fit.zero h)
theorem few_fz {D : Int} {s : Bool} {M E : Int} (hM : M < 18446744073709551616) (hf : fewq D E = true) : Fz (rk D s M E) 1600 := by
  by_cases hm : MayQ D s M E
  · have q := rk_fq hM hm
    revert q
    generalize rk D s M E = x
    intro q
    rcases q.cases with ⟨_, _, _, _, h0⟩ | ⟨rfl, h1, h2, h3, h4, _⟩ | ⟨rfl, _⟩
    · subst h0
      exact Fz.zero _
    · obtain ⟨_, hb, he⟩ := fq_fin q (by decide)
      have hb2 : -1500 ≤ E ∧ E ≤ 1500 := by
        unfold fewq at hf
        simpa using hf
      right
      rw [← he]
      unfold exq
      rw [if_pos hb]
      obtain ⟨η, hη⟩ : ∃ η : Nat, η = 1600 := ⟨_, rfl⟩
      rw [← hη]
      refine (mk_fit (h := η) (by omega) (by omega) ?_).1
      rw [sgi_abs s (by omega)]
      have : M.toNat < 2 ^ 64 := by omega
      have := Nat.mul_lt_mul_of_pos_right this (Nat.pow_pos (n := (E + (η : Int)).toNat) (show 0 < 2 by decide))
      rw [← Nat.pow_add] at this
      exact Nat.lt_of_lt_of_le this (Nat.pow_le_pow_right (by decide) (by omega))
    · left
      rw [fq_inf q]
      rfl
  · rw [rk_not hm]
    exact Fz.zero _
theorem huge_ge {h : Nat} (hh : h ≤ 1000000) : (2 : Int) ^ h * 2 ^ KK ≤ vr 19342822337206103650074624 := by
  have e := vp_fin (M := 18446744073709551615) (E := 1048576) (by decide) (by decide) (by decide)
  rw [show (18446744073709551615 : Int) - 9223372036854775808 + 1 + (1048576 + 1048576) * 9223372036854775808 = 19342822337206103650074624 by decide] at e
  have ev : vr 19342822337206103650074624 = vp 19342822337206103650074624 := by
    unfold vr
    rw [if_neg (by decide)]
  rw [ev, e, ← Int.pow_add]
  have l1 := p2_le (show h + KK ≤ (1048576 + (KK : Int)).toNat by rw [KK_eq]; omega)
  have l2 := p2pos (1048576 + (KK : Int)).toNat
  have l3 : (1 : Int) * 2 ^ (1048576 + (KK : Int)).toNat ≤ 18446744073709551615 * 2 ^ (1048576 + (KK : Int)).toNat := Int.mul_le_mul_of_nonneg_right (by decide) (Int.le_of_lt l2)
  omega
end Go.Proofs.YtpmakljahhhnfaaDoor

/-
  Places next to a quotient, by worth alone: unique, rising; what is rounded of a number that lies between the same two. Plain arithmetic; no Go text.
-/
namespace Go.Proofs.YtpmakljahhhnfaaDoor
open Go.RowKit
set_option linter.unusedVariables false

/-- The place of the greatest number that is not above A / B, and of the least that is not below it (B above nought). -/
def DnQ (A B r : Int) : Prop := -19342822337206103650074625 ≤ r ∧ r ≤ 19342822337206103650074624 ∧ (-19342822337206103650074625 < r → vr r * B ≤ A) ∧ (r < 19342822337206103650074624 → A < vr (r + 1) * B)
def UpQ (A B r : Int) : Prop := DnQ (-A) B (-r)
def Sid (up : Bool) (A B r : Int) : Prop := if up = true then UpQ A B r else DnQ A B r
theorem sid_f {A B r : Int} : Sid false A B r = DnQ A B r := if_neg (by decide)
theorem sid_t {A B r : Int} : Sid true A B r = UpQ A B r := if_pos rfl
theorem DnQ.mono {A B C D r t : Int} (hB : 0 < B) (hD : 0 < D) (h : DnQ A B r) (k : DnQ C D t) (hAC : A * D ≤ C * B) : r ≤ t := by
  obtain ⟨h1, h2, h3, h4⟩ := h
  obtain ⟨k1, k2, k3, k4⟩ := k
  rcases Int.lt_or_le t r with q | q
  · exfalso
    have a := h3 (by omega)
    have b := k4 (by omega)
    have c : vr (t + 1) ≤ vr r := vr_le (by omega)
    have a2 : vr r * B * D ≤ A * D := Int.mul_le_mul_of_nonneg_right a (Int.le_of_lt hD)
    have b2 : C * B < vr (t + 1) * D * B := Int.mul_lt_mul_of_pos_right b hB
    have c2 : vr (t + 1) * (D * B) ≤ vr r * (D * B) := Int.mul_le_mul_of_nonneg_right c (Int.le_of_lt (Int.mul_pos hD hB))
    rw [Int.mul_assoc, Int.mul_comm B D] at a2
    rw [Int.mul_assoc] at b2
    omega
  · exact q
theorem DnQ.uniq {A B r t : Int} (hB : 0 < B) (h : DnQ A B r) (k : DnQ A B t) : r = t := by
  have a := h.mono hB hB k (Int.le_refl _)
  have b := k.mono hB hB h (Int.le_refl _)
  omega
theorem Sid.uniq {up : Bool} {A B r t : Int} (hB : 0 < B) (h : Sid up A B r) (k : Sid up A B t) : r = t := by
  cases up
  · rw [sid_f] at h k
    exact h.uniq hB k
  · rw [sid_t] at h k
    have := DnQ.uniq hB h k
    omega
theorem Sid.mono {up : Bool} {A B C D r t : Int} (hB : 0 < B) (hD : 0 < D) (h : Sid up A B r) (k : Sid up C D t) (hAC : A * D ≤ C * B) : r ≤ t := by
  cases up
  · rw [sid_f] at h k
    exact h.mono hB hD k hAC
  · rw [sid_t] at h k
    have := DnQ.mono hD hB k h (by rw [Int.neg_mul, Int.neg_mul]; omega)
    omega
/-- Of the opposite, to the other side, the opposite. -/
theorem Sid.neg {up : Bool} {A B r : Int} (h : Sid up A B r) : Sid (!up) (-A) B (-r) := by
  cases up
  · rw [sid_f] at h
    rw [show (!false) = true from rfl, sid_t]
    unfold UpQ
    rw [Int.neg_neg, Int.neg_neg]
    exact h
  · rw [sid_t] at h
    rw [show (!true) = false from rfl, sid_f]
    exact h
theorem sid_sgi {s up : Bool} {A B r : Int} (h : Sid (up != s) A B r) : Sid up (sgi s A) B (sgi s r) := by
  cases s
  · rw [wsg_f, wsg_f]
    cases up <;> exact h
  · rw [wsg_t, wsg_t]
    have h2 : Sid (!up) A B r := by cases up <;> exact h
    have := h2.neg
    rwa [Bool.not_not] at this
theorem Sid.bd {up : Bool} {A B r : Int} (h : Sid up A B r) : -19342822337206103650074625 ≤ r ∧ r ≤ 19342822337206103650074625 := by
  cases up
  · rw [sid_f] at h
    have := h.1; have := h.2.1
    omega
  · rw [sid_t] at h
    have := h.1; have := h.2.1
    omega
/-- There is one. -/
theorem last_yes (p : Nat → Prop) (h0 : p 0) : ∀ n, ¬ p n → ∃ k, k < n ∧ p k ∧ ¬ p (k + 1)
  | 0, h => absurd h0 h
  | n + 1, h => by
    by_cases q : p n
    · exact ⟨n, Nat.lt_succ_self _, q, h⟩
    · obtain ⟨k, a, b, c⟩ := last_yes p h0 n q
      exact ⟨k, Nat.lt_succ_of_lt a, b, c⟩
theorem dnq_ex (A : Int) {B : Int} (hB : 0 < B) : ∃ r, DnQ A B r := by
  obtain ⟨n, hn⟩ : ∃ n : Nat, (n : Int) = 38685644674412207300149250 := ⟨38685644674412207300149250, rfl⟩
  obtain ⟨k, hk, a, b⟩ := last_yes (fun k => k = 0 ∨ ((k : Int) ≤ 38685644674412207300149249 ∧ vr ((k : Int) - 19342822337206103650074625) * B ≤ A)) (.inl rfl) n (by omega)
  refine ⟨(k : Int) - 19342822337206103650074625, by omega, by omega, fun h => ?_, fun h => ?_⟩
  · rcases a with a | a
    · omega
    · exact a.2
  · have c : ¬ vr (((k + 1 : Nat) : Int) - 19342822337206103650074625) * B ≤ A := fun c => b (.inr ⟨by omega, c⟩)
    rw [show ((k + 1 : Nat) : Int) - 19342822337206103650074625 = (k : Int) - 19342822337206103650074625 + 1 by omega] at c
    omega
theorem sid_ex (up : Bool) (A : Int) {B : Int} (hB : 0 < B) : ∃ r, Sid up A B r := by
  cases up
  · obtain ⟨r, h⟩ := dnq_ex A hB
    exact ⟨r, by rw [sid_f]; exact h⟩
  · obtain ⟨r, h⟩ := dnq_ex (-A) hB
    refine ⟨-r, ?_⟩
    rw [sid_t]
    unfold UpQ
    rw [Int.neg_neg]
    exact h
/-- By a worth that lies between the same two. -/
theorem DnQ.of_dn {X A B a b r : Int} (hB : 0 < B) (h : Dn X r) (h1 : a < X) (h2 : X < b) (h3 : a * B < A) (h4 : A < b * B) (hs : ∀ s, ¬ (a < vr s ∧ vr s < b)) : DnQ A B r := by
  obtain ⟨d1, d2, d3, d4⟩ := h
  refine ⟨d1, d2, fun k => ?_, fun k => ?_⟩
  · have e := d3 k
    have n := hs r
    have l : vr r ≤ a := by omega
    have := Int.mul_le_mul_of_nonneg_right l (Int.le_of_lt hB)
    omega
  · have e := d4 k
    have n := hs (r + 1)
    have l : b ≤ vr (r + 1) := by omega
    have := Int.mul_le_mul_of_nonneg_right l (Int.le_of_lt hB)
    omega
theorem DnQ.of_eq {X A B r : Int} (hB : 0 < B) (h : Dn X r) (e : X * B = A) : DnQ A B r := by
  obtain ⟨d1, d2, d3, d4⟩ := h
  subst e
  exact ⟨d1, d2, fun k => Int.mul_le_mul_of_nonneg_right (d3 k) (Int.le_of_lt hB), fun k => Int.mul_lt_mul_of_pos_right (d4 k) hB⟩
theorem sid_of {P : Int × Int} {A B a b : Int} (up : Bool) (hP : Nf P) (hB : 0 < B) (h1 : a < vl P) (h2 : vl P < b) (h3 : a * B < A) (h4 : A < b * B) (hs : ∀ s, ¬ (a < vr s ∧ vr s < b)) : Sid up A B (rnd up P.1 P.2) := by
  obtain ⟨p1, p2⟩ := rnd_spec hP
  cases up
  · rw [sid_f]
    exact DnQ.of_dn hB p1 h1 h2 h3 h4 hs
  · rw [sid_t]
    refine DnQ.of_dn (a := -b) (b := -a) hB p2 (by omega) (by omega) (by rw [Int.neg_mul]; omega) (by rw [Int.neg_mul]; omega) (fun s => ?_)
    have := hs (-s)
    rw [vr_neg] at this
    omega
theorem sid_eq {P : Int × Int} {A B : Int} (up : Bool) (hP : Nf P) (hB : 0 < B) (e : vl P * B = A) : Sid up A B (rnd up P.1 P.2) := by
  obtain ⟨p1, p2⟩ := rnd_spec hP
  cases up
  · rw [sid_f]
    exact DnQ.of_eq hB p1 e
  · rw [sid_t]
    exact DnQ.of_eq hB p2 (by rw [Int.neg_mul]; omega)
/-- Far enough from nought no place lies between two even multiples. -/
theorem no_placeQ {i : Int} {u : Nat} (hi : 9223372036854775808 ≤ i) (s : Int) : ¬ (2 * i * 2 ^ u < vr s ∧ vr s < (2 * i + 2) * 2 ^ u) := by
  rintro ⟨h1, h2⟩
  have hu := p2pos u
  have hpos : 0 < vr s := Int.lt_of_le_of_lt (Int.mul_nonneg (by omega) (Int.le_of_lt hu)) h1
  have hs : 0 < s := by
    rcases Int.lt_or_le 0 s with q | q
    · exact q
    · exfalso
      have := vr_le q
      rw [show vr 0 = 0 from rfl] at this
      omega
  have e0 : vr s = ((s - 1) % 9223372036854775808 + 9223372036854775808) * 2 ^ ((s - 1) / 9223372036854775808 - 1048576 + KK).toNat := by
    unfold vr vp
    rw [if_neg (by omega), if_neg (by omega)]
  obtain ⟨M, hM⟩ : ∃ M, (s - 1) % 9223372036854775808 + 9223372036854775808 = M := ⟨_, rfl⟩
  obtain ⟨t, ht⟩ : ∃ t, ((s - 1) / 9223372036854775808 - 1048576 + (KK : Int)).toNat = t := ⟨_, rfl⟩
  rw [hM, ht] at e0
  have hMl : M < 18446744073709551616 := by omega
  rw [e0] at h1 h2
  clear e0 hM ht hs hpos
  rcases Nat.lt_or_ge u t with q | q
  · obtain ⟨d, rfl⟩ : ∃ d, t = u + 1 + d := ⟨t - (u + 1), by omega⟩
    have e1 : M * 2 ^ (u + 1 + d) = M * 2 ^ d * 2 * 2 ^ u := by
      rw [Int.pow_add, Int.pow_succ]
      generalize (2 : Int) ^ u = U
      generalize (2 : Int) ^ d = D
      rw [Int.mul_assoc M D 2, Int.mul_assoc M, Int.mul_comm U 2, Int.mul_comm (2 * U) D, Int.mul_assoc D 2 U]
    rw [e1] at h1 h2
    have a1 := Int.lt_of_mul_lt_mul_right h1 (Int.le_of_lt hu)
    have a2 := Int.lt_of_mul_lt_mul_right h2 (Int.le_of_lt hu)
    omega
  · obtain ⟨d, rfl⟩ : ∃ d, u = t + d := ⟨u - t, by omega⟩
    have ht := p2pos t
    have hd := p2pos d
    rw [Int.pow_add] at h1
    have l1 : (2 : Int) ^ t * 1 ≤ 2 ^ t * 2 ^ d := Int.mul_le_mul_of_nonneg_left hd (Int.le_of_lt ht)
    rw [Int.mul_one] at l1
    have l2 : 2 * i * (2 : Int) ^ t ≤ 2 * i * (2 ^ t * 2 ^ d) := Int.mul_le_mul_of_nonneg_left l1 (by omega)
    have a1 := Int.lt_of_mul_lt_mul_right (Int.lt_of_le_of_lt l2 h1) (Int.le_of_lt ht)
    omega
theorem mk_vlB {z e : Int} (h : z.natAbs < 2 ^ 500000) (h1 : -3000000 ≤ e) (h2 : e ≤ 3000000) : vl (mk z e) = z * 2 ^ (e + KK).toNat := by
  obtain ⟨η, hη⟩ : ∃ η : Nat, η = 4000000 := ⟨_, rfl⟩
  refine (mk_fit (h := η) (by omega) (by omega) ?_).2
  obtain ⟨κ, hκ⟩ : ∃ κ : Nat, κ = 500000 := ⟨_, rfl⟩
  rw [← hκ] at h
  have := Nat.mul_lt_mul_of_pos_right h (Nat.pow_pos (n := (e + (η : Int)).toNat) (show 0 < 2 by decide))
  rw [← Nat.pow_add] at this
  exact Nat.lt_of_lt_of_le this (Nat.pow_le_pow_right (by decide) (by omega))
/-- A quotient's bits, and one more that tells whether something is left. -/
def stk (q r : Nat) : Nat := 2 * q + if r = 0 then 0 else 1
/-- A quotient of natural numbers, rounded by its first bits and what is left. -/
theorem quo_side {α β : Nat} {e : Int} {n κ : Nat} (up : Bool) (hβ : 0 < β) (hq0 : α ≠ 0 → 9223372036854775808 ≤ α * 2 ^ n / β) (hκ : κ = 500000) (hs : stk (α * 2 ^ n / β) (α * 2 ^ n % β) < 2 ^ κ) (h1 : -2900000 ≤ e - n) (h2 : e ≤ 2900000) :
    Sid up ((α : Int) * 2 ^ (e + KK).toNat) (β : Int) (rnd up (mk ((stk (α * 2 ^ n / β) (α * 2 ^ n % β) : Nat) : Int) (e - n - 1)).1 (mk ((stk (α * 2 ^ n / β) (α * 2 ^ n % β) : Nat) : Int) (e - n - 1)).2) := by
  have hk := KK_eq
  have hb0 : (0 : Int) < (β : Int) := by omega
  have nf := mk_nf ((stk (α * 2 ^ n / β) (α * 2 ^ n % β) : Nat) : Int) (e - n - 1)
  have ev := mk_vlB (z := ((stk (α * 2 ^ n / β) (α * 2 ^ n % β) : Nat) : Int)) (e := e - n - 1) (by rw [Int.natAbs_natCast, ← hκ]; exact hs) (by omega) (by omega)
  obtain ⟨u, hu⟩ : ∃ u : Nat, (e - n - 1 + (KK : Int)).toNat = u := ⟨_, rfl⟩
  have e1 : (e + (KK : Int)).toNat = n + (1 + u) := by omega
  rw [hu] at ev
  rw [e1, Int.pow_add, Int.pow_add, show (2 : Int) ^ 1 = 2 from rfl, ← Int.mul_assoc]
  have hd := Nat.div_add_mod (α * 2 ^ n) β
  have hm := Nat.mod_lt (α * 2 ^ n) hβ
  have hpu := p2pos u
  have hcast : ((α * 2 ^ n : Nat) : Int) = (α : Int) * 2 ^ n := by push_cast; rfl
  by_cases ha : α = 0
  · subst ha
    have e2 : stk (0 * 2 ^ n / β) (0 * 2 ^ n % β) = 0 := by
      rw [Nat.zero_mul, Nat.zero_div, Nat.zero_mod]
      rfl
    rw [e2] at ev nf ⊢
    refine sid_eq up nf hb0 ?_
    rw [ev]
    show (((0 : Nat) : Int)) * 2 ^ u * (β : Int) = ((0 : Nat) : Int) * 2 ^ n * (2 * 2 ^ u)
    rw [show (((0 : Nat) : Int)) = 0 from rfl, Int.zero_mul, Int.zero_mul, Int.zero_mul, Int.zero_mul]
  · have hq := hq0 ha
    clear hq0
    clear hs
    rw [← hcast]
    clear hcast
    generalize α * 2 ^ n = X at ev nf hd hm hq ⊢
    generalize X / β = q at ev nf hd hq ⊢
    generalize X % β = r at ev nf hd hm ⊢
    have hdI : (β : Int) * (q : Int) + (r : Int) = (X : Int) := by exact_mod_cast hd
    by_cases hr : r = 0
    · have e3 : stk q r = 2 * q := by
        unfold stk
        rw [if_pos hr]
        omega
      rw [e3] at ev nf ⊢
      refine sid_eq up nf hb0 ?_
      rw [ev, ← hdI, hr]
      show (((2 * q : Nat)) : Int) * 2 ^ u * (β : Int) = ((β : Int) * (q : Int) + ((0 : Nat) : Int)) * (2 * 2 ^ u)
      push_cast
      generalize (2 : Int) ^ u = U
      rw [Int.add_zero, Int.mul_assoc, Int.mul_comm U, Int.mul_assoc 2, ← Int.mul_assoc (q : Int), Int.mul_comm (q : Int), Int.mul_left_comm]
    · have e3 : stk q r = 2 * q + 1 := by
        unfold stk
        rw [if_neg hr]
      rw [e3] at ev nf ⊢
      have c1 : (((2 * q + 1 : Nat)) : Int) = 2 * (q : Int) + 1 := by omega
      have c2 : (2 * (q : Int) * 2 ^ u) * (β : Int) = (β : Int) * (q : Int) * (2 * 2 ^ u) := by
        generalize (2 : Int) ^ u = U
        rw [Int.mul_right_comm, Int.mul_comm 2 (q : Int), Int.mul_assoc (q : Int) 2, Int.mul_comm 2 (β : Int), ← Int.mul_assoc (q : Int), Int.mul_comm (q : Int), Int.mul_assoc]
      have c3 : ((2 * (q : Int) + 2) * 2 ^ u) * (β : Int) = ((β : Int) * (q : Int) + (β : Int)) * (2 * 2 ^ u) := by
        rw [show 2 * (q : Int) + 2 = 2 * ((q : Int) + 1) by omega, show (β : Int) * (q : Int) + (β : Int) = (β : Int) * ((q : Int) + 1) by rw [Int.mul_add, Int.mul_one]]
        generalize (2 : Int) ^ u = U
        generalize (q : Int) + 1 = p
        rw [Int.mul_right_comm, Int.mul_comm 2 p, Int.mul_assoc p 2, Int.mul_comm 2 (β : Int), ← Int.mul_assoc p, Int.mul_comm p, Int.mul_assoc]
      have h2u : (0 : Int) < 2 * 2 ^ u := by omega
      refine sid_of up nf hb0 (a := 2 * (q : Int) * 2 ^ u) (b := (2 * (q : Int) + 2) * 2 ^ u) ?_ ?_ ?_ ?_ (no_placeQ (by omega))
      · rw [ev, c1]
        exact Int.mul_lt_mul_of_pos_right (by omega) hpu
      · rw [ev, c1]
        exact Int.mul_lt_mul_of_pos_right (by omega) hpu
      · rw [c2]
        exact Int.mul_lt_mul_of_pos_right (by omega) h2u
      · rw [c3]
        exact Int.mul_lt_mul_of_pos_right (by omega) h2u
end Go.Proofs.YtpmakljahhhnfaaDoor

/-
  Places next to a root, by worth alone; what quotients and roots have to do with their neighbours, ones, opposites. Plain arithmetic; no Go text.
-/
namespace Go.Proofs.YtpmakljahhhnfaaDoor
open Go.RowKit
set_option linter.unusedVariables false

theorem sid_exact {up : Bool} {A B r : Int} (hB : 0 < B) (h1 : -19342822337206103650074625 < r) (h2 : r < 19342822337206103650074625) (e : vr r * B = A) : Sid up A B r := by
  cases up
  · rw [sid_f]
    exact DnQ.of_eq hB (dn_self h1 h2) e
  · rw [sid_t]
    refine DnQ.of_eq hB (dn_self (r := -r) (by omega) (by omega)) ?_
    rw [vr_neg, Int.neg_mul, e]
/-- Both sides are one, or neighbours. -/
theorem sid_two {A B r t : Int} (hB : 0 < B) (h : Sid false A B r) (k : Sid true A B t) : (t = r ∧ vr r * B = A ∧ -19342822337206103650074625 < r ∧ r < 19342822337206103650074625) ∨ (t = r + 1 ∧ (-19342822337206103650074625 < r → vr r * B < A) ∧ (t < 19342822337206103650074625 → A < vr t * B)) := by
  rw [sid_f] at h
  rw [sid_t] at k
  obtain ⟨h1, h2, h3, h4⟩ := h
  obtain ⟨k1, k2, k3, k4⟩ := k
  have k3' : t < 19342822337206103650074625 → A ≤ vr t * B := fun c => by
    have := k3 (by omega)
    rw [vr_neg, Int.neg_mul] at this
    omega
  have k4' : -19342822337206103650074624 < t → vr (t - 1) * B < A := fun c => by
    have := k4 (by omega)
    rw [show -t + 1 = -(t - 1) by omega, vr_neg, Int.neg_mul] at this
    omega
  have mul_le : ∀ a b : Int, a ≤ b → vr a * B ≤ vr b * B := fun a b c => Int.mul_le_mul_of_nonneg_right (vr_le c) (Int.le_of_lt hB)
  have hrt : r ≤ t := by
    rcases Int.lt_or_le t r with q | q
    · exfalso
      have a := h3 (by omega)
      have b := k3' (by omega)
      have c : vr t * B < vr r * B := Int.mul_lt_mul_of_pos_right (vr_lt q) hB
      omega
    · exact q
  have htr : t ≤ r + 1 := by
    rcases Int.lt_or_le (r + 1) t with q | q
    · exfalso
      have a := h4 (by omega)
      have b := k4' (by omega)
      have c := mul_le (r + 1) (t - 1) (by omega)
      omega
    · exact q
  by_cases e : t = r
  · subst e
    left
    have a := h3 (by omega)
    have b := k3' (by omega)
    exact ⟨rfl, by omega, by omega, by omega⟩
  · right
    have e2 : t = r + 1 := by omega
    refine ⟨e2, fun c => ?_, fun c => ?_⟩
    · have := k4' (by omega)
      rw [e2, show r + 1 - 1 = r by omega] at this
      exact this
    · have := h4 (by omega)
      rw [← e2] at this
      exact this
/-- The quotient's place: of nought, of infinite ones, of finite ones. -/
def Qt (up : Bool) (x y r : Int) : Prop :=
  if y = 0 then r = sgi (!up) TP else if x = 0 ∨ infp y = true then r = 0 else if infp x = true then r = sgi (decide (x < 0) != decide (y < 0)) TP else Sid up (sgi (decide (y < 0)) (vr x) * 2 ^ KK) (sgi (decide (y < 0)) (vr y)) r
theorem qt_none {up : Bool} {x r : Int} (h : r = sgi (!up) TP) : Qt up x 0 r := by
  unfold Qt
  rw [if_pos rfl]
  exact h
theorem qt_zero {up : Bool} {x y r : Int} (hy : y ≠ 0) (h : x = 0 ∨ infp y = true) : Qt up x y r ↔ r = 0 := by
  unfold Qt
  rw [if_neg hy, if_pos h]
theorem qt_none' {up : Bool} {x r : Int} : Qt up x 0 r ↔ r = sgi (!up) TP := by
  unfold Qt
  rw [if_pos rfl]
theorem qt_inf {up : Bool} {x y r : Int} (hy : y ≠ 0) (h : ¬ (x = 0 ∨ infp y = true)) (hx : infp x = true) : Qt up x y r ↔ r = sgi (decide (x < 0) != decide (y < 0)) TP := by
  unfold Qt
  rw [if_neg hy, if_neg h, if_pos hx]
theorem qt_fin {up : Bool} {x y r : Int} (hy : y ≠ 0) (h : ¬ (x = 0 ∨ infp y = true)) (hx : infp x = false) : Qt up x y r ↔ Sid up (sgi (decide (y < 0)) (vr x) * 2 ^ KK) (sgi (decide (y < 0)) (vr y)) r := by
  unfold Qt
  rw [if_neg hy, if_neg h, if_neg (by rw [hx]; exact ff)]
theorem sg_vr_pos {y : Int} (hy : y ≠ 0) : 0 < sgi (decide (y < 0)) (vr y) := by
  by_cases c : y < 0
  · rw [decide_eq_true c, wsg_t]
    have := vr_pos (x := -y) (by omega)
    rw [vr_neg] at this
    exact this
  · rw [decide_eq_false c, wsg_f]
    exact vr_pos (by omega)
theorem qt_ex (up : Bool) (x y : Int) : ∃ r, Qt up x y r := by
  by_cases hy : y = 0
  · subst hy
    exact ⟨_, qt_none rfl⟩
  · by_cases h : x = 0 ∨ infp y = true
    · exact ⟨0, (qt_zero hy h).2 rfl⟩
    · cases hx : infp x
      · obtain ⟨r, hr⟩ := sid_ex up (sgi (decide (y < 0)) (vr x) * 2 ^ KK) (sg_vr_pos hy)
        exact ⟨r, (qt_fin hy h hx).2 hr⟩
      · exact ⟨_, (qt_inf hy h hx).2 rfl⟩
theorem Qt.uniq {up : Bool} {x y r t : Int} (h : Qt up x y r) (k : Qt up x y t) : r = t := by
  by_cases hy : y = 0
  · subst hy
    rw [qt_none'.1 h, qt_none'.1 k]
  · by_cases h0 : x = 0 ∨ infp y = true
    · rw [(qt_zero hy h0).1 h, (qt_zero hy h0).1 k]
    · cases hx : infp x
      · exact ((qt_fin hy h0 hx).1 h).uniq (sg_vr_pos hy) ((qt_fin hy h0 hx).1 k)
      · rw [(qt_inf hy h0 hx).1 h, (qt_inf hy h0 hx).1 k]
theorem sgi_sgi (s : Bool) (x : Int) : sgi s (sgi s x) = x := by
  cases s
  · rw [wsg_f, wsg_f]
  · rw [wsg_t, wsg_t, Int.neg_neg]
/-- The place of the greatest number that is not above the root of X, and of the least that is not below it. -/
def Rt (up : Bool) (X r : Int) : Prop :=
  if up = true then 0 < r ∧ r ≤ 19342822337206103650074625 ∧ (r < 19342822337206103650074625 → X ≤ vr r * vr r) ∧ vr (r - 1) * vr (r - 1) < X
  else 0 ≤ r ∧ r ≤ 19342822337206103650074624 ∧ vr r * vr r ≤ X ∧ (r < 19342822337206103650074624 → X < vr (r + 1) * vr (r + 1))
theorem rt_f {X r : Int} : Rt false X r ↔ (0 ≤ r ∧ r ≤ 19342822337206103650074624 ∧ vr r * vr r ≤ X ∧ (r < 19342822337206103650074624 → X < vr (r + 1) * vr (r + 1))) := by
  unfold Rt
  rw [if_neg ff]
theorem rt_t {X r : Int} : Rt true X r ↔ (0 < r ∧ r ≤ 19342822337206103650074625 ∧ (r < 19342822337206103650074625 → X ≤ vr r * vr r) ∧ vr (r - 1) * vr (r - 1) < X) := by
  unfold Rt
  rw [if_pos rfl]
theorem sq_le {a b : Int} (h0 : 0 ≤ a) (h : a ≤ b) : a * a ≤ b * b := Int.mul_le_mul h h h0 (by omega)
theorem sq_lt {a b : Int} (h0 : 0 ≤ a) (h : a < b) : a * a < b * b := by
  have h1 : a * a ≤ a * b := Int.mul_le_mul_of_nonneg_left (by omega) h0
  have h2 : a * b < b * b := Int.mul_lt_mul_of_pos_right h (by omega)
  omega
theorem vr_sq {r t : Int} (h0 : 0 ≤ r) (h : r ≤ t) : vr r * vr r ≤ vr t * vr t := sq_le (vr_nn h0) (vr_le h)
theorem Rt.uniq {up : Bool} {X r t : Int} (h : Rt up X r) (k : Rt up X t) : r = t := by
  have key : ∀ {r t}, Rt up X r → Rt up X t → ¬ r < t := by
    intro r t h k c
    cases up
    · obtain ⟨h1, h2, h3, h4⟩ := rt_f.1 h
      obtain ⟨k1, k2, k3, k4⟩ := rt_f.1 k
      have a := h4 (by omega)
      have b := vr_sq (r := r + 1) (t := t) (by omega) (by omega)
      omega
    · obtain ⟨h1, h2, h3, h4⟩ := rt_t.1 h
      obtain ⟨k1, k2, k3, k4⟩ := rt_t.1 k
      have a := h3 (by omega)
      have b := vr_sq (r := r) (t := t - 1) (by omega) (by omega)
      omega
  have a := key h k
  have b := key k h
  omega
theorem rt_core {P : Int × Int} {Y V W : Int} (up : Bool) (nf : Nf P) (V0 : 0 < V) (h : (vl P = V ∧ Y = V * V) ∨ (V < vl P ∧ vl P < W ∧ V * V < Y ∧ Y < W * W ∧ ∀ s, ¬ (V < vr s ∧ vr s < W))) : Rt up Y (rnd up P.1 P.2) := by
  have hz := dn_self (r := 0) (by decide) (by decide)
  rw [show vr 0 = 0 from rfl] at hz
  have hP : 0 < vl P := by rcases h with ⟨a, _⟩ | ⟨a, _⟩ <;> omega
  cases up
  · have r1 := (rnd_spec nf).1
    rw [rt_f]
    generalize vl P = X at h hP r1
    generalize rnd false P.1 P.2 = r at r1 ⊢
    have r0 := hz.mono r1 (Int.le_of_lt hP)
    obtain ⟨d1, d2, d3, d4⟩ := r1
    have e3 := d3 (by omega)
    have n0 := vr_nn r0
    refine ⟨r0, d2, ?_, fun c => ?_⟩
    · rcases h with ⟨a, b⟩ | ⟨a, b, c, d, e⟩
      · rw [b]
        exact sq_le n0 (by omega)
      · have := e r
        have := sq_le (a := vr r) (b := V) n0 (by omega)
        omega
    · have e4 := d4 c
      rcases h with ⟨a, b⟩ | ⟨a, b, c, d, e⟩
      · rw [b]
        exact sq_lt (Int.le_of_lt V0) (by omega)
      · have := e (r + 1)
        have := sq_le (a := W) (b := vr (r + 1)) (by omega) (by omega)
        omega
  · have r2 := (rnd_spec nf).2
    rw [rt_t]
    generalize vl P = X at h hP r2
    generalize rnd true P.1 P.2 = r at r2 ⊢
    obtain ⟨d1, d2, d3, d4⟩ := r2
    have r0 : 0 < r := by
      rcases Int.lt_or_le 0 r with q | q
      · exact q
      · exfalso
        have b := d3 (by omega)
        rw [vr_neg] at b
        have := vr_le q
        rw [show vr 0 = 0 from rfl] at this
        omega
    have n0 := vr_nn (x := r - 1) (by omega)
    refine ⟨r0, by omega, fun c => ?_, ?_⟩
    · have b := d3 (by omega)
      rw [vr_neg] at b
      rcases h with ⟨a, b2⟩ | ⟨a, b2, c, d, e⟩
      · rw [b2]
        exact sq_le (Int.le_of_lt V0) (by omega)
      · have := e r
        have := sq_le (a := W) (b := vr r) (by omega) (by omega)
        omega
    · have b := d4 (by omega)
      rw [show -r + 1 = -(r - 1) by omega, vr_neg] at b
      rcases h with ⟨a, b2⟩ | ⟨a, b2, c, d, e⟩
      · rw [b2]
        exact sq_lt n0 (by omega)
      · have := e (r - 1)
        have := sq_le (a := vr (r - 1)) (b := V) n0 (by omega)
        omega
/-- A natural number's root, rounded by its first bits and what is left. -/
theorem root_side {N s d : Nat} {e f : Int} {n κ : Nat} (up : Bool) (hs : s * s + d = N * 2 ^ n) (hs2 : N * 2 ^ n < (s + 1) * (s + 1)) (hb : 9223372036854775808 ≤ s) (hf : 2 * f = e - n) (hκ : κ = 500000) (hm : stk s d < 2 ^ κ) (h1 : -2900000 ≤ f) (h2 : f ≤ 2900000) (h3 : -4000000 ≤ e) (h4 : e ≤ 4000000) :
    Rt up ((N : Int) * 2 ^ (e + 2 * KK).toNat) (rnd up (mk ((stk s d : Nat) : Int) (f - 1)).1 (mk ((stk s d : Nat) : Int) (f - 1)).2) := by
  have hk := KK_eq
  have nf := mk_nf ((stk s d : Nat) : Int) (f - 1)
  have ev := mk_vlB (z := ((stk s d : Nat) : Int)) (e := f - 1) (by rw [Int.natAbs_natCast, ← hκ]; exact hm) (by omega) (by omega)
  obtain ⟨u, hu⟩ : ∃ u : Nat, (f - 1 + (KK : Int)).toNat = u := ⟨_, rfl⟩
  have e1 : (e + 2 * (KK : Int)).toNat = n + (1 + u + (1 + u)) := by omega
  rw [hu] at ev
  have hpu := p2pos u
  have eU : (2 : Int) ^ (1 + u) = 2 * 2 ^ u := by rw [Int.pow_add]; rfl
  rw [e1, Int.pow_add, Int.pow_add, eU, ← Int.mul_assoc]
  have hcast : ((N * 2 ^ n : Nat) : Int) = (N : Int) * 2 ^ n := by push_cast; rfl
  rw [← hcast]
  clear hcast e1 hu eU hm
  generalize N * 2 ^ n = X at hs hs2 ⊢
  obtain ⟨S, hS⟩ : ∃ S : Int, (s : Int) = S := ⟨_, rfl⟩
  have c1 : S * S + (d : Int) = (X : Int) := by rw [← hS]; exact_mod_cast hs
  have c2 : (X : Int) < (S + 1) * (S + 1) := by rw [← hS]; exact_mod_cast hs2
  have sq : ∀ a : Int, (a * (2 * 2 ^ u)) * (a * (2 * 2 ^ u)) = a * a * (2 * 2 ^ u * (2 * 2 ^ u)) := fun a => by
    generalize (2 : Int) ^ u = U
    rw [Int.mul_assoc a (2 * U), ← Int.mul_assoc (2 * U) a, Int.mul_comm (2 * U) a, Int.mul_assoc a (2 * U) (2 * U), ← Int.mul_assoc a a]
  have hW : 0 < 2 * (2 : Int) ^ u * (2 * 2 ^ u) := Int.mul_pos (by omega) (by omega)
  have p0 : 0 < S * (2 * 2 ^ u) := Int.mul_pos (by omega) (by omega)
  have g1 : 2 * S * 2 ^ u = S * (2 * 2 ^ u) := by rw [Int.mul_comm 2 S, Int.mul_assoc]
  have g2 : (2 * S + 2) * 2 ^ u = (S + 1) * (2 * 2 ^ u) := by rw [show 2 * S + 2 = (S + 1) * 2 by omega, Int.mul_assoc]
  by_cases hd : d = 0
  · have e3 : stk s d = 2 * s := by
      unfold stk
      rw [if_pos hd]
      omega
    rw [e3] at ev nf ⊢
    refine rt_core (W := 0) up nf p0 (.inl ⟨?_, ?_⟩)
    · rw [ev, ← g1, ← hS]
      push_cast
      rfl
    · rw [sq]
      congr 1
      omega
  · have e3 : stk s d = 2 * s + 1 := by
      unfold stk
      rw [if_neg hd]
    rw [e3] at ev nf ⊢
    have ev2 : vl (mk ((2 * s + 1 : Nat) : Int) (f - 1)) = (2 * S + 1) * 2 ^ u := by
      rw [ev, ← hS]
      push_cast
      rfl
    refine rt_core (W := (2 * S + 2) * 2 ^ u) up nf p0 (.inr ⟨?_, ?_, ?_, ?_, ?_⟩)
    · rw [ev2, ← g1]
      exact Int.mul_lt_mul_of_pos_right (by omega) hpu
    · rw [ev2]
      exact Int.mul_lt_mul_of_pos_right (by omega) hpu
    · rw [sq]
      exact Int.mul_lt_mul_of_pos_right (by omega) hW
    · rw [g2, sq]
      exact Int.mul_lt_mul_of_pos_right c2 hW
    · intro t
      rw [← g1]
      exact no_placeQ (by omega) t
end Go.Proofs.YtpmakljahhhnfaaDoor

/-
  Quotients, roots, ratios of numbers by the document's way: what they are by worth alone. Plain arithmetic; no Go text.
-/
namespace Go.Proofs.YtpmakljahhhnfaaDoor
open Go.RowKit
set_option linter.unusedVariables false

theorem rnd_sgi {σ up : Bool} {z e : Int} : rnd up (mk (sgi σ z) e).1 (mk (sgi σ z) e).2 = sgi σ (rnd (up != σ) (mk z e).1 (mk z e).2) := by
  cases σ
  · rw [wsg_f, wsg_f]
    cases up <;> rfl
  · rw [wsg_t, wsg_t, mk_neg]
    have h := rnd_turn (mk_nf z e) (!up)
    rw [Bool.not_not] at h
    rw [h]
    cases up <;> rfl
theorem Sid.cross {up : Bool} {A B C D r : Int} (hB : 0 < B) (hD : 0 < D) (h : Sid up A B r) (e : A * D = C * B) : Sid up C D r := by
  obtain ⟨t, ht⟩ := sid_ex up C hD
  have a := h.mono hB hD ht (Int.le_of_eq e)
  have b := ht.mono hD hB h (Int.le_of_eq e.symm)
  have c : r = t := by omega
  rw [c]
  exact ht
/-- The place of a ratio of whole numbers. -/
def Rq (up : Bool) (z y r : Int) : Prop := if y = 0 then r = sgi (!up) TP else Sid up (sgi (decide (y < 0)) z * 2 ^ KK) (sgi (decide (y < 0)) y) r
theorem rq_none {up : Bool} {z r : Int} : Rq up z 0 r ↔ r = sgi (!up) TP := by
  unfold Rq
  rw [if_pos rfl]
theorem rq_some {up : Bool} {z y r : Int} (hy : y ≠ 0) : Rq up z y r ↔ Sid up (sgi (decide (y < 0)) z * 2 ^ KK) (sgi (decide (y < 0)) y) r := by
  unfold Rq
  rw [if_neg hy]
theorem sg_pos {y : Int} (hy : y ≠ 0) : 0 < sgi (decide (y < 0)) y := by
  by_cases c : y < 0
  · rw [decide_eq_true c, wsg_t]; omega
  · rw [decide_eq_false c, wsg_f]; omega
theorem rq_ex (up : Bool) (z y : Int) : ∃ r, Rq up z y r := by
  by_cases hy : y = 0
  · subst hy
    exact ⟨_, rq_none.2 rfl⟩
  · obtain ⟨r, hr⟩ := sid_ex up (sgi (decide (y < 0)) z * 2 ^ KK) (sg_pos hy)
    exact ⟨r, (rq_some hy).2 hr⟩
theorem Rq.uniq {up : Bool} {z y r t : Int} (h : Rq up z y r) (k : Rq up z y t) : r = t := by
  by_cases hy : y = 0
  · subst hy
    rw [rq_none.1 h, rq_none.1 k]
  · exact ((rq_some hy).1 h).uniq (sg_pos hy) ((rq_some hy).1 k)
theorem Rq.mono {up : Bool} {z y z' y' r t : Int} (hy : 0 < y) (hy' : 0 < y') (h : Rq up z y r) (k : Rq up z' y' t) (hle : z * y' ≤ z' * y) : r ≤ t := by
  have a := (rq_some (by omega)).1 h
  have b := (rq_some (by omega)).1 k
  rw [decide_eq_false (by omega), wsg_f, wsg_f] at a b
  refine a.mono hy hy' b ?_
  have := Int.mul_le_mul_of_nonneg_right hle (Int.le_of_lt (p2pos KK))
  rw [Int.mul_right_comm z, Int.mul_right_comm z']
  exact this
theorem Rq.neg {up : Bool} {z y r : Int} (hy : 0 < y) (h : Rq up z y r) : Rq (!up) (-z) y (-r) := by
  have a := (rq_some (by omega)).1 h
  refine (rq_some (by omega)).2 ?_
  rw [decide_eq_false (by omega), wsg_f, wsg_f] at a ⊢
  rw [Int.neg_mul]
  exact a.neg
/-- By both numbers' signs and sizes. -/
theorem rq_of {up s t : Bool} {α β : Nat} {r : Int} (hβ : 0 < β) (h : Sid up (sgi (s != t) ((α : Int) * 2 ^ (0 + (KK : Int)).toNat)) (β : Int) r) : Rq up (sgi s (α : Int)) (sgi t (β : Int)) r := by
  have hy : sgi t (β : Int) ≠ 0 := by
    cases t
    · rw [wsg_f]; omega
    · rw [wsg_t]; omega
  refine (rq_some hy).2 ?_
  have ht : decide (sgi t (β : Int) < 0) = t := by
    cases t
    · rw [wsg_f]; exact decide_eq_false (by omega)
    · rw [wsg_t]; exact decide_eq_true (by omega)
  rw [ht, sgi_sgi]
  have e : sgi t (sgi s (α : Int)) * 2 ^ KK = sgi (s != t) ((α : Int) * 2 ^ (0 + (KK : Int)).toNat) := by
    rw [show (0 + (KK : Int)).toNat = KK by omega, ← sgi_mul]
    congr 1
    cases s <;> cases t
    · rfl
    · rfl
    · rfl
    · rw [show (true != true) = false from rfl, wsg_f, wsg_t, wsg_t, Int.neg_neg]
  rw [e]
  exact h
/-- The quotient of two finite numbers. -/
theorem div_side {up s t : Bool} {M1 E1 M2 E2 x y : Int} {α β v w : Nat} {r : Int} (q1 : Fq 1 s M1 E1 x) (q2 : Fq 1 t M2 E2 y) (hM1 : M1 = (α : Int) * 2 ^ v) (hM2 : M2 = (β : Int) * 2 ^ w) (hβ : 0 < β) (hv : v < 64) (hw : w < 64)
    (h : Sid up (sgi (s != t) ((α : Int) * 2 ^ (E1 - E2 + v - w + (KK : Int)).toNat)) (β : Int) r) : Qt up x y r := by
  obtain ⟨a1, a2, a3, a4, a5, a6, a7, a8, a9⟩ := fq_vr q1
  obtain ⟨b1, b2, b3, b4, b5, b6, b7, b8, b9⟩ := fq_vr q2
  have hk := KK_eq
  have ix := infp_fin a5 a6
  have iy := infp_fin b5 b6
  refine (qt_fin b7 (by rw [iy]; rintro (c | c); exact a7 c; cases c) ix).2 ?_
  rw [b9, a8, b8, sgi_sgi]
  have hB : (0 : Int) < M2 * 2 ^ (E2 + KK).toNat := Int.mul_pos (by omega) (p2pos _)
  refine h.cross (by omega) hB ?_
  have e1 : sgi t (sgi s (M1 * 2 ^ (E1 + (KK : Int)).toNat)) = sgi (s != t) (M1 * 2 ^ (E1 + (KK : Int)).toNat) := by
    cases s <;> cases t
    · rfl
    · rfl
    · rfl
    · rw [show (true != true) = false from rfl, wsg_f, wsg_t, wsg_t, Int.neg_neg]
  rw [e1, sgi_mul, sgi_mul, sgi_mul]
  congr 1
  rw [hM1, hM2]
  have p1 : (2 : Int) ^ (E1 - E2 + v - w + (KK : Int)).toNat * (2 ^ w * 2 ^ (E2 + (KK : Int)).toNat) = 2 ^ v * 2 ^ (E1 + (KK : Int)).toNat * 2 ^ KK := by
    rw [← Int.pow_add, ← Int.pow_add, ← Int.pow_add, ← Int.pow_add]
    congr 1
    omega
  have four : ∀ α β a b c d e f : Int, a * (b * c) = d * e * f → α * a * (β * b * c) = α * d * e * f * β := fun α β a b c d e f h => by
    have h1 : α * a * (β * b * c) = α * β * (a * (b * c)) := by
      rw [Int.mul_assoc β b c, Int.mul_assoc α a, ← Int.mul_assoc a β, Int.mul_comm a β, Int.mul_assoc β a, ← Int.mul_assoc α β]
    have h2 : α * d * e * f * β = α * β * (d * e * f) := by
      rw [Int.mul_assoc α d e, Int.mul_assoc α (d * e) f, Int.mul_right_comm α]
    rw [h1, h2, h]
  exact four _ _ _ _ _ _ _ _ p1
/-- The root of a number above nought. -/
theorem root_fin {up : Bool} {M E x : Int} {α v : Nat} {r : Int} (q : Fq 1 false M E x) (hM : M = (α : Int) * 2 ^ v) (hv : v < 64) (h : Rt up ((α : Int) * 2 ^ (E + v + 2 * (KK : Int)).toNat) r) : Rt up (vr x * 2 ^ KK) r := by
  obtain ⟨a1, a2, a3, a4, a5, a6, a7, a8, a9⟩ := fq_vr q
  have hk := KK_eq
  have e : vr x * 2 ^ KK = (α : Int) * 2 ^ (E + v + 2 * (KK : Int)).toNat := by
    have ex : v + ((E + (KK : Int)).toNat + KK) = (E + v + 2 * (KK : Int)).toNat := by omega
    rw [a8, wsg_f, hM, Int.mul_assoc, Int.mul_assoc, ← Int.pow_add, ← Int.pow_add, ex]
  rw [e]
  exact h
theorem rt_exact {up : Bool} {X r : Int} (h0 : 0 < r) (h1 : r < 19342822337206103650074625) (e : vr r * vr r = X) : Rt up X r := by
  have hr := vr_pos h0
  cases up
  · rw [rt_f]
    exact ⟨by omega, by omega, by omega, fun c => by rw [← e]; exact sq_lt (by omega) (vr_succ r)⟩
  · rw [rt_t]
    refine ⟨h0, by omega, fun _ => by omega, ?_⟩
    rw [← e]
    have := vr_succ (r - 1)
    rw [show r - 1 + 1 = r by omega] at this
    exact sq_lt (vr_nn (by omega)) this
end Go.Proofs.YtpmakljahhhnfaaDoor

/-
  Quotients and roots by their highest bits, and whether something is left behind these. Plain arithmetic; no Go text.
-/
namespace Go.Proofs.YtpmakljahhhnfaaDoor
open Go.RowKit
set_option linter.unusedVariables false

theorem stk_iff {q d d' : Nat} (h : d = 0 ↔ d' = 0) : stk q d = stk q d' := by
  unfold stk
  by_cases c : d = 0
  · rw [if_pos c, if_pos (h.1 c)]
  · rw [if_neg c, if_neg (fun e => c (h.2 e))]
theorem stk_two (q d : Nat) : stk q d ≤ 2 * q + 1 := by
  unfold stk
  split <;> omega
theorem le_of_blen {a k : Nat} (h0 : 0 < a) (h : k < blen a) : 2 ^ k ≤ a := by
  have h1 := blen_le (n := a) (by omega)
  exact Nat.le_trans (Nat.pow_le_pow_right (by decide) (by omega)) h1
/-- The quotient's bits, the number moved up by k. -/
theorem part_up {α β k : Nat} {e : Int} (hα : 0 < α) (hβ : 0 < β) (hk : (blen β : Int) - (blen α : Int) + 64 = (k : Int)) (ha : blen α ≤ 112000) (hb : blen β ≤ 112000) (e1 : -2200000 ≤ e) (e2 : e ≤ 2200000) (σ up : Bool) :
    Sid up (sgi σ ((α : Int) * 2 ^ (e + KK).toNat)) (β : Int) (rnd up (mk (sgi σ ((stk (α * 2 ^ k / β) (α * 2 ^ k % β) : Nat) : Int)) (e - k - 1)).1 (mk (sgi σ ((stk (α * 2 ^ k / β) (α * 2 ^ k % β) : Nat) : Int)) (e - k - 1)).2) := by
  obtain ⟨κ, hκ⟩ : ∃ κ : Nat, κ = 500000 := ⟨_, rfl⟩
  have la : 0 < blen α := by
    rcases Nat.eq_zero_or_pos (blen α) with c | c
    · have := blen_lt α
      rw [c] at this
      omega
    · exact c
  have hq : 9223372036854775808 ≤ α * 2 ^ k / β := by
    rw [Nat.le_div_iff_mul_le hβ]
    have l1 := blen_lt β
    have l2 : 2 ^ 63 * β ≤ 2 ^ 63 * 2 ^ blen β := Nat.mul_le_mul_left _ (Nat.le_of_lt l1)
    have l3 := le_of_blen (k := blen α - 1) hα (by omega)
    have l4 : 2 ^ (blen α - 1) * 2 ^ k ≤ α * 2 ^ k := Nat.mul_le_mul_right _ l3
    rw [← Nat.pow_add] at l2 l4
    rw [show blen α - 1 + k = 63 + blen β by omega] at l4
    omega
  have hs : stk (α * 2 ^ k / β) (α * 2 ^ k % β) < 2 ^ κ := by
    have q1 : α * 2 ^ k / β ≤ α * 2 ^ k := Nat.div_le_self _ _
    have q2 : α * 2 ^ k < 2 ^ blen α * 2 ^ k := Nat.mul_lt_mul_of_pos_right (blen_lt α) (Nat.pow_pos (by decide))
    rw [← Nat.pow_add] at q2
    have q3 := stk_two (α * 2 ^ k / β) (α * 2 ^ k % β)
    have q4 : 2 ^ (blen α + k + 1) ≤ 2 ^ κ := Nat.pow_le_pow_right (by decide) (by omega)
    rw [Nat.pow_succ] at q4
    omega
  rw [rnd_sgi]
  exact sid_sgi (quo_side (up != σ) hβ (fun _ => hq) hκ hs (by omega) (by omega))
theorem left_iff {α β k : Nat} : α % (β * 2 ^ k) = 0 ↔ α / 2 ^ k * 2 ^ k = α ∧ α / 2 ^ k % β = 0 := by
  have hp : 0 < 2 ^ k := Nat.pow_pos (by decide)
  constructor
  · intro h
    obtain ⟨t, ht⟩ := Nat.dvd_of_mod_eq_zero h
    have e : α / 2 ^ k = β * t := by
      rw [ht, Nat.mul_right_comm, Nat.mul_div_cancel _ hp]
    rw [e]
    refine ⟨?_, Nat.mul_mod_right _ _⟩
    rw [ht, Nat.mul_right_comm]
  · rintro ⟨a, b⟩
    obtain ⟨t, ht⟩ := Nat.dvd_of_mod_eq_zero b
    rw [← a, ht, Nat.mul_right_comm]
    exact Nat.mul_mod_right _ _
/-- The quotient's bits, of the number's highest ones. -/
theorem part_dn {α β k d : Nat} {e : Int} (hα : 0 < α) (hβ : 0 < β) (hk : (blen β : Int) - (blen α : Int) + 64 = -(k : Int)) (ha : blen α ≤ 112000) (e1 : -2200000 ≤ e) (e2 : e ≤ 2200000) (hd : d = 0 ↔ (α / 2 ^ k * 2 ^ k = α ∧ α / 2 ^ k % β = 0)) (σ up : Bool) :
    Sid up (sgi σ ((α : Int) * 2 ^ (e + KK).toNat)) (β : Int) (rnd up (mk (sgi σ ((stk (α / 2 ^ k / β) d : Nat) : Int)) (e + k - 1)).1 (mk (sgi σ ((stk (α / 2 ^ k / β) d : Nat) : Int)) (e + k - 1)).2) := by
  have hKK := KK_eq
  obtain ⟨κ, hκ⟩ : ∃ κ : Nat, κ = 500000 := ⟨_, rfl⟩
  have hp : 0 < 2 ^ k := Nat.pow_pos (by decide)
  have hD : 0 < β * 2 ^ k := Nat.mul_pos hβ hp
  have es : stk (α / 2 ^ k / β) d = stk (α / (β * 2 ^ k)) (α % (β * 2 ^ k)) := by
    rw [Nat.div_div_eq_div_mul, Nat.mul_comm (2 ^ k) β]
    exact stk_iff (hd.trans left_iff.symm)
  rw [es]
  have hq : 9223372036854775808 ≤ α / (β * 2 ^ k) := by
    rw [Nat.le_div_iff_mul_le hD]
    have l1 := blen_lt β
    have l2 : 2 ^ 63 * (β * 2 ^ k) ≤ 2 ^ 63 * (2 ^ blen β * 2 ^ k) := Nat.mul_le_mul_left _ (Nat.mul_le_mul_right _ (Nat.le_of_lt l1))
    have l3 := le_of_blen (k := blen α - 1) hα (by omega)
    rw [← Nat.pow_add, ← Nat.pow_add] at l2
    rw [show blen α - 1 = 63 + (blen β + k) by omega] at l3
    omega
  have hs : stk (α / (β * 2 ^ k)) (α % (β * 2 ^ k)) < 2 ^ κ := by
    have q1 : α / (β * 2 ^ k) ≤ α := Nat.div_le_self _ _
    have q2 := blen_lt α
    have q3 := stk_two (α / (β * 2 ^ k)) (α % (β * 2 ^ k))
    have q4 : 2 ^ (blen α + 1) ≤ 2 ^ κ := Nat.pow_le_pow_right (by decide) (by omega)
    rw [Nat.pow_succ] at q4
    omega
  have h := quo_side (α := α) (β := β * 2 ^ k) (e := e + k) (n := 0) (up != σ) hD (fun _ => by rw [Nat.pow_zero, Nat.mul_one]; exact hq) hκ (by rw [Nat.pow_zero, Nat.mul_one]; exact hs) (by omega) (by omega)
  rw [Nat.pow_zero, Nat.mul_one, show e + (k : Int) - ((0 : Nat) : Int) - 1 = e + k - 1 by omega] at h
  rw [rnd_sgi]
  refine sid_sgi (h.cross (by omega) (by omega) ?_)
  have e3 : (e + (k : Int) + (KK : Int)).toNat = (e + (KK : Int)).toNat + k := by omega
  rw [e3, Int.pow_add]
  push_cast
  generalize (2 : Int) ^ (e + (KK : Int)).toNat = U
  generalize (2 : Int) ^ k = V
  rw [Int.mul_assoc, Int.mul_assoc, Int.mul_assoc, Int.mul_comm V (β : Int)]
/-- A word's root by its bits. -/
theorem part_root {N n S : Nat} {e f : Int} (h0 : 9223372036854775808 ≤ N) (h1 : N < 18446744073709551616) (hn : n = 64 ∨ n = 65) (hf : 2 * f = e - n) (hS : rt (N * 2 ^ n) = S) (e1 : -2200000 ≤ e) (e2 : e ≤ 2200000) (up : Bool) :
    Rt up ((N : Int) * 2 ^ (e + 2 * KK).toNat) (rnd up (mk ((stk S (N * 2 ^ n - S * S) : Nat) : Int) (f - 1)).1 (mk ((stk S (N * 2 ^ n - S * S) : Nat) : Int) (f - 1)).2) := by
  obtain ⟨κ, hκ⟩ : ∃ κ : Nat, κ = 500000 := ⟨_, rfl⟩
  have hsp := rt_spec (N * 2 ^ n)
  rw [hS] at hsp
  have lo_ : 2 ^ 126 ≤ N * 2 ^ n := by
    have : 2 ^ 63 * 2 ^ 64 ≤ N * 2 ^ n := Nat.mul_le_mul h0 (Nat.pow_le_pow_right (by decide) (by omega))
    omega
  have hi_ : N * 2 ^ n < 2 ^ 129 := by
    have : N * 2 ^ n < 2 ^ 64 * 2 ^ n := Nat.mul_lt_mul_of_pos_right h1 (Nat.pow_pos (by decide))
    rw [← Nat.pow_add] at this
    exact Nat.lt_of_lt_of_le this (Nat.pow_le_pow_right (by decide) (by omega))
  have hb : 9223372036854775808 ≤ S := by
    rcases Nat.lt_or_ge S 9223372036854775808 with c | c
    · exfalso
      have h2 : (S + 1) * (S + 1) ≤ 2 ^ 63 * 2 ^ 63 := Nat.mul_le_mul (by omega) (by omega)
      omega
    · exact c
  have hSX : S ≤ S * S := Nat.le_mul_of_pos_right S (by omega)
  have hst : stk S (N * 2 ^ n - S * S) < 2 ^ κ := by
    have q3 := stk_two S (N * 2 ^ n - S * S)
    have q4 : 2 ^ 131 ≤ 2 ^ κ := Nat.pow_le_pow_right (by decide) (by omega)
    omega
  exact root_side (N := N) (e := e) up (by omega) hsp.2 hb hf hκ hst (by omega) (by omega) (by omega) (by omega)
end Go.Proofs.YtpmakljahhhnfaaDoor

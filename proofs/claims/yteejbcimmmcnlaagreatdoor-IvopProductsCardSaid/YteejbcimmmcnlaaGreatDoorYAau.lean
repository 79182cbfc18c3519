/-
  Contracts and words that the statement's proof rests on, several texts in one: Kd, Ke.
-/
import Derived.Test.YteejbcimmmcnlaaGreatDoorYAat
/-
  What num.outward, inward and Next do, and the document's finite and Next.
-/
namespace Go.Proofs.YteejbcimmmcnlaaGreatDoor
open Go.RowKit
set_option linter.unusedVariables false
set_option linter.unusedSimpArgs false
set_option maxRecDepth 100000

theorem nx_out {D : Int} {s : Bool} {M E r : Int} (q : Fq D s M E r) (h0 : D ≠ 0) : nx (!s) r = sgi s (min TP (plc D M E + 1)) := by
  rw [← q.2.2]
  have := TP_eq
  have h1 := plc_pos q h0
  unfold nx
  cases s
  · rfl
  · show max (-TP) (-plc D M E - 1) = -min TP (plc D M E + 1)
    omega
theorem nx_in {D : Int} {s : Bool} {M E r : Int} (q : Fq D s M E r) (h0 : D ≠ 0) : nx s r = sgi s (plc D M E - 1) := by
  have hb := q.bd
  have := TP_eq
  have h1 := plc_pos q h0; rw [← q.2.2] at hb ⊢
  unfold nx
  cases s
  · show max (-TP) (plc D M E - 1) = plc D M E - 1
    omega
  · show min TP (-plc D M E + 1) = -(plc D M E - 1)
    omega
set_option maxHeartbeats 4000000 in
theorem nOut_inf {w : World} {s : Bool} {r : Int} (hr : sgi s TP = r) : Calls Tryz.prog 173 #[.agg #[.int .i64 2, .bool s, .int .u64 0, .int .i64 0]] w (PN w r) := by
  go_enter Tryz.func173, Tryz.ntmps173
  go_upto_region 1 with (fail)
  generalize hW1 : (w.alloc _).alloc _ = w1 at *; obtain ⟨X1, XR, HB⟩ := Bo.en2 hW1; clear hW1; refine Jo.rk [0, 1, 2, 3, 4, 5, 6, 7, 8, 9] [some 3, some 4, some 5, some 6, some 7, some 8, some 9, some 10, some 11, some 12] [[], [0], [1], [2], [3], [3], [3, 5], [3, 6], [3, 4, 7], [3, 8]] 10 0 [Jo.qp w.heap.size 0, Jo.qi 2, Jo.qb true, Jo.qb true, Jo.qu, Jo.qu, Jo.qu, Jo.qu, Jo.qu, Jo.qb true] (by kernel_rfl) (by kernel_rfl) (by decide) rfl ?_ ?_
  · refine Jo.jm rfl ?_ ?_
    · rintro wj hJ K hK; simp only [Jo.z] at hK ⊢; go_simp; exact hK.out _ _ rfl (br _ _)
    refine Jo.jm rfl ?_ ?_
    · rintro wj hJ _ rfl K hK; simp only [Jo.z] at hK ⊢; have xX10 := (X1.below hJ).a 0 (.int .i64 2) rfl; go_simp; exact hK.out _ _ rfl (br _ _)
    refine Jo.jm rfl ?_ ?_
    · rintro wj hJ _ rfl K hK; simp only [Jo.z] at hK ⊢; go_simp; exact hK.out _ _ rfl (br _ _)
    refine Jo.jm rfl ?_ ?_
    · rintro wj hJ _ rfl K hK; simp only [Jo.z] at hK ⊢; go_simp; exact hK.out _ _ rfl (br _ _)
    refine Jo.jm rfl ?_ ?_
    · rintro wj hJ _ rfl K hK; simp only [Jo.z] at hK ⊢; go_simp; exact hK.out _ _ rfl (br _ _)
    refine Jo.jm rfl ?_ ?_
    · rintro wj hJ _ rfl K hK; simp only [Jo.z] at hK ⊢; go_simp; exact hK.out _ _ rfl (br _ _)
    refine Jo.jm rfl ?_ ?_
    · rintro wj hJ _ rfl _ rfl K hK; simp only [Jo.z] at hK ⊢; go_simp; exact hK.out _ _ rfl (br _ _)
    refine Jo.jm rfl ?_ ?_
    · rintro wj hJ _ rfl _ rfl K hK; simp only [Jo.z] at hK ⊢; go_simp; exact hK.out _ _ rfl (br _ _)
    refine Jo.jm rfl ?_ ?_
    · rintro wj hJ _ rfl _ rfl _ rfl K hK; simp only [Jo.z] at hK ⊢; go_simp; exact hK.out _ _ rfl (br _ _)
    refine Jo.jm rfl ?_ ?_
    · rintro wj hJ _ rfl _ rfl K hK; simp only [Jo.z] at hK ⊢; go_simp; exact hK.out _ _ rfl (br _ _)
    exact Jo.Steps.nil
  rintro w2 hJ _ _ _ rfl _ rfl _ rfl _ rfl _ rfl _ rfl _ rfl _ rfl _ rfl -; simp only [Jo.z]; replace X1 := X1.below hJ; replace XR := XR.below hJ; replace HB := Lib.hid (bt HB.out hJ); refine Jo.jdone (by kernel_rfl) ?_; obtain ⟨xX10, xX11, xX12, xX13⟩ := X1.u4
  go_wp2_with fail
  refine (nInf hr).mono ?_; rintro ee w3 ⟨D2, s2, M2, E2, rfl, q2, B⟩; clear xX10 xX11 xX12 xX13; replace X1 := X1.below B; replace XR := XR.below B; replace HB := Lib.hid (bt HB.out B); clear B; obtain ⟨xXR0, xXR1, xXR2, xXR3⟩ := XR.u4; have zXR0 := XR.frozen; obtain ⟨xX10, xX11, xX12, xX13⟩ := X1.u4; go_wp2; clear xXR0 zXR0 xXR1 xXR2 xXR3 xX10 xX11 xX12 xX13; have SX := StN.mk4 XR (.int .i64 D2) (.bool s2) (.int .u64 M2) (.int .i64 E2)
  exact bodyPost_ret (by simp [results, Tryz.results173, go_sem, SX.box.cell]) rfl ⟨_, _, _, _, rfl, q2, (SX.below HB.out (by omega))⟩
set_option maxHeartbeats 4000000 in
theorem nOut_huge {w : World} {s : Bool} {r : Int} (hr : sgi s TP = r) : Calls Tryz.prog 173 #[.agg #[.int .i64 1, .bool s, .int .u64 18446744073709551615, .int .i64 1048576]] w (PN w r) := by
  go_enter Tryz.func173, Tryz.ntmps173
  go_upto_region 1 with (fail)
  generalize hW1 : (w.alloc _).alloc _ = w1 at *; obtain ⟨X1, XR, HB⟩ := Bo.en2 hW1; clear hW1; refine Jo.rk [0, 1, 2, 3, 4, 5, 6, 7, 8, 9] [some 3, some 4, some 5, some 6, some 7, some 8, some 9, some 10, some 11, some 12] [[], [0], [1], [2], [3], [3], [3, 5], [3, 6], [3, 4, 7], [3, 8]] 10 0 [Jo.qp w.heap.size 0, Jo.qi 1, Jo.qb false, Jo.qb false, Jo.q4 1 s 18446744073709551615 1048576, Jo.qp w.heap.size 1, Jo.qb s, Jo.q4 1 s 18446744073709551615 1048576, Jo.qb true, Jo.qb true] (by kernel_rfl) (by kernel_rfl) (by decide) rfl ?_ ?_
  · refine Jo.jm rfl ?_ ?_
    · rintro wj hJ K hK; simp only [Jo.z] at hK ⊢; go_simp; exact hK.out _ _ rfl (br _ _)
    refine Jo.jm rfl ?_ ?_
    · rintro wj hJ _ rfl K hK; simp only [Jo.z] at hK ⊢; have xX10 := (X1.below hJ).a 0 (.int .i64 1) rfl; go_simp; exact hK.out _ _ rfl (br _ _)
    refine Jo.jm rfl ?_ ?_
    · rintro wj hJ _ rfl K hK; simp only [Jo.z] at hK ⊢; go_simp; exact hK.out _ _ rfl (br _ _)
    refine Jo.jm rfl ?_ ?_
    · rintro wj hJ _ rfl K hK; simp only [Jo.z] at hK ⊢; go_simp; exact hK.out _ _ rfl (br _ _)
    refine Jo.jm rfl ?_ ?_
    · rintro wj hJ _ rfl K hK; simp only [Jo.z] at hK ⊢; obtain ⟨xX10, xX11, xX12, xX13⟩ := (X1.below hJ).u4; go_simp; exact hK.out _ _ rfl (br _ _)
    refine Jo.jm rfl ?_ ?_
    · rintro wj hJ _ rfl K hK; simp only [Jo.z] at hK ⊢; go_simp; exact hK.out _ _ rfl (br _ _)
    refine Jo.jm rfl ?_ ?_
    · rintro wj hJ _ rfl _ rfl K hK; simp only [Jo.z] at hK ⊢; have xX11 := (X1.below hJ).a 1 (.bool s) rfl; go_simp; exact hK.out _ _ rfl (br _ _)
    refine Jo.jm rfl ?_ ?_
    · rintro wj hJ _ rfl _ rfl K hK; simp only [Jo.z] at hK ⊢; go_simp; refine (nH).mono ?_; rintro ee wk ⟨rfl, B⟩; exact hK.out _ _ rfl B
    refine Jo.jm rfl ?_ ?_
    · rintro wj hJ _ rfl _ rfl _ rfl K hK; simp only [Jo.z] at hK ⊢; go_simp
      exact hK.out _ _ (by first | rfl | (show Value.bool _ = Value.bool _; simp)) (br _ _)
    refine Jo.jm rfl ?_ ?_
    · rintro wj hJ _ rfl _ rfl K hK; simp only [Jo.z] at hK ⊢; go_simp; exact hK.out _ _ rfl (br _ _)
    exact Jo.Steps.nil
  rintro w2 hJ _ _ _ rfl _ rfl _ rfl _ rfl _ _ _ rfl _ rfl _ rfl _ rfl -; simp only [Jo.z]; replace X1 := X1.below hJ; replace XR := XR.below hJ; replace HB := Lib.hid (bt HB.out hJ); refine Jo.jdone (by kernel_rfl) ?_; obtain ⟨xX10, xX11, xX12, xX13⟩ := X1.u4
  go_wp2_with fail
  refine (nInf hr).mono ?_; rintro ee w3 ⟨D2, s2, M2, E2, rfl, q2, B⟩; clear xX10 xX11 xX12 xX13; replace X1 := X1.below B; replace XR := XR.below B; replace HB := Lib.hid (bt HB.out B); clear B; obtain ⟨xXR0, xXR1, xXR2, xXR3⟩ := XR.u4; have zXR0 := XR.frozen; obtain ⟨xX10, xX11, xX12, xX13⟩ := X1.u4; go_wp2; clear xXR0 zXR0 xXR1 xXR2 xXR3 xX10 xX11 xX12 xX13; have SX := StN.mk4 XR (.int .i64 D2) (.bool s2) (.int .u64 M2) (.int .i64 E2)
  exact bodyPost_ret (by simp [results, Tryz.results173, go_sem, SX.box.cell]) rfl ⟨_, _, _, _, rfl, q2, (SX.below HB.out (by omega))⟩
set_option maxHeartbeats 4000000 in
theorem nOut_carry {w : World} {s : Bool} {E r : Int} (hF : Fq 1 s 9223372036854775808 (E + 1) r) (h1 : -1048576 ≤ E) (h2 : E < 1048576) : Calls Tryz.prog 173 #[.agg #[.int .i64 1, .bool s, .int .u64 18446744073709551615, .int .i64 E]] w (PN w r) := by
  have hq : E ≠ 1048576 := by omega
  have HW : Hid (IntKind.i64.wrap (E + 1) = E + 1) := Lib.hid (IntWalk.i64_in _ (by omega))
  go_enter Tryz.func173, Tryz.ntmps173
  go_upto_region 1 with (fail)
  generalize hW1 : (w.alloc _).alloc _ = w1 at *; obtain ⟨X1, XR, HB⟩ := Bo.en2 hW1; clear hW1; refine Jo.rk [0, 1, 2, 3, 4, 5, 6, 7, 8, 9] [some 3, some 4, some 5, some 6, some 7, some 8, some 9, some 10, some 11, some 12] [[], [0], [1], [2], [3], [3], [3, 5], [3, 6], [3, 4, 7], [3, 8]] 10 0 [Jo.qp w.heap.size 0, Jo.qi 1, Jo.qb false, Jo.qb false, Jo.q4 1 s 18446744073709551615 E, Jo.qp w.heap.size 1, Jo.qb s, Jo.q4 1 s 18446744073709551615 1048576, Jo.qb false, Jo.qb false] (by kernel_rfl) (by kernel_rfl) (by decide) rfl ?_ ?_
  · refine Jo.jm rfl ?_ ?_
    · rintro wj hJ K hK; simp only [Jo.z] at hK ⊢; go_simp; exact hK.out _ _ rfl (br _ _)
    refine Jo.jm rfl ?_ ?_
    · rintro wj hJ _ rfl K hK; simp only [Jo.z] at hK ⊢; have xX10 := (X1.below hJ).a 0 (.int .i64 1) rfl; go_simp; exact hK.out _ _ rfl (br _ _)
    refine Jo.jm rfl ?_ ?_
    · rintro wj hJ _ rfl K hK; simp only [Jo.z] at hK ⊢; go_simp; exact hK.out _ _ rfl (br _ _)
    refine Jo.jm rfl ?_ ?_
    · rintro wj hJ _ rfl K hK; simp only [Jo.z] at hK ⊢; go_simp; exact hK.out _ _ rfl (br _ _)
    refine Jo.jm rfl ?_ ?_
    · rintro wj hJ _ rfl K hK; simp only [Jo.z] at hK ⊢; obtain ⟨xX10, xX11, xX12, xX13⟩ := (X1.below hJ).u4; go_simp; exact hK.out _ _ rfl (br _ _)
    refine Jo.jm rfl ?_ ?_
    · rintro wj hJ _ rfl K hK; simp only [Jo.z] at hK ⊢; go_simp; exact hK.out _ _ rfl (br _ _)
    refine Jo.jm rfl ?_ ?_
    · rintro wj hJ _ rfl _ rfl K hK; simp only [Jo.z] at hK ⊢; have xX11 := (X1.below hJ).a 1 (.bool s) rfl; go_simp; exact hK.out _ _ rfl (br _ _)
    refine Jo.jm rfl ?_ ?_
    · rintro wj hJ _ rfl _ rfl K hK; simp only [Jo.z] at hK ⊢; go_simp; refine (nH).mono ?_; rintro ee wk ⟨rfl, B⟩; exact hK.out _ _ rfl B
    refine Jo.jm rfl ?_ ?_
    · rintro wj hJ _ rfl _ rfl _ rfl K hK; simp only [Jo.z] at hK ⊢; go_simp
      exact hK.out _ _ (by first | rfl | (show Value.bool _ = Value.bool _; simp [hq])) (br _ _)
    refine Jo.jm rfl ?_ ?_
    · rintro wj hJ _ rfl _ rfl K hK; simp only [Jo.z] at hK ⊢; go_simp; exact hK.out _ _ rfl (br _ _)
    exact Jo.Steps.nil
  rintro w2 hJ _ _ _ rfl _ rfl _ rfl _ rfl _ _ _ rfl _ rfl _ rfl _ rfl -; simp only [Jo.z]; replace X1 := X1.below hJ; replace XR := XR.below hJ; replace HB := Lib.hid (bt HB.out hJ); refine Jo.jdone (by kernel_rfl) ?_; obtain ⟨xX10, xX11, xX12, xX13⟩ := X1.u4; have zX10 := X1.frozen
  go_upto_region 5 with (fail)
  clear xX10 zX10 xX11 xX12 xX13
  have SX : StN w2 (World.setCell w2 ⟨w.heap.size, 2, none⟩ (.int .u64 9223372036854775808)) _ _ #[.int .i64 1, .bool s, .int .u64 9223372036854775808, .int .i64 E] _ := StN.at4 X1 2 (.int .u64 9223372036854775808)
  replace XR := XR.stn SX (by omega); replace HB := Lib.hid (SX.below HB.out (by omega)); replace X1 := SX.box; clear SX; generalize World.setCell w2 ⟨w.heap.size, 2, none⟩ (.int .u64 9223372036854775808) = w3 at *; obtain ⟨xX10, xX11, xX12, xX13⟩ := X1.u4; have zX10 := X1.frozen; have hw := HW.out
  go_upto_region 6 with (fail)
  clear hw; clear xX10 zX10 xX11 xX12 xX13
  have SX : StN w3 (World.setCell w3 ⟨w.heap.size, 3, none⟩ (.int .i64 (E + 1))) _ _ #[.int .i64 1, .bool s, .int .u64 9223372036854775808, .int .i64 (E + 1)] _ := StN.at4 X1 3 (.int .i64 (E + 1))
  replace XR := XR.stn SX (by omega); replace HB := Lib.hid (SX.below HB.out (by omega)); replace X1 := SX.box; clear SX; generalize World.setCell w3 ⟨w.heap.size, 3, none⟩ (.int .i64 (E + 1)) = w4 at *; obtain ⟨xXR0, xXR1, xXR2, xXR3⟩ := XR.u4; have zXR0 := XR.frozen; obtain ⟨xX10, xX11, xX12, xX13⟩ := X1.u4; go_wp2; clear xXR0 zXR0 xXR1 xXR2 xXR3 xX10 xX11 xX12 xX13; have SX := StN.mk4 XR (.int .i64 1) (.bool s) (.int .u64 9223372036854775808) (.int .i64 (E + 1))
  exact bodyPost_ret (by simp [results, Tryz.results173, go_sem, SX.box.cell]) rfl ⟨_, _, _, _, rfl, hF, (SX.below HB.out (by omega))⟩
set_option maxHeartbeats 4000000 in
theorem nOut_plus {w : World} {s : Bool} {M E r : Int} (hF : Fq 1 s (M + 1) E r) (h1 : 0 ≤ M) (h2 : M < 18446744073709551615) : Calls Tryz.prog 173 #[.agg #[.int .i64 1, .bool s, .int .u64 M, .int .i64 E]] w (PN w r) := by
  have hq : M ≠ 18446744073709551615 := by omega
  have e1 : (M == 18446744073709551615) = false := by simpa using hq
  have HW : Hid (IntKind.u64.wrap (M + 1) = M + 1) := Lib.hid (IntWalk.u64_in _ (by omega))
  go_enter Tryz.func173, Tryz.ntmps173
  go_upto_region 1 with (fail)
  generalize hW1 : (w.alloc _).alloc _ = w1 at *; obtain ⟨X1, XR, HB⟩ := Bo.en2 hW1; clear hW1; refine Jo.rk [0, 1, 2, 3, 4, 5, 6, 7, 8, 9] [some 3, some 4, some 5, some 6, some 7, some 8, some 9, some 10, some 11, some 12] [[], [0], [1], [2], [3], [3], [3, 5], [3, 6], [3, 4, 7], [3, 8]] 10 0 [Jo.qp w.heap.size 0, Jo.qi 1, Jo.qb false, Jo.qb false, Jo.q4 1 s M E, Jo.qp w.heap.size 1, Jo.qb s, Jo.q4 1 s 18446744073709551615 1048576, Jo.qb false, Jo.qb false] (by kernel_rfl) (by kernel_rfl) (by decide) rfl ?_ ?_
  · refine Jo.jm rfl ?_ ?_
    · rintro wj hJ K hK; simp only [Jo.z] at hK ⊢; go_simp; exact hK.out _ _ rfl (br _ _)
    refine Jo.jm rfl ?_ ?_
    · rintro wj hJ _ rfl K hK; simp only [Jo.z] at hK ⊢; have xX10 := (X1.below hJ).a 0 (.int .i64 1) rfl; go_simp; exact hK.out _ _ rfl (br _ _)
    refine Jo.jm rfl ?_ ?_
    · rintro wj hJ _ rfl K hK; simp only [Jo.z] at hK ⊢; go_simp; exact hK.out _ _ rfl (br _ _)
    refine Jo.jm rfl ?_ ?_
    · rintro wj hJ _ rfl K hK; simp only [Jo.z] at hK ⊢; go_simp; exact hK.out _ _ rfl (br _ _)
    refine Jo.jm rfl ?_ ?_
    · rintro wj hJ _ rfl K hK; simp only [Jo.z] at hK ⊢; obtain ⟨xX10, xX11, xX12, xX13⟩ := (X1.below hJ).u4; go_simp; exact hK.out _ _ rfl (br _ _)
    refine Jo.jm rfl ?_ ?_
    · rintro wj hJ _ rfl K hK; simp only [Jo.z] at hK ⊢; go_simp; exact hK.out _ _ rfl (br _ _)
    refine Jo.jm rfl ?_ ?_
    · rintro wj hJ _ rfl _ rfl K hK; simp only [Jo.z] at hK ⊢; have xX11 := (X1.below hJ).a 1 (.bool s) rfl; go_simp; exact hK.out _ _ rfl (br _ _)
    refine Jo.jm rfl ?_ ?_
    · rintro wj hJ _ rfl _ rfl K hK; simp only [Jo.z] at hK ⊢; go_simp; refine (nH).mono ?_; rintro ee wk ⟨rfl, B⟩; exact hK.out _ _ rfl B
    refine Jo.jm rfl ?_ ?_
    · rintro wj hJ _ rfl _ rfl _ rfl K hK; simp only [Jo.z] at hK ⊢; go_simp
      exact hK.out _ _ (by first | rfl | (show Value.bool _ = Value.bool _; simp [hq])) (br _ _)
    refine Jo.jm rfl ?_ ?_
    · rintro wj hJ _ rfl _ rfl K hK; simp only [Jo.z] at hK ⊢; go_simp; exact hK.out _ _ rfl (br _ _)
    exact Jo.Steps.nil
  rintro w2 hJ _ _ _ rfl _ rfl _ rfl _ rfl _ _ _ rfl _ rfl _ rfl _ rfl -; simp only [Jo.z]; replace X1 := X1.below hJ; replace XR := XR.below hJ; replace HB := Lib.hid (bt HB.out hJ); refine Jo.jdone (by kernel_rfl) ?_; obtain ⟨xX10, xX11, xX12, xX13⟩ := X1.u4; have zX10 := X1.frozen; have hw := HW.out
  go_upto_region 8 with (fail)
  clear hw; clear xX10 zX10 xX11 xX12 xX13
  have SX : StN w2 (World.setCell w2 ⟨w.heap.size, 2, none⟩ (.int .u64 (M + 1))) _ _ #[.int .i64 1, .bool s, .int .u64 (M + 1), .int .i64 E] _ := StN.at4 X1 2 (.int .u64 (M + 1))
  replace XR := XR.stn SX (by omega); replace HB := Lib.hid (SX.below HB.out (by omega)); replace X1 := SX.box; clear SX; generalize World.setCell w2 ⟨w.heap.size, 2, none⟩ (.int .u64 (M + 1)) = w3 at *; obtain ⟨xXR0, xXR1, xXR2, xXR3⟩ := XR.u4; have zXR0 := XR.frozen; obtain ⟨xX10, xX11, xX12, xX13⟩ := X1.u4; go_wp2; clear xXR0 zXR0 xXR1 xXR2 xXR3 xX10 xX11 xX12 xX13; have SX := StN.mk4 XR (.int .i64 1) (.bool s) (.int .u64 (M + 1)) (.int .i64 E)
  exact bodyPost_ret (by simp [results, Tryz.results173, go_sem, SX.box.cell]) rfl ⟨_, _, _, _, rfl, hF, (SX.below HB.out (by omega))⟩
theorem nOut {w : World} {D : Int} {s : Bool} {M E x r : Int} (q : Fq D s M E x) (h0 : D ≠ 0) (hr : nx (!s) x = r) : Calls Tryz.prog 173 #[.agg #[.int .i64 D, .bool s, .int .u64 M, .int .i64 E]] w (PN w r) := by
  rw [nx_out q h0] at hr
  have := TP_eq
  rcases q.plc h0 with ⟨rfl, h1, h2, h3, h4, h5⟩ | ⟨rfl, rfl, rfl, h5⟩ <;> rw [h5] at hr
  · by_cases hm : M = 18446744073709551615
    · subst hm
      by_cases he : E = 1048576
      · subst he; exact nOut_huge hr
      · refine nOut_carry (Fq.fin (by decide) (by decide) (by omega) (by omega) ?_) h3 (by omega); rw [← hr]
        congr 1
        omega
    · refine nOut_plus (Fq.fin (by omega) (by omega) h3 h4 ?_) (by omega) (by omega); rw [← hr]
      congr 1
      omega
  · exact nOut_inf hr
set_option maxHeartbeats 4000000 in
theorem nIn_inf {w : World} {s : Bool} {r : Int} (hF : Fq 1 s 18446744073709551615 1048576 r) : Calls Tryz.prog 172 #[.agg #[.int .i64 2, .bool s, .int .u64 0, .int .i64 0]] w (PN w r) := by
  go_enter Tryz.func172, Tryz.ntmps172
  go_upto_region 1 with (fail)
  generalize hW1 : (w.alloc _).alloc _ = w1 at *; obtain ⟨X1, XR, HB⟩ := Bo.en2 hW1; clear hW1; obtain ⟨xX10, xX11, xX12, xX13⟩ := X1.u4
  go_wp2_with fail
  refine (nH (s := s)).mono ?_; rintro ee w3 ⟨rfl, B⟩; clear xX10 xX11 xX12 xX13; replace X1 := X1.below B; replace XR := XR.below B; replace HB := Lib.hid (bt HB.out B); clear B; obtain ⟨xXR0, xXR1, xXR2, xXR3⟩ := XR.u4; have zXR0 := XR.frozen; obtain ⟨xX10, xX11, xX12, xX13⟩ := X1.u4; go_wp2; clear xXR0 zXR0 xXR1 xXR2 xXR3 xX10 xX11 xX12 xX13; have SX := StN.mk4 XR (.int .i64 1) (.bool s) (.int .u64 18446744073709551615) (.int .i64 1048576)
  exact bodyPost_ret (by simp [results, Tryz.results172, go_sem, SX.box.cell]) rfl ⟨_, _, _, _, rfl, hF, (SX.below HB.out (by omega))⟩
set_option maxHeartbeats 4000000 in
theorem nIn_tiny {w : World} {s : Bool} {r : Int} (hr : 0 = r) : Calls Tryz.prog 172 #[.agg #[.int .i64 1, .bool s, .int .u64 9223372036854775808, .int .i64 (-1048576)]] w (PN w r) := by
  subst hr
  go_enter Tryz.func172, Tryz.ntmps172
  go_upto_region 1 with (fail)
  generalize hW1 : (w.alloc _).alloc _ = w1 at *; obtain ⟨X1, XR, HB⟩ := Bo.en2 hW1; clear hW1; obtain ⟨xX10, xX11, xX12, xX13⟩ := X1.u4
  go_upto_region 3 with (fail)
  clear xX10 xX11 xX12 xX13; refine Jo.rk [0, 1, 2, 3, 4] [some 9, some 10, some 11, some 12, some 13] [[], [], [1], [2], [0, 3]] 5 0 [Jo.Fact.eq (.agg #[.int .i64 1, .bool s, .int .u64 9223372036854775808, .int .i64 (-1048576)]), Jo.qp w.heap.size 1, Jo.qb s, Jo.Fact.eq (.agg #[.int .i64 1, .bool s, .int .u64 9223372036854775808, .int .i64 (-1048576)]), Jo.qb true] (by kernel_rfl) (by kernel_rfl) (by decide) rfl ?_ ?_
  · refine Jo.jm rfl ?_ ?_
    · rintro wj hJ K hK; simp only [Jo.z] at hK ⊢; obtain ⟨xX10, xX11, xX12, xX13⟩ := (X1.below hJ).u4; go_simp; exact hK.out _ _ rfl (br _ _)
    refine Jo.jm rfl ?_ ?_
    · rintro wj hJ K hK; simp only [Jo.z] at hK ⊢; go_simp; exact hK.out _ _ rfl (br _ _)
    refine Jo.jm rfl ?_ ?_
    · rintro wj hJ _ rfl K hK; simp only [Jo.z] at hK ⊢; have xX11 := (X1.below hJ).a 1 (.bool s) rfl; go_simp; exact hK.out _ _ rfl (br _ _)
    refine Jo.jm rfl ?_ ?_
    · rintro wj hJ _ rfl K hK; simp only [Jo.z] at hK ⊢; go_simp; refine (nT).mono ?_; rintro ee wk ⟨rfl, B⟩; exact hK.out _ _ rfl B
    refine Jo.jm rfl ?_ ?_
    · rintro wj hJ _ rfl _ rfl K hK; simp only [Jo.z] at hK ⊢; go_simp
      exact hK.out _ _ (by first | rfl | (show Value.bool _ = Value.bool _; simp)) (br _ _)
    exact Jo.Steps.nil
  rintro w2 hJ _ rfl _ _ _ rfl _ rfl _ rfl -; simp only [Jo.z]; replace X1 := X1.below hJ; replace XR := XR.below hJ; replace HB := Lib.hid (bt HB.out hJ); refine Jo.jdone (by kernel_rfl) ?_; obtain ⟨xXR0, xXR1, xXR2, xXR3⟩ := XR.u4; have zXR0 := XR.frozen; obtain ⟨xX10, xX11, xX12, xX13⟩ := X1.u4; go_wp2; clear xXR0 zXR0 xXR1 xXR2 xXR3 xX10 xX11 xX12 xX13; have SX := StN.mk4 XR (.int .i64 0) (.bool false) (.int .u64 0) (.int .i64 0)
  exact bodyPost_ret (by simp [results, Tryz.results172, go_sem, SX.box.cell]) rfl ⟨_, _, _, _, rfl, Fq.nought, (SX.below HB.out (by omega))⟩
set_option maxHeartbeats 4000000 in
theorem nIn_carry {w : World} {s : Bool} {E r : Int} (hF : Fq 1 s 18446744073709551615 (E - 1) r) (h1 : -1048576 < E) (h2 : E ≤ 1048576) : Calls Tryz.prog 172 #[.agg #[.int .i64 1, .bool s, .int .u64 9223372036854775808, .int .i64 E]] w (PN w r) := by
  have hq : E ≠ -1048576 := by omega
  have HW : Hid (IntKind.i64.wrap (E - 1) = E - 1) := Lib.hid (IntWalk.i64_in _ (by omega))
  go_enter Tryz.func172, Tryz.ntmps172
  go_upto_region 1 with (fail)
  generalize hW1 : (w.alloc _).alloc _ = w1 at *; obtain ⟨X1, XR, HB⟩ := Bo.en2 hW1; clear hW1; obtain ⟨xX10, xX11, xX12, xX13⟩ := X1.u4
  go_upto_region 3 with (fail)
  clear xX10 xX11 xX12 xX13; refine Jo.rk [0, 1, 2, 3, 4] [some 9, some 10, some 11, some 12, some 13] [[], [], [1], [2], [0, 3]] 5 0 [Jo.q4 1 s 9223372036854775808 E, Jo.qp w.heap.size 1, Jo.qb s, Jo.Fact.eq (.agg #[.int .i64 1, .bool s, .int .u64 9223372036854775808, .int .i64 (-1048576)]), Jo.qb false] (by kernel_rfl) (by kernel_rfl) (by decide) rfl ?_ ?_
  · refine Jo.jm rfl ?_ ?_
    · rintro wj hJ K hK; simp only [Jo.z] at hK ⊢; obtain ⟨xX10, xX11, xX12, xX13⟩ := (X1.below hJ).u4; go_simp; exact hK.out _ _ rfl (br _ _)
    refine Jo.jm rfl ?_ ?_
    · rintro wj hJ K hK; simp only [Jo.z] at hK ⊢; go_simp; exact hK.out _ _ rfl (br _ _)
    refine Jo.jm rfl ?_ ?_
    · rintro wj hJ _ rfl K hK; simp only [Jo.z] at hK ⊢; have xX11 := (X1.below hJ).a 1 (.bool s) rfl; go_simp; exact hK.out _ _ rfl (br _ _)
    refine Jo.jm rfl ?_ ?_
    · rintro wj hJ _ rfl K hK; simp only [Jo.z] at hK ⊢; go_simp; refine (nT).mono ?_; rintro ee wk ⟨rfl, B⟩; exact hK.out _ _ rfl B
    refine Jo.jm rfl ?_ ?_
    · rintro wj hJ _ rfl _ rfl K hK; simp only [Jo.z] at hK ⊢; go_simp
      exact hK.out _ _ (by first | rfl | (show Value.bool _ = Value.bool _; simp [hq])) (br _ _)
    exact Jo.Steps.nil
  rintro w2 hJ _ rfl _ _ _ rfl _ rfl _ rfl -; simp only [Jo.z]; replace X1 := X1.below hJ; replace XR := XR.below hJ; replace HB := Lib.hid (bt HB.out hJ); refine Jo.jdone (by kernel_rfl) ?_; obtain ⟨xX10, xX11, xX12, xX13⟩ := X1.u4; have zX10 := X1.frozen
  go_upto_region 7 with (fail)
  clear xX10 zX10 xX11 xX12 xX13
  have SX : StN w2 (World.setCell w2 ⟨w.heap.size, 2, none⟩ (.int .u64 18446744073709551615)) _ _ #[.int .i64 1, .bool s, .int .u64 18446744073709551615, .int .i64 E] _ := StN.at4 X1 2 (.int .u64 18446744073709551615)
  replace XR := XR.stn SX (by omega); replace HB := Lib.hid (SX.below HB.out (by omega)); replace X1 := SX.box; clear SX; generalize World.setCell w2 ⟨w.heap.size, 2, none⟩ (.int .u64 18446744073709551615) = w3 at *; obtain ⟨xX10, xX11, xX12, xX13⟩ := X1.u4; have zX10 := X1.frozen; have hw := HW.out
  go_upto_region 8 with (fail)
  clear hw; clear xX10 zX10 xX11 xX12 xX13
  have SX : StN w3 (World.setCell w3 ⟨w.heap.size, 3, none⟩ (.int .i64 (E - 1))) _ _ #[.int .i64 1, .bool s, .int .u64 18446744073709551615, .int .i64 (E - 1)] _ := StN.at4 X1 3 (.int .i64 (E - 1))
  replace XR := XR.stn SX (by omega); replace HB := Lib.hid (SX.below HB.out (by omega)); replace X1 := SX.box; clear SX; generalize World.setCell w3 ⟨w.heap.size, 3, none⟩ (.int .i64 (E - 1)) = w4 at *; obtain ⟨xXR0, xXR1, xXR2, xXR3⟩ := XR.u4; have zXR0 := XR.frozen; obtain ⟨xX10, xX11, xX12, xX13⟩ := X1.u4; go_wp2; clear xXR0 zXR0 xXR1 xXR2 xXR3 xX10 xX11 xX12 xX13; have SX := StN.mk4 XR (.int .i64 1) (.bool s) (.int .u64 18446744073709551615) (.int .i64 (E - 1))
  exact bodyPost_ret (by simp [results, Tryz.results172, go_sem, SX.box.cell]) rfl ⟨_, _, _, _, rfl, hF, (SX.below HB.out (by omega))⟩
set_option maxHeartbeats 4000000 in
theorem nIn_less {w : World} {s : Bool} {M E r : Int} (hF : Fq 1 s (M - 1) E r) (h1 : 9223372036854775808 < M) (h2 : M ≤ 18446744073709551615) : Calls Tryz.prog 172 #[.agg #[.int .i64 1, .bool s, .int .u64 M, .int .i64 E]] w (PN w r) := by
  have hq : M ≠ 9223372036854775808 := by omega
  have e1 : (M == 9223372036854775808) = false := by simpa using hq
  have HW : Hid (IntKind.u64.wrap (M - 1) = M - 1) := Lib.hid (IntWalk.u64_in _ (by omega))
  go_enter Tryz.func172, Tryz.ntmps172
  go_upto_region 1 with (fail)
  generalize hW1 : (w.alloc _).alloc _ = w1 at *; obtain ⟨X1, XR, HB⟩ := Bo.en2 hW1; clear hW1; obtain ⟨xX10, xX11, xX12, xX13⟩ := X1.u4
  go_upto_region 3 with (fail)
  clear xX10 xX11 xX12 xX13; refine Jo.rk [0, 1, 2, 3, 4] [some 9, some 10, some 11, some 12, some 13] [[], [], [1], [2], [0, 3]] 5 0 [Jo.q4 1 s M E, Jo.qp w.heap.size 1, Jo.qb s, Jo.Fact.eq (.agg #[.int .i64 1, .bool s, .int .u64 9223372036854775808, .int .i64 (-1048576)]), Jo.qb false] (by kernel_rfl) (by kernel_rfl) (by decide) rfl ?_ ?_
  · refine Jo.jm rfl ?_ ?_
    · rintro wj hJ K hK; simp only [Jo.z] at hK ⊢; obtain ⟨xX10, xX11, xX12, xX13⟩ := (X1.below hJ).u4; go_simp; exact hK.out _ _ rfl (br _ _)
    refine Jo.jm rfl ?_ ?_
    · rintro wj hJ K hK; simp only [Jo.z] at hK ⊢; go_simp; exact hK.out _ _ rfl (br _ _)
    refine Jo.jm rfl ?_ ?_
    · rintro wj hJ _ rfl K hK; simp only [Jo.z] at hK ⊢; have xX11 := (X1.below hJ).a 1 (.bool s) rfl; go_simp; exact hK.out _ _ rfl (br _ _)
    refine Jo.jm rfl ?_ ?_
    · rintro wj hJ _ rfl K hK; simp only [Jo.z] at hK ⊢; go_simp; refine (nT).mono ?_; rintro ee wk ⟨rfl, B⟩; exact hK.out _ _ rfl B
    refine Jo.jm rfl ?_ ?_
    · rintro wj hJ _ rfl _ rfl K hK; simp only [Jo.z] at hK ⊢; go_simp
      exact hK.out _ _ (by first | rfl | (show Value.bool _ = Value.bool _; simp [hq])) (br _ _)
    exact Jo.Steps.nil
  rintro w2 hJ _ rfl _ _ _ rfl _ rfl _ rfl -; simp only [Jo.z]; replace X1 := X1.below hJ; replace XR := XR.below hJ; replace HB := Lib.hid (bt HB.out hJ); refine Jo.jdone (by kernel_rfl) ?_; obtain ⟨xX10, xX11, xX12, xX13⟩ := X1.u4; have zX10 := X1.frozen; have hw := HW.out
  go_upto_region 10 with (fail)
  clear hw; clear xX10 zX10 xX11 xX12 xX13
  have SX : StN w2 (World.setCell w2 ⟨w.heap.size, 2, none⟩ (.int .u64 (M - 1))) _ _ #[.int .i64 1, .bool s, .int .u64 (M - 1), .int .i64 E] _ := StN.at4 X1 2 (.int .u64 (M - 1))
  replace XR := XR.stn SX (by omega); replace HB := Lib.hid (SX.below HB.out (by omega)); replace X1 := SX.box; clear SX; generalize World.setCell w2 ⟨w.heap.size, 2, none⟩ (.int .u64 (M - 1)) = w3 at *; obtain ⟨xXR0, xXR1, xXR2, xXR3⟩ := XR.u4; have zXR0 := XR.frozen; obtain ⟨xX10, xX11, xX12, xX13⟩ := X1.u4; go_wp2; clear xXR0 zXR0 xXR1 xXR2 xXR3 xX10 xX11 xX12 xX13; have SX := StN.mk4 XR (.int .i64 1) (.bool s) (.int .u64 (M - 1)) (.int .i64 E)
  exact bodyPost_ret (by simp [results, Tryz.results172, go_sem, SX.box.cell]) rfl ⟨_, _, _, _, rfl, hF, (SX.below HB.out (by omega))⟩
theorem nIn {w : World} {D : Int} {s : Bool} {M E x r : Int} (q : Fq D s M E x) (h0 : D ≠ 0) (hr : nx s x = r) : Calls Tryz.prog 172 #[.agg #[.int .i64 D, .bool s, .int .u64 M, .int .i64 E]] w (PN w r) := by
  rw [nx_in q h0] at hr
  have := TP_eq
  rcases q.plc h0 with ⟨rfl, h1, h2, h3, h4, h5⟩ | ⟨rfl, rfl, rfl, h5⟩ <;> rw [h5] at hr
  · by_cases hm : M = 9223372036854775808
    · subst hm
      by_cases he : E = -1048576
      · subst he; refine nIn_tiny (hr ▸ ?_)
        cases s <;> rfl
      · refine nIn_carry (Fq.fin (by decide) (by decide) (by omega) (by omega) ?_) (by omega) h4; rw [← hr]
        congr 1
        omega
    · refine nIn_less (Fq.fin (by omega) (by omega) h3 h4 ?_) (by omega) (by omega); rw [← hr]
      congr 1
      omega
  · refine nIn_inf (Fq.fin (by decide) (by decide) (by decide) (by decide) ?_); rw [← hr]
    rfl
set_option maxHeartbeats 4000000 in
theorem nNext {w : World} {D M E : Int} {s : Bool} {up : Bool} {r : Int} (hM : M < 18446744073709551616) (hr : nx up (rk D s M E) = r) : Calls Tryz.prog 136 #[.agg #[.int .i64 D, .bool s, .int .u64 M, .int .i64 E], .bool up] w (PN w r) := by
  obtain ⟨x, hx⟩ : ∃ x, rk D s M E = x := ⟨_, rfl⟩; rw [hx] at hr; have HX := Lib.hid hx; have HR := Lib.hid hr; clear hx hr
  go_enter Tryz.func136, Tryz.ntmps136
  go_upto_region 1 with (fail)
  generalize hW1 : (w.alloc _).alloc _ = w1 at *; obtain ⟨X1, XR, HB⟩ := Bo.en2 hW1; clear hW1; obtain ⟨xX10, xX11, xX12, xX13⟩ := X1.u4
  go_wp2_with fail
  refine (nTaken hM HX.out).mono ?_; rintro ee w2 ⟨K1, s1, M1, E1, rfl, q1, B⟩; clear xX10 xX11 xX12 xX13; replace X1 := X1.below B; replace XR := XR.below B; replace HB := Lib.hid (bt HB.out B); clear B; obtain ⟨xX10, xX11, xX12, xX13⟩ := X1.u4; have zX10 := X1.frozen
  go_upto_region 2 with (fail)
  clear xX10 zX10 xX11 xX12 xX13; generalize hS : (((w2.setCell _ _).setCell _ _).setCell _ _).setCell _ _ = w3 at *; have SX := StN.of4 X1 hS; replace XR := XR.stn SX (by omega); replace HB := Lib.hid (SX.below HB.out (by omega)); replace X1 := SX.box; clear SX hS
  by_cases h0 : K1 = 0
  · subst h0; have hz := q1.zero_iff.1 rfl; subst hz
    have hF : Fq 1 (!up) 9223372036854775808 (-1048576) r := Fq.fin (by decide) (by decide) (by decide) (by decide) (by rw [← HR.out]; cases up <;> rfl)
    clear q1; obtain ⟨xX10, xX11, xX12, xX13⟩ := X1.u4
    go_wp2_with fail
    refine (nT).mono ?_; rintro ee w4 ⟨rfl, B⟩; clear xX10 xX11 xX12 xX13; replace X1 := X1.below B; replace XR := XR.below B; replace HB := Lib.hid (bt HB.out B); clear B; obtain ⟨xXR0, xXR1, xXR2, xXR3⟩ := XR.u4; have zXR0 := XR.frozen; obtain ⟨xX10, xX11, xX12, xX13⟩ := X1.u4; go_wp2; clear xXR0 zXR0 xXR1 xXR2 xXR3 xX10 xX11 xX12 xX13; have SX := StN.mk4 XR (.int .i64 1) (.bool (!up)) (.int .u64 9223372036854775808) (.int .i64 (-1048576))
    exact bodyPost_ret (by simp [results, Tryz.results136, go_sem, SX.box.cell]) rfl ⟨_, _, _, _, rfl, hF, (SX.below HB.out (by omega))⟩
  · have e0 : (K1 == 0) = false := by simpa using h0
    by_cases hs : s1 = up
    · subst hs; obtain ⟨xX10, xX11, xX12, xX13⟩ := X1.u4
      go_wp2_with fail
      refine (nIn q1 h0 HR.out).mono ?_; rintro ee w4 ⟨K2, s2, M2, E2, rfl, q2, B⟩; clear xX10 xX11 xX12 xX13; replace X1 := X1.below B; replace XR := XR.below B; replace HB := Lib.hid (bt HB.out B); clear B; obtain ⟨xXR0, xXR1, xXR2, xXR3⟩ := XR.u4; have zXR0 := XR.frozen; obtain ⟨xX10, xX11, xX12, xX13⟩ := X1.u4; go_wp2; clear xXR0 zXR0 xXR1 xXR2 xXR3 xX10 xX11 xX12 xX13; have SX := StN.mk4 XR (.int .i64 K2) (.bool s2) (.int .u64 M2) (.int .i64 E2)
      exact bodyPost_ret (by simp [results, Tryz.results136, go_sem, SX.box.cell]) rfl ⟨_, _, _, _, rfl, q2, (SX.below HB.out (by omega))⟩
    · obtain rfl : (!s1) = up := by cases s1 <;> cases up <;> first | rfl | exact absurd rfl hs
      clear hs
      have e2 : (s1 == !s1) = false := by cases s1 <;> rfl
      obtain ⟨xX10, xX11, xX12, xX13⟩ := X1.u4
      go_wp2_with fail
      refine (nOut q1 h0 HR.out).mono ?_; rintro ee w4 ⟨K2, s2, M2, E2, rfl, q2, B⟩; clear xX10 xX11 xX12 xX13; replace X1 := X1.below B; replace XR := XR.below B; replace HB := Lib.hid (bt HB.out B); clear B; obtain ⟨xXR0, xXR1, xXR2, xXR3⟩ := XR.u4; have zXR0 := XR.frozen; obtain ⟨xX10, xX11, xX12, xX13⟩ := X1.u4; go_wp2; clear xXR0 zXR0 xXR1 xXR2 xXR3 xX10 xX11 xX12 xX13; have SX := StN.mk4 XR (.int .i64 K2) (.bool s2) (.int .u64 M2) (.int .i64 E2)
      exact bodyPost_ret (by simp [results, Tryz.results136, go_sem, SX.box.cell]) rfl ⟨_, _, _, _, rfl, q2, (SX.below HB.out (by omega))⟩
end Go.Proofs.YteejbcimmmcnlaaGreatDoor

/-
  What the document's finite and Next do.
-/
namespace Go.Proofs.YteejbcimmmcnlaaGreatDoor
open Go.RowKit
set_option linter.unusedVariables false
set_option linter.unusedSimpArgs false
set_option maxRecDepth 100000

/-- The place of a number of a sign, 64 bits and an exponent, as far as it may be. -/
def fin (s : Bool) (M E : Int) (aw : Bool) : Int := sgi s (if 1048576 < E then (if aw = true then TP else TP - 1) else if E < -1048576 then (if aw = true then 1 else 0) else M - 9223372036854775808 + 1 + (E + 1048576) * 9223372036854775808)
set_option maxHeartbeats 4000000 in
theorem yFin {w : World} {s aw : Bool} {M E r : Int} (h1 : 9223372036854775808 ≤ M) (h2 : M < 18446744073709551616) (hr : fin s M E aw = r) : Calls Tryz.prog 139 #[.bool s, .int .u64 M, .int .i64 E, .bool aw] w (PN w r) := by
  unfold fin at hr
  have htp := TP_eq
  by_cases hb : 1048576 < E
  · rw [if_pos hb] at hr
    by_cases ha : aw = true
    · subst ha; rw [if_pos rfl] at hr; have HR := Lib.hid hr; clear hr
      go_enter Tryz.func139, Tryz.ntmps139
      go_upto_region 1 with (fail)
      generalize hW1 : w.alloc _ = w1 at *; obtain ⟨XR, HB⟩ := Bo.en1 hW1; clear hW1
      go_wp2_with fail
      refine (yInf HR.out).mono ?_; rintro ee w2 ⟨K2, s2, M2, E2, rfl, q2, B⟩; replace XR := XR.below B; replace HB := Lib.hid (bt HB.out B); clear B; obtain ⟨xXR0, xXR1, xXR2, xXR3⟩ := XR.u4; have zXR0 := XR.frozen; go_wp2; clear xXR0 zXR0 xXR1 xXR2 xXR3; have SX := StN.mk4 XR (.int .i64 K2) (.bool s2) (.int .u64 M2) (.int .i64 E2); exact bodyPost_ret (by simp [results, Tryz.results139, go_sem, SX.box.cell]) rfl ⟨_, _, _, _, rfl, q2, (SX.below HB.out (by omega))⟩
    · have ha : aw = false := by simpa using ha
      subst ha; rw [if_neg (by decide)] at hr
      have hF : Fq 1 s 18446744073709551615 1048576 r := Fq.fin (by decide) (by decide) (by decide) (by decide) hr
      clear hr
      go_enter Tryz.func139, Tryz.ntmps139
      go_upto_region 1 with (fail)
      generalize hW1 : w.alloc _ = w1 at *; obtain ⟨XR, HB⟩ := Bo.en1 hW1; clear hW1; obtain ⟨xXR0, xXR1, xXR2, xXR3⟩ := XR.u4; have zXR0 := XR.frozen; go_wp2; clear xXR0 zXR0 xXR1 xXR2 xXR3; have SX := StN.mk4 XR (.int .i64 1) (.bool s) (.int .u64 18446744073709551615) (.int .i64 1048576); exact bodyPost_ret (by simp [results, Tryz.results139, go_sem, SX.box.cell]) rfl ⟨_, _, _, _, rfl, hF, (SX.below HB.out (by omega))⟩
  · rw [if_neg hb] at hr
    by_cases hl : E < -1048576
    · rw [if_pos hl] at hr
      by_cases ha : aw = true
      · subst ha; rw [if_pos rfl] at hr
        have hF : Fq 1 s 9223372036854775808 (-1048576) r := Fq.fin (by decide) (by decide) (by decide) (by decide) hr
        clear hr
        go_enter Tryz.func139, Tryz.ntmps139
        go_upto_region 1 with (fail)
        generalize hW1 : w.alloc _ = w1 at *; obtain ⟨XR, HB⟩ := Bo.en1 hW1; clear hW1; obtain ⟨xXR0, xXR1, xXR2, xXR3⟩ := XR.u4; have zXR0 := XR.frozen; go_wp2; clear xXR0 zXR0 xXR1 xXR2 xXR3; have SX := StN.mk4 XR (.int .i64 1) (.bool s) (.int .u64 9223372036854775808) (.int .i64 (-1048576)); exact bodyPost_ret (by simp [results, Tryz.results139, go_sem, SX.box.cell]) rfl ⟨_, _, _, _, rfl, hF, (SX.below HB.out (by omega))⟩
      · have ha : aw = false := by simpa using ha
        subst ha; rw [if_neg (by decide)] at hr
        obtain rfl : 0 = r := by rw [← hr]; cases s <;> rfl
        clear hr
        go_enter Tryz.func139, Tryz.ntmps139
        go_upto_region 1 with (fail)
        generalize hW1 : w.alloc _ = w1 at *; obtain ⟨XR, HB⟩ := Bo.en1 hW1; clear hW1; obtain ⟨xXR0, xXR1, xXR2, xXR3⟩ := XR.u4; have zXR0 := XR.frozen; go_wp2; clear xXR0 zXR0 xXR1 xXR2 xXR3; have SX := StN.mk4 XR (.int .i64 0) (.bool false) (.int .u64 0) (.int .i64 0); exact bodyPost_ret (by simp [results, Tryz.results139, go_sem, SX.box.cell]) rfl ⟨_, _, _, _, rfl, Fq.nought, (SX.below HB.out (by omega))⟩
    · rw [if_neg hl] at hr
      have hF : Fq 1 s M E r := Fq.fin h1 h2 (by omega) (by omega) hr
      clear hr
      go_enter Tryz.func139, Tryz.ntmps139
      go_upto_region 1 with (fail)
      generalize hW1 : w.alloc _ = w1 at *; obtain ⟨XR, HB⟩ := Bo.en1 hW1; clear hW1; obtain ⟨xXR0, xXR1, xXR2, xXR3⟩ := XR.u4; have zXR0 := XR.frozen; go_wp2; clear xXR0 zXR0 xXR1 xXR2 xXR3; have SX := StN.mk4 XR (.int .i64 1) (.bool s) (.int .u64 M) (.int .i64 E); exact bodyPost_ret (by simp [results, Tryz.results139, go_sem, SX.box.cell]) rfl ⟨_, _, _, _, rfl, hF, (SX.below HB.out (by omega))⟩
end Go.Proofs.YteejbcimmmcnlaaGreatDoor
